import PyProof.Rows.All
import Wide.All
import OpenK.AllK
import Wide.FinOn
import Lean
import PyProof.EqAt
import PyProof.EqKinds
import PyProof.TupleCall
import PySem.Challenge.RW_stemshelf_k18_laid_in_turn
set_option Elab.async false
set_option linter.all false
set_option maxRecDepth 100000
namespace L2
open PySem PySem.Spec PyProof.Rows
abbrev Key:=Sum Int Str
def keyIs:Key→Value→Bool
  | .inl k,v=>Value.isInt k v
  | .inr x,v=>Value.isStrOf x v
def keyH (w:World):Key→Int
  | .inl k=>hashInt k
  | .inr x=>hashStr w x
theorem keyIs_shape:∀ {k:Key} {v:Value},keyIs k v = true→(∃ i t,k = Sum.inl i∧v = Value.int i t)∨(∃ x t,k = Sum.inr x∧v = Value.str x t)
  | .inl i,v,h=>by
    obtain ⟨t,e⟩:=Value.isInt_shape (k:=i) (v:=v) h
    exact .inl ⟨i,t,rfl,e⟩
  | .inr x,v,h=>by
    obtain ⟨t,e⟩:=Value.isStrOf_shape (x:=x) (v:=v) h
    exact .inr ⟨x,t,rfl,e⟩
theorem keyIs_int (i:Int) (t:Tok):keyIs (.inl i) (.int i t) = true:=by simp [keyIs,Value.isInt]
theorem keyIs_str (x:Str) (t:Tok):keyIs (.inr x) (.str x t) = true:=by simp [keyIs,Value.isStrOf]
theorem key_ll (a b:Int):decide ((Sum.inl a:Key) = Sum.inl b) = (a == b):=by
  by_cases e:a = b
  · subst e; simp
  · have h:¬ (Sum.inl a:Key) = Sum.inl b:=fun q=>e (Sum.inl.inj q)
    rw [decide_eq_false h]
    exact (beq_eq_false_iff_ne.mpr e).symm
theorem key_rr (a b:Str):decide ((Sum.inr a:Key) = Sum.inr b) = decide (a = b):=by
  by_cases e:a = b
  · subst e; simp
  · have h:¬ (Sum.inr a:Key) = Sum.inr b:=fun q=>e (Sum.inr.inj q)
    rw [decide_eq_false h,decide_eq_false e]
theorem key_lr (a:Int) (b:Str):decide ((Sum.inl a:Key) = Sum.inr b) = false:=decide_eq_false (fun q=>nomatch q)
theorem key_rl (a:Str) (b:Int):decide ((Sum.inr a:Key) = Sum.inl b) = false:=decide_eq_false (fun q=>nomatch q)
def mixKind (prog:Program) (w:World):PySem.KeyKind prog w Key where
  is:=keyIs
  hash:=keyH w
  inj:=fun v a b ha hb=>by
    rcases keyIs_shape ha with ⟨i,t,rfl,rfl⟩ | ⟨x,t,rfl,rfl⟩
    · rcases keyIs_shape hb with ⟨j,u,rfl,e⟩ | ⟨y,u,rfl,e⟩
      · injection e with e1 _; rw [e1]
      · exact nomatch e
    · rcases keyIs_shape hb with ⟨j,u,rfl,e⟩ | ⟨y,u,rfl,e⟩
      · exact nomatch e
      · injection e with e1 _; rw [e1]
  byValue:=fun k v h=>by
    rcases keyIs_shape h with ⟨i,t,rfl,rfl⟩ | ⟨x,t,rfl,rfl⟩ <;> rfl
  pyHash:=fun hv h=>by
    rcases keyIs_shape hv with ⟨i,t,rfl,rfl⟩ | ⟨x,t,rfl,rfl⟩
    · exact wpAny_pyHash_int h
    · exact wpAny_pyHash_str h
  eqBool:=fun hu hv h=>by
    rcases keyIs_shape hu with ⟨i,t,rfl,rfl⟩ | ⟨x,t,rfl,rfl⟩
    · rcases keyIs_shape hv with ⟨j,u,rfl,rfl⟩ | ⟨y,u,rfl,rfl⟩
      · rw [key_ll] at h; exact wpAny_eqBool_int h
      · rw [key_lr] at h; exact SeqAt.EqAt.int_str i t y u _ _ _ _ h
    · rcases keyIs_shape hv with ⟨j,u,rfl,rfl⟩ | ⟨y,u,rfl,rfl⟩
      · rw [key_rl] at h; exact SeqAt.EqAt.str_int x t j u _ _ _ _ h
      · rw [key_rr] at h; exact wpAny_eqBool_str h
  «strs»:=fun k x t v h=>by
    rcases keyIs_shape h with ⟨i,u,rfl,e⟩ | ⟨y,u,rfl,e⟩
    · exact nomatch e
    · injection e with e1 _
      subst e1
      cases v <;> rfl
theorem mixKind_int (prog:Program) (w:World) (i:Int) (t:Tok):(mixKind prog w).is (.inl i) (.int i t) = true:=keyIs_int i t
theorem mixKind_str (prog:Program) (w:World) (x:Str) (t:Tok):(mixKind prog w).is (.inr x) (.str x t) = true:=keyIs_str x t
end L2
namespace L2
open PySem PySem.Spec PyProof.Rows
inductive V where
  | non | bl (b:Bool) | int (i:Int) | str (x:Str) | byt (b:Array UInt8) | flt (b:UInt64) | ref (a:Addr) | ty (n:String)
  deriving DecidableEq
def RelV:V→Value→Prop
  | .non,u=>u = Value.none
  | .bl b,u=>u = Value.bool b
  | .int i,u=>∃ t,u = Value.int i t
  | .str x,u=>∃ t,u = Value.str x t
  | .byt b,u=>∃ t,u = Value.bytes b t
  | .flt b,u=>∃ t,u = Value.float b t
  | .ref a,u=>u = Value.ref a
  | .ty n,u=>u = Value.type n
abbrev Vals:List V→List Value→Prop:=Paired RelV
theorem Vals.length {xs:List V} {us:List Value} (r:Vals xs us):xs.length = us.length:=Paired.length r
theorem Vals.get:∀ {xs:List V} {us:List Value} {i:Nat} {x:V},Vals xs us→xs[i]? = some x→∃ u,us[i]? = some u∧RelV x u
  | _,_,_,_,.nil,e=>by simp at e
  | _,_,0,_,.cons r _,e=>by simp at e; subst e; exact ⟨_,rfl,r⟩
  | _,_,i + 1,x,.cons _ t,e=>by
    obtain ⟨u,h1,h2⟩:=Vals.get (i:=i) (x:=x) t (by simpa using e)
    exact ⟨u,by simpa using h1,h2⟩
theorem Vals.set {x:V} {u:Value} (r:RelV x u):∀ {xs:List V} {us:List Value} (i:Nat),Vals xs us→Vals (xs.set i x) (us.set i u)
  | _,_,_,.nil=>.nil
  | _,_,0,.cons _ t=>.cons r t
  | _,_,i + 1,.cons q t=>.cons q (Vals.set r i t)
theorem Vals.append:∀ {xs ys:List V} {us ws:List Value},Vals xs us→Vals ys ws→Vals (xs ++ ys) (us ++ ws)
  | _,_,_,_,.nil,s=>s
  | _,_,_,_,.cons r t,s=>.cons r (Vals.append t s)
theorem Vals.take:∀ {xs:List V} {us:List Value} (n:Nat),Vals xs us→Vals (xs.take n) (us.take n)
  | _,_,0,_=>.nil
  | _,_,_ + 1,.nil=>.nil
  | _,_,n + 1,.cons r t=>.cons r (Vals.take n t)
theorem Vals.drop:∀ {xs:List V} {us:List Value} (n:Nat),Vals xs us→Vals (xs.drop n) (us.drop n)
  | _,_,0,r=>r
  | _,_,_ + 1,.nil=>.nil
  | _,_,n + 1,.cons _ t=>Vals.drop n t
theorem Vals.none_of:∀ {xs:List V} {us:List Value} {i:Nat},Vals xs us→xs[i]? = none→us[i]? = none:=fun {xs us i} r e=>by
  have h1:=r.length
  have h2:xs.length≤i:=List.getElem?_eq_none_iff.mp e
  exact List.getElem?_eq_none_iff.mpr (by omega)
def RelO:Option V→Option Value→Prop
  | some v,some u=>RelV v u
  | none,none=>True
  | _,_=>False
def KV {κ:Type}:List (κ×V)→List (κ×Value)→Prop:=Paired fun (p:κ×V) (q:κ×Value)=>p.1 = q.1∧RelV p.2 q.2
def kV:Key→V
  | .inl i=>.int i
  | .inr x=>.str x
inductive HO where
  | lst (xs:List V)
  | tup (xs:List V)
  | dK (kvs:List (Key×V)) | dT (kvs:List (List Key×V))
  | set (S:Int→Bool) (n:Nat)
  | ins (C dx:Addr) (fs:List (Str×V))
  | own (x:Addr)
  | xd (fs:List (Str×V))
  | met (f x:Addr)
  | rng (lo hi:Int)
  | frz (o:Obj) (u:HO)
  | tbl (ps:Array Value)
  | ext (φ:Heap→Prop)
abbrev Hp:=Addr→Option HO
def upd (H:Hp) (a:Addr) (o:HO):Hp:=fun b=>if b = a then some o else H b
theorem upd_same {H:Hp} {a:Addr} {o:HO}:upd H a o a = some o:=by unfold upd; rw [if_pos rfl]
theorem upd_ne {H:Hp} {a b:Addr} {o:HO} (h:b≠a):upd H a o b = H b:=by unfold upd; rw [if_neg h]
theorem upd_upd {H:Hp} {a:Addr} {o u:HO}:upd (upd H a o) a u = upd H a u:=by
  funext b; unfold upd; split <;> rfl
theorem ne_of {H:Hp} {a b:Addr} {o u:HO} (h:H a = some o) (h':H b = some u) (d:o≠u):a≠b:=by
  intro e; subst e; rw [h] at h'; exact d (Option.some.inj h')
theorem ne_of_none {H:Hp} {a b:Addr} {o:HO} (h:H a = some o) (h':H b = none):a≠b:=by
  intro e; subst e; rw [h] at h'; cases h'
section
variable (P:Program) (w:World)
def ObjOk (H:Hp) (h:Heap) (a:Addr):HO→Prop
  | .lst xs=>xs.length≤sizeLine∧∃ (its:List Value) (n:Nat),Vals xs its∧h.get? a = some { cls:=.type "list",data:=.seq its.toArray n }
  | .tup xs=>xs.length≤sizeLine∧∃ its:List Value,Vals xs its∧IsTup h a its.toArray
  | .dK kvs=>kvs.length≤sizeLine∧(a == sysModules) = false∧∃ vs,KV kvs vs∧h.DictOf (mixKind P w) a vs
  | .dT kvs=>kvs.length≤sizeLine∧(a == sysModules) = false∧∃ xs:List (List Key×Addr×Value),
      Paired (fun (p:List Key×V) (q:List Key×Addr×Value)=>p.1 = q.1∧H q.2.1 = some (.tup (p.1.map kV))∧RelV p.2 q.2.2) kvs xs∧
      ∃ o es ep,h.get? a = some o∧o.ExactDict∧o.data = .dict es ep∧es.toList = xs.map (entryOfKey (tupleKind (mixKind P w)))∧(xs.map (·.1)).Nodup
  | .set S n=>h.SetOf (intKind P w) a S n
  | .ins C dx fs=>H dx = some (.own a)∧fs.length≤1000∧dx≠a∧h.get? a = some (PySem.W.instObj C dx)∧
      ∃ mA,h.Ns1 dx mA∧(∀ f,RelO (fs.lookup f) (mA f))∧PySem.Within mA (fs.map (·.1))
  | .own _=>∃ o,h.get? a = some o
  | .xd fs=>∃ mA,h.Ns1 a mA∧∀ f,RelO (fs.lookup f) (mA f)
  | .rng lo hi=>∃ t u v,h.get? a = some { cls:=.type "range",data:=.fields #[.int lo t,.int hi u,.int 1 v] }
  | .frz o u=>h.get? a = some o∧ObjOk H h a u
  | .tbl ps=>h.get? a = some { cls:=.none,data:=.fields ps }
  | .met f x=>h.get? a = some (PySem.W.methodObj (.ref f) (.ref x))
  | .ext φ=>φ h∧(∃ o,h.get? a = some o)∧∀ h1 h2:Heap,φ h1→(∀ o,h1.get? a = some o→h2.get? a = some o)→φ h2
def HOk (H:Hp) (h:Heap):Prop:=∀ a o,H a = some o→ObjOk P w H h a o
end
section
variable {P:Program} {w:World} {H H':Hp} {h h':Heap} {a:Addr} {o:HO}
theorem ObjOk.lt (x:ObjOk P w H h a o):a < h.objs.size:=by
  cases o with
  | lst xs=>obtain ⟨_,_,_,_,e⟩:=x; exact Heap.lt_size e
  | tup xs=>obtain ⟨_,_,_,p⟩:=x; exact p.lt
  | dK kvs=>obtain ⟨_,_,_,_,o,_,_,e,_⟩:=x; exact Heap.lt_size e
  | dT kvs=>obtain ⟨_,_,_,_,o,_,_,e,_⟩:=x; exact Heap.lt_size e
  | set S n=>obtain ⟨o,_,_,_,e,_⟩:=x; exact Heap.lt_size e
  | ins C dx fs=>obtain ⟨_,_,_,e,_⟩:=x; exact Heap.lt_size e
  | own y=>obtain ⟨_,e⟩:=x; exact Heap.lt_size e
  | xd fs=>obtain ⟨_,⟨_,_,_,e,_⟩,_⟩:=x; exact Heap.lt_size e
  | rng lo hi=>obtain ⟨_,_,_,e⟩:=x; exact Heap.lt_size e
  | frz ob u=>obtain ⟨e,_⟩:=x; exact Heap.lt_size e
  | tbl ps=>exact Heap.lt_size (show h.get? a = some _ from x)
  | met f y=>exact Heap.lt_size (show h.get? a = some _ from x)
  | ext φ=>obtain ⟨_,⟨_,e⟩,_⟩:=x; exact Heap.lt_size e
theorem Paired.mapP {α β:Type} {F G:α→β→Prop}:∀ {l₁:List α} {l₂:List β},Paired F l₁ l₂→(∀ a b,F a b→G a b)→Paired G l₁ l₂
  | _,_,.nil,_=>.nil
  | _,_,.cons r t,f=>.cons (f _ _ r) (Paired.mapP t f)
theorem ObjOk.stay (x:ObjOk P w H h a o) (k:∀ b u,(b = a∨H b = some (.own a))→h.get? b = some u→h'.get? b = some u)
    (ho:∀ b,H b = some (.own a)→H' b = some (.own a)) (ht:∀ b xs,H b = some (.tup xs)→H' b = some (.tup xs)):ObjOk P w H' h' a o:=by
  induction o with
  | lst xs=>obtain ⟨z,its,n,r,e⟩:=x; exact ⟨z,its,n,r,k _ _ (.inl rfl) e⟩
  | tup xs=>obtain ⟨z,its,r,ob,e,c⟩:=x; exact ⟨z,its,r,ob,k _ _ (.inl rfl) e,c⟩
  | dK kvs=>obtain ⟨z,y,vs,r,ob,es,ep,e,c⟩:=x; exact ⟨z,y,vs,r,ob,es,ep,k _ _ (.inl rfl) e,c⟩
  | dT kvs=>
    obtain ⟨z,y,xs,r,ob,es,ep,e,c⟩:=x
    exact ⟨z,y,xs,Paired.mapP r fun p q z=>⟨z.1,ht _ _ z.2.1,z.2.2⟩,ob,es,ep,k _ _ (.inl rfl) e,c⟩
  | set S n=>obtain ⟨ob,es,ep,t,e,c⟩:=x; exact ⟨ob,es,ep,t,k _ _ (.inl rfl) e,c⟩
  | ins C dx fs=>
    obtain ⟨d,z,ne,e,mA,⟨od,es,ep,e2,c⟩,r⟩:=x
    exact ⟨ho _ d,z,ne,k _ _ (.inl rfl) e,mA,⟨od,es,ep,k _ _ (.inr d) e2,c⟩,r⟩
  | own y=>obtain ⟨ob,e⟩:=x; exact ⟨ob,k _ _ (.inl rfl) e⟩
  | xd fs=>obtain ⟨mA,⟨od,es,ep,e,c⟩,r⟩:=x; exact ⟨mA,⟨od,es,ep,k _ _ (.inl rfl) e,c⟩,r⟩
  | rng lo hi=>obtain ⟨t,u,v,e⟩:=x; exact ⟨t,u,v,k _ _ (.inl rfl) e⟩
  | frz ob u ih=>obtain ⟨e,q⟩:=x; exact ⟨k _ _ (.inl rfl) e,ih q⟩
  | tbl ps=>
    have e:h.get? a = some { cls:=.none,data:=.fields ps }:=x
    show h'.get? a = some { cls:=.none,data:=.fields ps }
    exact k a _ (.inl rfl) e
  | met f y=>
    have e:h.get? a = some (PySem.W.methodObj (.ref f) (.ref y)):=x
    show h'.get? a = some (PySem.W.methodObj (.ref f) (.ref y))
    exact k a _ (.inl rfl) e
  | ext φ=>obtain ⟨p,⟨o,e⟩,st⟩:=x; exact ⟨st _ _ p fun o q=>k _ _ (.inl rfl) q,⟨o,k _ _ (.inl rfl) e⟩,st⟩
theorem HOk.lt (x:HOk P w H h) (e:H a = some o):a < h.objs.size:=(x a o e).lt
theorem HOk.fresh (x:HOk P w H h) (e:h.objs.size≤a):H a = none:=by
  cases q:H a with
  | none=>rfl
  | some u=>exact absurd (Nat.lt_of_lt_of_le (x.lt q) e) (Nat.lt_irrefl _)
theorem HOk.kept (x:HOk P w H h) (k:∀ b u,h.get? b = some u→h'.get? b = some u):HOk P w H h':=fun a o e=>
  (x a o e).stay (fun b u _ q=>k b u q) (fun _ q=>q) fun _ _ q=>q
theorem HOk.laid (x:HOk P w H h) (k:∀ b u,h.get? b = some u→h'.get? b = some u) (hp:h.objs.size≤a) (new:ObjOk P w (upd H a o) h' a o):HOk P w (upd H a o) h':=fun b u e=>by
  have hn:=x.fresh hp
  by_cases hb:b = a
  · subst hb; rw [upd_same] at e; cases e; exact new
  · rw [upd_ne hb] at e
    exact (x b u e).stay (fun c v _ q=>k c v q) (fun c q=>by rw [upd_ne (ne_of_none q hn)]; exact q) fun c xs q=>by rw [upd_ne (ne_of_none q hn)]; exact q
end
def Rd (H:Hp) (a:Addr) (u:HO):Prop:=H a = some u∨∃ o,H a = some (.frz o u)
theorem Rd.of {H:Hp} {a:Addr} {u:HO} (h:H a = some u):Rd H a u:=.inl h
theorem Rd.ok {P:Program} {w:World} {H:Hp} {h:Heap} {a:Addr} {u:HO} (r:Rd H a u) (x:HOk P w H h):ObjOk P w H h a u:=by
  rcases r with r | ⟨o,r⟩
  · exact x a u r
  · obtain ⟨_,q⟩:=x a _ r
    exact q
def Mut:Option HO→Prop
  | some (.lst _)=>True
  | some (.dK _)=>True
  | some (.dT _)=>True
  | some (.set _ _)=>True
  | some (.ins _ _ _)=>True
  | some (.ext _)=>True
  | _=>False
section
variable {P:Program} {w:World} {H:Hp} {h h':Heap} {x e:Addr} {o':HO}
theorem HOk.write (ok:HOk P w H h) (mu:Mut (H x)) (he:e = x∨H e = some (.own x)) (k:∀ b u,b≠e→h.get? b = some u→h'.get? b = some u) (heo:∃ u,h'.get? e = some u)
    (new:ObjOk P w (upd H x o') h' x o'):HOk P w (upd H x o') h':=fun b u q=>by
  have nown:∀ c y,H c = some (.own y)→c≠x:=fun c y r z=>by subst z; rw [r] at mu; exact mu
  have ntup:∀ c xs,H c = some (.tup xs)→c≠x:=fun c xs r z=>by subst z; rw [r] at mu; exact mu
  by_cases hb:b = x
  · subst hb; rw [upd_same] at q; cases q; exact new
  · rw [upd_ne hb] at q
    by_cases hbe:b = e
    · have q':H b = some (.own x):=by
        rcases he with z | z
        · exact absurd (hbe.trans z) hb
        · rw [hbe]; exact z
      rw [q] at q'; cases q'
      obtain ⟨v,hv⟩:=heo
      exact ⟨v,by rw [hbe]; exact hv⟩
    · refine (ok b u q).stay (fun c v hc r=>k c v ?_ r) (fun c r=>by rw [upd_ne (nown c b r)]; exact r) fun c xs r=>by rw [upd_ne (ntup c xs r)]; exact r
      rcases hc with rfl | hc
      · exact hbe
      · rintro rfl
        rcases he with z | z
        · exact nown c b hc z
        · rw [hc] at z; cases z; exact hb rfl
end
structure Un (fs ex:List Addr) (H H':Hp) (h h':Heap):Prop where
  keep:∀ b o,h.get? b = some o→H b = none→b ∉ fs→b ∉ ex→h'.get? b = some o
  slot:∀ b o,h.get? b = some o→H b = none→b∈fs→b ∉ ex→∃ sl,h'.get? b = some { o with slots:=sl }
  free:∀ b o,h.get? b = some o→H b = none→b ∉ ex→H' b = none
  there:∀ b o,h.get? b = some o→b ∉ ex→∃ o',h'.get? b = some o'
  tups:∀ b xs,H b = some (.tup xs)→H' b = some (.tup xs)
  frzs:∀ b o u,H b = some (.frz o u)→H' b = some (.frz o u)
  tbls:∀ b ps,H b = some (.tbl ps)→∃ more,H' b = some (.tbl (ps ++ more))
section
variable {fs fs' ex ex':List Addr} {H H1 H2:Hp} {h h1 h2 h':Heap} {a x e:Addr} {o:HO}
theorem Un.any (u:Un fs ex H H1 h h1) {b:Addr} {ob:Obj} (q:h.get? b = some ob) (n:H b = none) (hx:b ∉ ex):∃ sl,h1.get? b = some { ob with slots:=sl }:=by
  by_cases hb:b∈fs
  · exact u.slot b ob q n hb hx
  · exact ⟨ob.slots,u.keep b ob q n hb hx⟩
theorem Un.trans (a:Un fs ex H H1 h h1) (b:Un fs ex H1 H2 h1 h2):Un fs ex H H2 h h2 where
  keep:=fun c ob q n hc hx=>b.keep c ob (a.keep c ob q n hc hx) (a.free c ob q n hx) hc hx
  slot:=fun c ob q n hc hx=>by
    obtain ⟨sl,e1⟩:=a.slot c ob q n hc hx
    obtain ⟨sl',e2⟩:=b.slot c _ e1 (a.free c ob q n hx) hc hx
    exact ⟨sl',e2⟩
  free:=fun c ob q n hx=>by
    obtain ⟨o',e1⟩:=a.there c ob q hx
    exact b.free c o' e1 (a.free c ob q n hx) hx
  there:=fun c ob q hx=>by
    obtain ⟨o',e1⟩:=a.there c ob q hx
    exact b.there c o' e1 hx
  tups:=fun c xs q=>b.tups c xs (a.tups c xs q)
  frzs:=fun c ob xs q=>b.frzs c ob xs (a.frzs c ob xs q)
  tbls:=fun c ps q=>by
    obtain ⟨m1,e1⟩:=a.tbls c ps q
    obtain ⟨m2,e2⟩:=b.tbls c _ e1
    exact ⟨m1 ++ m2,by rw [e2,Array.append_assoc]⟩
theorem Un.kept (k:∀ b u,h.get? b = some u→h'.get? b = some u):Un fs ex H H h h':=
  ⟨fun b ob q _ _ _=>k b ob q,fun b ob q _ _ _=>⟨ob.slots,k b ob q⟩,fun _ _ _ n _=>n,fun b ob q _=>⟨ob,k b ob q⟩,fun _ _ q=>q,fun _ _ _ q=>q,fun _ ps q=>⟨#[],by rw [q]; simp⟩⟩
theorem Un.refl:Un fs ex H H h h:=Un.kept fun _ _ q=>q
theorem Un.laid (k:∀ b u,h.get? b = some u→h'.get? b = some u) (hp:h.objs.size≤a) (hn:H a = none):Un fs ex H (upd H a o) h h' where
  keep:=fun b u q _ _ _=>k b u q
  slot:=fun b u q _ _ _=>⟨u.slots,k b u q⟩
  free:=fun b u q n _=>by rw [upd_ne (Nat.ne_of_lt (Nat.lt_of_lt_of_le (Heap.lt_size q) hp))]; exact n
  there:=fun b u q _=>⟨u,k b u q⟩
  tups:=fun b xs q=>by rw [upd_ne (ne_of_none q hn)]; exact q
  frzs:=fun b u xs q=>by rw [upd_ne (ne_of_none q hn)]; exact q
  tbls:=fun b ps q=>⟨#[],by rw [upd_ne (ne_of_none q hn),q]; simp⟩
theorem Un.write (mu:Mut (H x)) (he:e = x∨H e = some (.own x)) (k:∀ b u,b≠e→h.get? b = some u→h'.get? b = some u) (heo:∃ u,h'.get? e = some u):Un fs ex H (upd H x o) h h':=by
  have hx:∀ b,H b = none→b≠x:=fun b n z=>by subst z; rw [n] at mu; exact mu
  have hb:∀ b,H b = none→b≠e:=fun b n z=>by
    subst z
    rcases he with r | r
    · exact hx b n r
    · rw [n] at r; cases r
  have hm:∀ b u,H b = some u→¬ Mut (some u)→b≠x:=fun b u q nm z=>by subst z; rw [q] at mu; exact nm mu
  refine ⟨fun b u q n _ _=>k b u (hb b n) q,fun b u q n _ _=>⟨u.slots,k b u (hb b n) q⟩,fun b u q n _=>by rw [upd_ne (hx b n)]; exact n,fun b u q _=>?_,
    fun b xs q=>by rw [upd_ne (hm b _ q fun z=>z)]; exact q,fun b u xs q=>by rw [upd_ne (hm b _ q fun z=>z)]; exact q,fun b ps q=>⟨#[],by rw [upd_ne (hm b _ q fun z=>z),q]; simp⟩⟩
  by_cases hbe:b = e
  · subst hbe; exact heo
  · exact ⟨u,k b u hbe q⟩
theorem Un.mono (u:Un fs ex H H1 h h1) (hs:∀ b∈fs,b∈fs') (hx:∀ b∈ex,b∈ex'):Un fs' ex' H H1 h h1:=
  ⟨fun b ob q n hb he=>u.keep b ob q n (fun z=>hb (hs b z)) fun z=>he (hx b z),fun _ _ q n _ he=>u.any q n fun z=>he (hx _ z),fun b ob q n he=>u.free b ob q n fun z=>he (hx b z),fun b ob q he=>u.there b ob q fun z=>he (hx b z),u.tups,u.frzs,u.tbls⟩
end
def trk (h:Heap) (H:Hp):List Addr:=(List.range h.objs.size).filter fun a=>(H a).isSome
def hidT (h:Heap) (H:Hp):Heap:=PySem.W.hideAll h (trk h H)
theorem hidT_size (h:Heap) (H:Hp):(hidT h H).objs.size = h.objs.size:=PySem.W.hideAll_size _ _
theorem hidT_get {h:Heap} {H:Hp} {b:Addr} {o:Obj} (e:h.get? b = some o) (n:H b = none):(hidT h H).get? b = some o:=
  PySem.W.hideAll_get _ e fun hm=>by
    have q:(H b).isSome = true:=(List.mem_filter.mp hm).2
    rw [n] at q; simp at q
theorem of_hidT {h:Heap} {H:Hp} {b:Addr} {o:Obj} (e:(hidT h H).get? b = some o):h.get? b = some o∧H b = none:=by
  have e':h.get? b = some o:=PySem.W.of_hideAll (trk h H) e
  refine ⟨e',?_⟩
  cases q:H b with
  | none=>rfl
  | some x=>
    have hm:b∈trk h H:=List.mem_filter.mpr ⟨List.mem_range.mpr (Heap.lt_size e'),by simp [q]⟩
    have z:(hidT h H).get? b = none:=PySem.W.hideAll_none (trk h H) hm
    rw [z] at e; cases e
def allNews (g h:Heap) (L:Addr):List (Addr×Obj):=(List.range h.objs.size).filterMap fun a=>if a = L∨(g.get? a).isSome = true then none else (h.get? a).map fun o=>(a,o)
def rest (g h:Heap) (L d:Addr):List (Addr×Obj):=(allNews g h L).filter fun p=>decide (p.1≠d)
end L2
namespace L2
open PySem PySem.Spec PyProof.Rows
structure Mod (K:PySem.W.Frag) (mg:Str→Option Value) (base:Heap):Prop where
  kin:K.In base
  glob:base.Ns mainGlobals mg
  blt:∃ mb,base.Ns builtinsNs mb∧∀ x:Str,x≠"__name__"→mb x = bootBuiltins x
  nolimit:base.NoLimit
structure Cx where
  prog:Program
  w:World
  K:PySem.W.Frag
  mg:Str→Option Value
  base:Heap
  A:Around
  N:List Str
  s₀:Shared
  H₀:Hp
  env:Env
  outer:List Env
  stack:List Env
  ex:List Addr
  fn:Str→Bool
  calm:Bool
  pn:List (Addr×Obj)
  xe:Value→Shared→Prop
def frs (l:List Env):List Addr:=l.filterMap (·.frame)
abbrev Cx.fs (X:Cx):List Addr:=frs X.outer
def Vis (sc:Scope) (x:Str):Prop:=sc.names.lookup x = some .local∨sc.names.lookup x = some .cell∨sc.names.lookup x = some .free
def Loc (sc:Scope) (x:Str):Prop:=sc.names.lookup x = some .local∨sc.names.lookup x = some .cell
def Look (env:Env) (h:Heap) (m:Str→Option Value) (x:Str) (u:Value):Prop:=
  (env.kindOf x = some .local∧m x = some u)∨((env.kindOf x = some .cell∨env.kindOf x = some .free)∧∃ c,env.cells.lookup x = some c∧h.IsCell c (some u))
structure Cx.Ok (X:Cx):Prop where
  mod:Mod X.K X.mg X.base
  kind:X.env.scope.kind = .function
  glob:X.env.globals = mainGlobals
  blt:X.env.builtins = builtinsNs
  above:X.s₀.heap.objs.size≤X.env.locals
  inj:∀ x y c,X.env.cells.lookup x = some c→X.env.cells.lookup y = some c→x = y
  has:∀ x,(X.env.kindOf x = some .cell∨X.env.kindOf x = some .free)→∃ c,X.env.cells.lookup x = some c
  cab:∀ x c,X.fn x = true→X.env.cells.lookup x = some c→X.s₀.heap.objs.size≤c
  hd:X.calm = true→X.A.handled = none
  frames:X.A.frames = some X.stack
  stk:X.stack = X.outer∨(X.stack = X.env :: X.outer∧X.env.frame = some X.env.locals)
  exf:∀ b∈X.ex,b≠X.env.locals∧∀ x c,X.env.cells.lookup x = some c→c≠b
  bs:∀ b o,X.base.get? b = some o→X.s₀.heap.get? b = some o∧X.H₀ b = none
  bsz:X.base.objs.size≤X.s₀.heap.objs.size
  noex:∀ b o,X.base.get? b = some o→b ∉ X.ex
  exfs:∀ b∈X.ex,b ∉ X.fs
  funs:X.s₀.heap.FunFrames X.base X.outer
  frf:∀ b∈X.fs,X.H₀ b = none
structure Inv (X:Cx) (pins:List (Addr×Obj)) (σ:List (Option V)) (H:Hp) (s:Shared):Prop where
  ok:X.Ok
  os:s.os = X.s₀.os
  bare:AllBare s.gens
  base:Un X.fs X.ex X.H₀ H X.s₀.heap s.heap
  loc:∃ m,s.heap.Ns X.env.locals m∧∀ (i:Nat) (x:Str) (v:V),X.N[i]? = some x→σ[i]? = some (some v)→Vis X.env.scope x→∃ u,RelV v u∧Look X.env s.heap m x u
  cell:∀ x c,X.env.cells.lookup x = some c→∃ v,s.heap.IsCell c v
  free:H X.env.locals = none
  freeC:∀ x c,X.env.cells.lookup x = some c→H c = none
  pin:∀ p∈X.pn ++ pins,s.heap.get? p.1 = some p.2∧H p.1 = none∧p.1≠X.env.locals∧p.1 ∉ X.fs∧∀ v,p.2.data≠.cell v
  hok:HOk X.prog X.w H s.heap
  len:σ.length = X.N.length
section
variable {X:Cx} {pins:List (Addr×Obj)} {σ:List (Option V)} {H H':Hp} {s:Shared} {h':Heap}
theorem Cx.Ok.nofr (ok:X.Ok) {b:Addr} {o:Obj} (e:X.base.get? b = some o):b ∉ X.fs:=fun hb=>by
  have:=(ok.funs.mem hb).1
  rw [e] at this; cases this
theorem Inv.bs (I:Inv X pins σ H s):∀ b o,X.base.get? b = some o→s.heap.get? b = some o∧H b = none:=fun b o e=>
  ⟨I.base.keep b o (I.ok.bs b o e).1 (I.ok.bs b o e).2 (I.ok.nofr e) (I.ok.noex b o e),I.base.free b o (I.ok.bs b o e).1 (I.ok.bs b o e).2 (I.ok.noex b o e)⟩
theorem Inv.bk (I:Inv X pins σ H s):∀ b o,X.base.get? b = some o→s.heap.get? b = some o:=fun b o e=>(I.bs b o e).1
theorem Inv.mod (I:Inv X pins σ H s):Mod X.K X.mg X.base:=I.ok.mod
theorem Inv.kIn (I:Inv X pins σ H s):X.K.In s.heap:=I.ok.mod.kin.keeps I.bk
theorem Inv.nolimit (I:Inv X pins σ H s):s.heap.NoLimit:=I.ok.mod.nolimit.keeps I.bk
theorem Inv.fr (I:Inv X pins σ H s):∃ m,Fr X.base X.env.locals s.heap m:=
  let ⟨m,hn,_⟩:=I.loc
  ⟨m,hn,I.bk,Nat.le_trans I.ok.bsz I.ok.above⟩
theorem Inv.lt (I:Inv X pins σ H s):X.env.locals < s.heap.objs.size:=let ⟨_,hn,_⟩:=I.loc; hn.lt
theorem Inv.sz (I:Inv X pins σ H s):X.s₀.heap.objs.size≤s.heap.objs.size:=Nat.le_trans I.ok.above (Nat.le_of_lt I.lt)
theorem Inv.nofs (I:Inv X pins σ H s) {a:Addr} (h:s.heap.objs.size≤a):a ∉ X.fs:=fun hb=>by
  obtain ⟨_,o,ho,_⟩:=I.ok.funs.mem hb
  exact absurd (Nat.lt_of_lt_of_le (Heap.lt_size ho) (Nat.le_trans I.sz h)) (Nat.lt_irrefl _)
theorem Inv.cne (I:Inv X pins σ H s):∀ x c,X.env.cells.lookup x = some c→c≠X.env.locals:=fun x c e z=>by
  obtain ⟨v,o,ho,hd⟩:=I.cell x c e
  obtain ⟨m,⟨o',es,ep,ho',hd',_⟩,_⟩:=I.loc
  rw [z,ho'] at ho; cases ho; rw [hd'] at hd; cases hd
theorem Inv.funs (I:Inv X pins σ H s):s.heap.FunFrames X.base X.outer:=by
  have all:∀ (l:List Env),(∀ b∈frs l,b∈X.fs)→X.s₀.heap.FunFrames X.base l→s.heap.FunFrames X.base l:=by
    intro l
    induction l with
    | nil=>intro _ _; trivial
    | cons env r ih=>
      intro hs hl
      obtain ⟨hk,⟨L,o,hf,hn,ho,hd⟩,hr⟩:=hl
      have hL:L∈X.fs:=hs L (by unfold frs; rw [List.filterMap_cons,hf]; exact List.mem_cons_self)
      obtain ⟨sl,e⟩:=I.base.slot L o ho (I.ok.frf L hL) hL fun z=>I.ok.exfs L z hL
      exact ⟨hk,⟨L,_,hf,hn,e,hd⟩,ih (fun b hb=>hs b (by unfold frs; rw [List.filterMap_cons,hf]; exact List.mem_cons_of_mem _ hb)) hr⟩
  exact all X.outer (fun _ hb=>hb) I.ok.funs
theorem Inv.stack (I:Inv X pins σ H s):s.heap.FunFrames X.base X.stack:=by
  rcases I.ok.stk with e | ⟨e,hf⟩
  · rw [e]; exact I.funs
  · rw [e]
    obtain ⟨m,hn,_⟩:=I.loc
    refine .cons (by rw [I.ok.kind]; decide) hf hn ?_ I.funs
    exact Heap.get?_none_of_le (Nat.le_trans I.ok.bsz I.ok.above)
theorem Inv.stkSub (I:Inv X pins σ H s):∀ b∈frs X.stack,b∈X.env.locals :: X.fs:=fun b hb=>by
  rcases I.ok.stk with e | ⟨e,hf⟩
  · rw [e] at hb; exact List.mem_cons_of_mem _ hb
  · rw [e] at hb
    unfold frs at hb
    rw [List.filterMap_cons,hf] at hb
    exact hb
theorem Inv.stkFree (I:Inv X pins σ H s):∀ b∈frs X.stack,H b = none:=fun b hb=>by
  rcases List.mem_cons.mp (I.stkSub b hb) with e | hb
  · rw [e]; exact I.free
  · obtain ⟨_,o,ho,_⟩:=I.ok.funs.mem hb
    exact I.base.free b o ho (I.ok.frf b hb) fun z=>I.ok.exfs b z hb
theorem Inv.step {g':Array GenState} {t':Nat} {d':Drawn} {ch:List Addr} (I:Inv X pins σ H s)
    (hch:∀ b∈ch,(b∈X.ex∨X.s₀.heap.objs.size≤b)∧b≠X.env.locals∧(∀ x c,X.env.cells.lookup x = some c→c≠b)∧∀ p∈X.pn ++ pins,p.1≠b)
    (keep:∀ b o,b≠X.env.locals→b ∉ X.fs→b ∉ ch→s.heap.get? b = some o→H b = none→h'.get? b = some o)
    (slot:∀ b o,b≠X.env.locals→b∈X.fs→b ∉ ch→s.heap.get? b = some o→H b = none→∃ sl,h'.get? b = some { o with slots:=sl }) (free:∀ b o,b ∉ ch→s.heap.get? b = some o→H b = none→H' b = none)
    (there:∀ b o,b ∉ ch→s.heap.get? b = some o→∃ o',h'.get? b = some o')
    (tups:∀ b xs,H b = some (.tup xs)→H' b = some (.tup xs)) (frzs:∀ b o u,H b = some (.frz o u)→H' b = some (.frz o u)) (tbls:∀ b ps,H b = some (.tbl ps)→∃ more,H' b = some (.tbl (ps ++ more)))
    (ns:∀ m,s.heap.Ns X.env.locals m→h'.Ns X.env.locals m) (hok:HOk X.prog X.w H' h') (hg:AllBare g') :
    Inv X pins σ H' { s with heap:=h',gens:=g',drawn:=d',toks:=t' }:=by
  have neL:∀ b o,X.s₀.heap.get? b = some o→b≠X.env.locals:=fun b o e=>Nat.ne_of_lt (Nat.lt_of_lt_of_le (Heap.lt_size e) I.ok.above)
  have neC:∀ b o,X.s₀.heap.get? b = some o→b ∉ X.ex→b ∉ ch:=fun b o e hx hb=>by
    rcases (hch b hb).1 with z | z
    · exact hx z
    · exact absurd (Nat.lt_of_lt_of_le (Heap.lt_size e) z) (Nat.lt_irrefl _)
  have cellK:∀ x c,X.env.cells.lookup x = some c→∀ v,s.heap.IsCell c v→h'.IsCell c v:=fun x c e v ⟨o,ho,hd⟩=>by
    have nch:c ∉ ch:=fun z=>(hch c z).2.2.1 x c e rfl
    by_cases hc:c∈X.fs
    · obtain ⟨sl,q⟩:=slot c o (I.cne x c e) hc nch ho (I.freeC x c e)
      exact ⟨_,q,hd⟩
    · exact ⟨o,keep c o (I.cne x c e) hc nch ho (I.freeC x c e),hd⟩
  refine ⟨I.ok,I.os,hg,⟨fun b o e n hb hx=>?_,fun b o e n hb hx=>?_,fun b o e n hx=>?_,fun b o e hx=>?_,fun b xs e=>tups b xs (I.base.tups b xs e),fun b o xs e=>frzs b o xs (I.base.frzs b o xs e),fun b ps e=>?_⟩,?_,fun x c e=>?_,?_,fun x c e=>?_,fun p hp=>?_,hok,I.len⟩
  · exact keep b o (neL b o e) hb (neC b o e hx) (I.base.keep b o e n hb hx) (I.base.free b o e n hx)
  · obtain ⟨sl,e1⟩:=I.base.slot b o e n hb hx
    obtain ⟨sl',e2⟩:=slot b _ (neL b o e) hb (neC b o e hx) e1 (I.base.free b o e n hx)
    exact ⟨sl',e2⟩
  · obtain ⟨o',e1⟩:=I.base.there b o e hx
    exact free b o' (neC b o e hx) e1 (I.base.free b o e n hx)
  · obtain ⟨o',e1⟩:=I.base.there b o e hx
    exact there b o' (neC b o e hx) e1
  · obtain ⟨m1,e1⟩:=I.base.tbls b ps e
    obtain ⟨m2,e2⟩:=tbls b _ e1
    exact ⟨m1 ++ m2,by rw [e2,Array.append_assoc]⟩
  · obtain ⟨m,hn,hl⟩:=I.loc
    refine ⟨m,ns m hn,fun i x v e1 e2 e3=>?_⟩
    obtain ⟨u,r,l⟩:=hl i x v e1 e2 e3
    refine ⟨u,r,?_⟩
    rcases l with l | ⟨k,c,e,z⟩
    · exact .inl l
    · exact .inr ⟨k,c,e,cellK x c e _ z⟩
  · obtain ⟨v,z⟩:=I.cell x c e
    exact ⟨v,cellK x c e v z⟩
  · obtain ⟨m,⟨o,_,_,ho,_⟩,_⟩:=I.loc
    exact free _ o (fun z=>(hch _ z).2.1 rfl) ho I.free
  · obtain ⟨v,o,ho,hd⟩:=I.cell x c e
    exact free c o (fun z=>(hch c z).2.2.1 x c e rfl) ho (I.freeC x c e)
  · obtain ⟨e,n,ne,nf,d⟩:=I.pin p hp
    have nch:p.1 ∉ ch:=fun z=>(hch p.1 z).2.2.2 p hp rfl
    exact ⟨keep p.1 p.2 ne nf nch e n,free p.1 p.2 nch e n,ne,nf,d⟩
theorem Inv.un {t':Nat} (I:Inv X pins σ H s) (u:Un X.fs [] H H' s.heap h') (hok:HOk X.prog X.w H' h'):Inv X pins σ H' { s with heap:=h',toks:=t' }:=by
  obtain ⟨m,⟨o,es,ep,ho,r⟩,_⟩:=id I.loc
  obtain ⟨sl,hL⟩:=u.any ho I.free (by simp)
  exact I.step (g':=s.gens) (d':=s.drawn) (ch:=[]) (fun _ z=>nomatch z) (fun b o _ hb _ e n=>u.keep b o e n hb (by simp)) (fun b o _ hb _ e n=>u.slot b o e n hb (by simp)) (fun b o _ e n=>u.free b o e n (by simp)) (fun b o _ e=>u.there b o e (by simp)) u.tups u.frzs u.tbls (fun m' hm=>by
    obtain ⟨o',es',ep',ho',r'⟩:=hm
    rw [ho] at ho'; cases ho'
    exact ⟨_,es',ep',hL,r'⟩) hok I.bare
theorem Inv.call {g':Array GenState} {t':Nat} {d':Drawn} {ch:List Addr} (I:Inv X pins σ H s) (u:Un (frs X.stack) ch H H' s.heap h') (hok:HOk X.prog X.w H' h') (hg:AllBare g')
    (hch:∀ b∈ch,(b∈X.ex∨X.s₀.heap.objs.size≤b)∧b≠X.env.locals∧(∀ x c,X.env.cells.lookup x = some c→c≠b)∧∀ p∈X.pn ++ pins,p.1≠b) :
    Inv X pins σ H' { s with heap:=h',gens:=g',drawn:=d',toks:=t' }:=by
  obtain ⟨m,⟨o,es,ep,ho,r⟩,_⟩:=id I.loc
  obtain ⟨sl,hL⟩:=u.any ho I.free fun z=>(hch _ z).2.1 rfl
  exact I.step (ch:=ch) hch (fun b o hL hb hc e n=>u.keep b o e n (fun z=>(List.mem_cons.mp (I.stkSub b z)).elim hL hb) hc) (fun b o _ _ hc e n=>u.any e n hc) (fun b o hc e n=>u.free b o e n hc) (fun b o hc e=>u.there b o e hc) u.tups u.frzs u.tbls (fun m' hm=>by
    obtain ⟨o',es',ep',ho',r'⟩:=hm
    rw [ho] at ho'; cases ho'
    exact ⟨_,es',ep',hL,r'⟩) hok hg
theorem Inv.turned {t':Nat} {it:Addr} (I:Inv X pins σ H s) (k:∀ b o,b≠it→s.heap.get? b = some o→h'.get? b = some o) (hn:H it = none) (hL:it≠X.env.locals)
    (h1:it∈X.ex∨X.s₀.heap.objs.size≤it) (h2:∀ x c,X.env.cells.lookup x = some c→c≠it) (h3:∀ p∈X.pn ++ pins,p.1≠it):Inv X pins σ H { s with heap:=h',toks:=t' }:=by
  have nit:∀ b u,H b = some u→b≠it:=fun b u e z=>by rw [z,hn] at e; cases e
  refine I.step (g':=s.gens) (d':=s.drawn) (ch:=[it]) (fun b hb=>?_) (fun b o _ _ hc e _=>k b o (fun z=>hc (by simp [z])) e) (fun b o _ _ hc e _=>⟨o.slots,k b o (fun z=>hc (by simp [z])) e⟩) (fun _ _ _ _ n=>n)
    (fun b o hc e=>⟨o,k b o (fun z=>hc (by simp [z])) e⟩) (fun _ _ e=>e) (fun _ _ _ e=>e) (fun b ps e=>⟨#[],by rw [e]; simp⟩) (fun m hm=>?_) (fun b u e=>?_) I.bare
  · have e:b = it:=by simpa using hb
    subst e
    exact ⟨h1,hL,h2,h3⟩
  · obtain ⟨o,es,ep,ho,r⟩:=hm
    exact ⟨o,es,ep,k _ o (Ne.symm hL) ho,r⟩
  · refine (I.hok b u e).stay (fun c v hc q=>k c v ?_ q) (fun _ q=>q) fun _ _ q=>q
    rcases hc with z | z
    · rw [z]; exact nit b u e
    · exact nit c _ z
theorem Inv.tok (I:Inv X pins σ H s) (t:Nat):Inv X pins σ H { s with toks:=t }:=I.un (h':=s.heap) (t':=t) Un.refl I.hok
theorem Inv.kept {t':Nat} (I:Inv X pins σ H s) (k:∀ b u,s.heap.get? b = some u→h'.get? b = some u):Inv X pins σ H { s with heap:=h',toks:=t' }:=I.un (Un.kept k) (I.hok.kept k)
theorem Inv.laid {a:Addr} {o:HO} {t':Nat} (I:Inv X pins σ H s) (k:∀ b u,s.heap.get? b = some u→h'.get? b = some u) (hp:s.heap.objs.size≤a) (new:ObjOk X.prog X.w (upd H a o) h' a o) :
    Inv X pins σ (upd H a o) { s with heap:=h',toks:=t' }:=I.un (Un.laid k hp (I.hok.fresh hp)) (I.hok.laid k hp new)
theorem Inv.write {x e:Addr} {o:HO} {t':Nat} (I:Inv X pins σ H s) (mu:Mut (H x)) (he:e = x∨H e = some (.own x)) (k:∀ b u,b≠e→s.heap.get? b = some u→h'.get? b = some u) (heo:∃ u,h'.get? e = some u)
    (new:ObjOk X.prog X.w (upd H x o) h' x o):Inv X pins σ (upd H x o) { s with heap:=h',toks:=t' }:=I.un (Un.write mu he k heo) (I.hok.write mu he k heo new)
theorem Inv.pins_of {pins':List (Addr×Obj)} (I:Inv X pins σ H s) (h:∀ p∈pins',s.heap.get? p.1 = some p.2∧H p.1 = none∧p.1≠X.env.locals∧p.1 ∉ X.fs∧∀ v,p.2.data≠.cell v):Inv X pins' σ H s:=
  ⟨I.ok,I.os,I.bare,I.base,I.loc,I.cell,I.free,I.freeC,fun p hp=>(List.mem_append.mp hp).elim (fun z=>I.pin p (List.mem_append_left _ z)) (h p),I.hok,I.len⟩
theorem nodup_ix {N:List Str} (hN:N.Nodup) {i j:Nat} {x:Str} (a:N[i]? = some x) (b:N[j]? = some x):i = j:=by
  obtain ⟨h1,e1⟩:=List.getElem?_eq_some_iff.mp a
  obtain ⟨h2,e2⟩:=List.getElem?_eq_some_iff.mp b
  exact (List.getElem_inj hN).mp (e1.trans e2.symm)
theorem store_ok2 {M:Model} {A:Around} {E:Value→Shared→Prop} {i:Nat} {x:Str} {v:V} {u:Value} {Q:Unit→Shared→Prop} (I:Inv X pins σ H s) (hN:X.N.Nodup) (hi:X.N[i]? = some x) (hx:Loc X.env.scope x) (r:RelV v u)
    (h:∀ s',Inv X pins (σ.set i (some v)) H s'→(∃ a,Heap.SameBut a s.heap s'.heap∧(a = X.env.locals∨X.env.cells.lookup x = some a))→Q () s') (hf:X.fn x = true∨X.env.scope.names.lookup x = some .local:=by first | exact .inl rfl | exact .inr rfl | assumption):wpAny M A (storeName X.env x u) Q E s:=by
  obtain ⟨m,hn,hl⟩:=id I.loc
  have hcls:(X.env.scope.kind == .class || (X.env.scope.kind == .module && X.env.locals != X.env.globals)) = false:=by rw [I.ok.kind]; rfl
  have hiσ:i < σ.length:=by rw [I.len]; exact (List.getElem?_eq_some_iff.mp hi).1
  have cne:=I.cne
  have tracked:∀ {a:Addr} {h':Heap},(∃ o,s.heap.get? a = some o∧H a = none)→Heap.SameBut a s.heap h'→HOk X.prog X.w H h':=fun {a h'} ha hs b ob e=>by
    obtain ⟨_,_,hfree⟩:=ha
    refine (I.hok b ob e).stay (fun c w' hc q=>(hs.2 c ?_).trans q) (fun _ q=>q) fun _ _ q=>q
    rintro rfl
    rcases hc with rfl | hc
    · rw [hfree] at e; cases e
    · rw [hfree] at hc; cases hc
  rcases hx with hk | hk
  · refine wpAny_storeName_local hk hn (fun h' hn' hs=>?_) hcls
    obtain ⟨oL,_,_,hoL,_⟩:=id hn
    refine h _ ⟨I.ok,I.os,I.bare,⟨fun b o e n hb hx=>?_,fun b o e n hb hx=>?_,I.base.free,fun b o e hx=>?_,I.base.tups,I.base.frzs,I.base.tbls⟩,⟨_,hn',fun j y v' e1 e2 e3=>?_⟩,fun y c e=>?_,I.free,I.freeC,fun p hp=>?_,tracked ⟨oL,hoL,I.free⟩ hs,by simpa using I.len⟩ ⟨_,hs,.inl rfl⟩
    · exact (hs.2 b (Nat.ne_of_lt (Nat.lt_of_lt_of_le (Heap.lt_size e) I.ok.above))).trans (I.base.keep b o e n hb hx)
    · obtain ⟨sl,e1⟩:=I.base.slot b o e n hb hx
      exact ⟨sl,(hs.2 b (Nat.ne_of_lt (Nat.lt_of_lt_of_le (Heap.lt_size e) I.ok.above))).trans e1⟩
    · obtain ⟨o',e1⟩:=I.base.there b o e hx
      exact ⟨o',(hs.2 b (Nat.ne_of_lt (Nat.lt_of_lt_of_le (Heap.lt_size e) I.ok.above))).trans e1⟩
    · by_cases hj:j = i
      · subst hj
        rw [hi] at e1; cases e1
        rw [List.getElem?_set_self hiσ] at e2
        cases e2
        exact ⟨u,r,.inl ⟨hk,by simp⟩⟩
      · rw [List.getElem?_set_ne (Ne.symm hj)] at e2
        obtain ⟨u',r',q⟩:=hl j y v' e1 e2 e3
        refine ⟨u',r',?_⟩
        rcases q with ⟨k,e⟩ | ⟨k,c,e,z⟩
        · refine .inl ⟨k,?_⟩
          have:y≠x:=fun e=>hj (nodup_ix hN e1 (e ▸ hi))
          simp [this,e]
        · exact .inr ⟨k,c,e,z.sameBut hs (cne y c e)⟩
    · obtain ⟨w',z⟩:=I.cell y c e
      exact ⟨w',z.sameBut hs (cne y c e)⟩
    · obtain ⟨e,n,ne,nf,d⟩:=I.pin p hp
      exact ⟨(hs.2 p.1 ne).trans e,n,ne,nf,d⟩
  · have hfn:X.fn x = true:=by
      rcases hf with z | z
      · exact z
      · rw [z] at hk; cases hk
    obtain ⟨c,hc⟩:=I.ok.has x (.inl hk)
    obtain ⟨w',z⟩:=I.cell x c hc
    refine wpAny_storeName_cell I.ok.kind hk hc z (fun h' hc' hs=>?_)
    obtain ⟨oc,hoc,hocd⟩:=id z
    refine h { s with heap:=h' } ⟨I.ok,I.os,I.bare,⟨fun b o e n hb hx=>?_,fun b o e n hb hx=>?_,I.base.free,fun b o e hx=>?_,I.base.tups,I.base.frzs,I.base.tbls⟩,⟨m,hn.sameBut hs (Ne.symm (cne x c hc)),fun j y v' e1 e2 e3=>?_⟩,fun y c' e=>?_,I.free,I.freeC,fun p hp=>?_,tracked ⟨oc,hoc,I.freeC x c hc⟩ hs,by simpa using I.len⟩ ⟨c,hs,.inr hc⟩
    · exact (hs.2 b (Nat.ne_of_lt (Nat.lt_of_lt_of_le (Heap.lt_size e) (I.ok.cab x c hfn hc)))).trans (I.base.keep b o e n hb hx)
    · obtain ⟨sl,e1⟩:=I.base.slot b o e n hb hx
      exact ⟨sl,(hs.2 b (Nat.ne_of_lt (Nat.lt_of_lt_of_le (Heap.lt_size e) (I.ok.cab x c hfn hc)))).trans e1⟩
    · obtain ⟨o',e1⟩:=I.base.there b o e hx
      exact ⟨o',(hs.2 b (Nat.ne_of_lt (Nat.lt_of_lt_of_le (Heap.lt_size e) (I.ok.cab x c hfn hc)))).trans e1⟩
    · by_cases hj:j = i
      · subst hj
        rw [hi] at e1; cases e1
        rw [List.getElem?_set_self hiσ] at e2
        cases e2
        exact ⟨u,r,.inr ⟨.inl hk,c,hc,hc'⟩⟩
      · rw [List.getElem?_set_ne (Ne.symm hj)] at e2
        obtain ⟨u',r',q⟩:=hl j y v' e1 e2 e3
        refine ⟨u',r',?_⟩
        rcases q with q | ⟨k,c',e,z'⟩
        · exact .inl q
        · refine .inr ⟨k,c',e,z'.sameBut hs ?_⟩
          rintro rfl
          exact hj (nodup_ix hN e1 (I.ok.inj _ _ _ e hc ▸ hi))
    · by_cases hcc:c' = c
      · subst hcc; exact ⟨_,hc'⟩
      · obtain ⟨w2,z2⟩:=I.cell y c' e
        exact ⟨w2,z2.sameBut hs hcc⟩
    · obtain ⟨e,n,ne,nf,d⟩:=I.pin p hp
      refine ⟨(hs.2 p.1 ?_).trans e,n,ne,nf,d⟩
      intro q
      rw [q,hoc] at e
      have q':oc = p.2:=Option.some.inj e
      exact d w' (by rw [← q']; exact hocd)
theorem store_ok {M:Model} {A:Around} {E:Value→Shared→Prop} {i:Nat} {x:Str} {v:V} {u:Value} {Q:Unit→Shared→Prop} (I:Inv X pins σ H s) (hN:X.N.Nodup) (hi:X.N[i]? = some x) (hx:Loc X.env.scope x) (r:RelV v u)
    (h:∀ s',Inv X pins (σ.set i (some v)) H s'→Q () s') (hf:X.fn x = true∨X.env.scope.names.lookup x = some .local:=by first | exact .inl rfl | exact .inr rfl | assumption):wpAny M A (storeName X.env x u) Q E s:=
  store_ok2 I hN hi hx r (fun s' I' _=>h s' I') hf
theorem Inv.call' {s':Shared} {ch:List Addr} (I:Inv X pins σ H s) (ho:s'.os = s.os) (u:Un (frs X.stack) ch H H' s.heap s'.heap) (hok:HOk X.prog X.w H' s'.heap) (hg:AllBare s'.gens)
    (hch:∀ b∈ch,(b∈X.ex∨X.s₀.heap.objs.size≤b)∧b≠X.env.locals∧(∀ x c,X.env.cells.lookup x = some c→c≠b)∧∀ p∈X.pn ++ pins,p.1≠b):Inv X pins σ H' s':=by
  obtain ⟨h',g',d',t',o'⟩:=s'
  have e:o' = s.os:=ho
  subst e
  exact I.call (g':=g') (t':=t') (d':=d') u hok hg hch
end
abbrev XK:=Value→Option Addr→Hp→Prop
abbrev St:=List (Option V)
abbrev VK:=V→Hp→Prop
abbrev TE:=St→Hp→VK→Prop
abbrev TT:=St→Hp→(Bool→Hp→Prop)→Prop
abbrev TA:=St→Hp→(List V→Hp→Prop)→Prop
structure Ends where
  nx:St→Hp→Prop
  rt:VK
  bk:St→Hp→Prop:=fun _ _=>False
  ct:St→Hp→Prop:=fun _ _=>False
abbrev TS:=Ends→St→Hp→Prop
def EP (X:Cx) (pins:List (Addr×Obj)) (σ:St) (Q:VK) (u:Value) (s':Shared):Prop:=∃ v H',Inv X pins σ H' s'∧RelV v u∧Q v H'
def TP (X:Cx) (pins:List (Addr×Obj)) (σ:St) (Q:Bool→Hp→Prop) (b:Bool) (s':Shared):Prop:=∃ H',Inv X pins σ H' s'∧Q b H'
def AP (X:Cx) (pins:List (Addr×Obj)) (σ:St) (Q:List V→Hp→Prop) (us:List Value) (s':Shared):Prop:=∃ vs H',Inv X pins σ H' s'∧Vals vs us∧Q vs H'
def SP (X:Cx) (pins:List (Addr×Obj)) (D:Ends) (f:Flow) (s':Shared):Prop:=
  match f with
  | .next=>∃ σ' H',Inv X pins σ' H' s'∧D.nx σ' H'
  | .brk=>∃ σ' H',Inv X pins σ' H' s'∧D.bk σ' H'
  | .cont=>∃ σ' H',Inv X pins σ' H' s'∧D.ct σ' H'
  | .ret u=>∃ v σ' H',Inv X pins σ' H' s'∧RelV v u∧D.rt v H'
def PE (X:Cx) (e:Expr) (t:TE):Prop:=
  ∀ (pins:List (Addr×Obj)) (s:Shared) (σ:St) (H:Hp) (Q:VK),Inv X pins σ H s→t σ H Q→wpAny (model X.prog X.w) X.A (eval e X.env) (EP X pins σ Q) X.xe s
def PT (X:Cx) (e:Expr) (t:TT):Prop:=
  ∀ (pins:List (Addr×Obj)) (s:Shared) (σ:St) (H:Hp) (Q:Bool→Hp→Prop),Inv X pins σ H s→t σ H Q→wpAny (model X.prog X.w) X.A (isTrue e X.env (eval e X.env)) (TP X pins σ Q) X.xe s
def PW (X:Cx) (e:Expr) (t:TT):Prop:=
  ∀ (whole:Sem Value) (pins:List (Addr×Obj)) (s:Shared) (σ:St) (H:Hp) (Q:Bool→Hp→Prop),Inv X pins σ H s→t σ H Q→wpAny (model X.prog X.w) X.A (isTrue e X.env whole) (TP X pins σ Q) X.xe s
theorem PW.pt {X:Cx} {e:Expr} {t:TT} (h:PW X e t):PT X e t:=h _
def PA (X:Cx) (es:List Expr) (t:TA):Prop:=
  ∀ (pos:Pos) (pins:List (Addr×Obj)) (s:Shared) (σ:St) (H:Hp) (Q:List V→Hp→Prop),Inv X pins σ H s→t σ H Q→wpAny (model X.prog X.w) X.A (spliced (backTo pos (starEach es X.env))) (AP X pins σ Q) X.xe s
def PS (X:Cx) (st:Stmt) (t:TS):Prop:=
  ∀ (pins:List (Addr×Obj)) (s:Shared) (σ:St) (H:Hp) (D:Ends),Inv X pins σ H s→t D σ H→wpAny (model X.prog X.w) X.A (exec st X.env) (SP X pins D) X.xe s
def PSs (X:Cx) (st:List Stmt) (t:TS):Prop:=
  ∀ (pins:List (Addr×Obj)) (s:Shared) (σ:St) (H:Hp) (D:Ends),Inv X pins σ H s→t D σ H→wpAny (model X.prog X.w) X.A (execs st X.env) (SP X pins D) X.xe s
theorem thn {α:Type} {t:Sem α} {Q Q':α→Shared→Prop} {M:Model} {A:Around} {E:Value→Shared→Prop} {s:Shared} (h:wpAny M A t Q E s) (hQ:∀ a s,Q a s→Q' a s):wpAny M A t Q' E s:=wpAny_mono h hQ fun _ _ x=>x
end L2
namespace L2
open PySem PySem.Spec PyProof.Rows
section
variable {X:Cx}
def tVar (i:Nat):TE:=fun σ H Q=>∃ v,σ[i]? = some (some v)∧Q v H
def tC (v:V):TE:=fun _ H Q=>Q v H
theorem pe_var {i:Nat} {x:Str} {pos:Pos} (hN:X.N[i]? = some x) (hv:Vis X.env.scope x) (hd:(x == ("__debug__":Str)) = false:=by decide) (hcd:(x == ("__classdict__":Str)) = false:=by decide):PE X (.Name x pos) (tVar i):=by
  intro pins s σ H Q I h
  obtain ⟨v,e,h⟩:=h
  obtain ⟨m,hn,hl⟩:=I.loc
  obtain ⟨u,r,l⟩:=hl i x v hN e hv
  have fin:EP X pins σ Q u s:=⟨v,H,I,r,h⟩
  rcases l with ⟨hk,hm⟩ | ⟨hk,c,hc,hcell⟩
  · exact wpAny_Name (wpAny_loadName_local I.ok.kind hk hn hm fin) hd
  · rcases hk with hk | hk
    · exact wpAny_Name (wpAny_loadName_cell I.ok.kind hk hc hcell fin) hd
    · exact wpAny_Name (wpAny_loadName_free I.ok.kind hk hc hcell fin hcd) hd
theorem pe_int {i j pos}:PE X (.Constant (.int i) j pos) (tC (.int i)):=fun _ _ _ H _ I h=>wpAny_Constant_int ⟨.int i,H,I.tok _,⟨_,rfl⟩,h⟩
theorem pe_bl {b j pos}:PE X (.Constant (.bool b) j pos) (tC (.bl b)):=fun _ _ _ H _ I h=>Constant_bool ⟨.bl b,H,I,rfl,h⟩
theorem pe_non {j pos}:PE X (.Constant .none j pos) (tC .non):=fun _ _ _ H _ I h=>Constant_none ⟨.non,H,I,rfl,h⟩
theorem pe_str {x j pos}:PE X (.Constant (.str x) j pos) (tC (.str x)):=fun _ _ _ H _ I h=>Calls.Constant_str ⟨.str x,H,I.tok _,⟨_,rfl⟩,h⟩
def Gl (X:Cx) (x:Str):Prop:=X.env.kindOf x = some .globalImplicit
theorem ld_glob {E:Value→Shared→Prop} {pins:List (Addr×Obj)} {s:Shared} {σ:St} {H:Hp} {x:Str} {u:Value} {pos:Pos} {Q:Value→Shared→Prop} (I:Inv X pins σ H s) (hg:Gl X x) (hm:X.mg x = some u) (h:Q u s)
    (hd:(x == ("__debug__":Str)) = false:=by decide):wpAny (model X.prog X.w) X.A (eval (.Name x pos) X.env) Q E s:=
  Calls.Name_function_global I.ok.kind hg (Calls.loadGlobal_global (by rw [I.ok.glob]; exact I.mod.glob.keeps I.bk) hm h) hd
theorem ld_blt {E:Value→Shared→Prop} {pins:List (Addr×Obj)} {s:Shared} {σ:St} {H:Hp} {x:Str} {u:Value} {pos:Pos} {Q:Value→Shared→Prop} (I:Inv X pins σ H s) (hg:Gl X x) (hm:X.mg x = none) (hv:bootBuiltins x = some u) (h:Q u s)
    (hn:x≠"__name__":=by decide) (hd:(x == ("__debug__":Str)) = false:=by decide):wpAny (model X.prog X.w) X.A (eval (.Name x pos) X.env) Q E s:=by
  obtain ⟨mb,h1,h2⟩:=I.mod.blt
  exact Calls.Name_function_global I.ok.kind hg (Calls.loadGlobal_builtin (by rw [I.ok.glob]; exact I.mod.glob.keeps I.bk) hm (by rw [I.ok.blt]; exact h1.keeps I.bk) ((h2 x hn).trans hv) h) hd
theorem pe_glob {x:Str} {v:V} {u:Value} {pos:Pos} (hg:Gl X x) (hm:X.mg x = some u) (r:RelV v u) (hd:(x == ("__debug__":Str)) = false:=by decide):PE X (.Name x pos) (tC v):=
  fun _ _ _ H _ I h=>ld_glob I hg hm ⟨v,H,I,r,h⟩ hd
theorem pe_bltn {x:Str} {v:V} {u:Value} {pos:Pos} (hg:Gl X x) (hm:X.mg x = none) (hv:bootBuiltins x = some u) (r:RelV v u) (hn:x≠"__name__":=by decide) (hd:(x == ("__debug__":Str)) = false:=by decide):PE X (.Name x pos) (tC v):=
  fun _ _ _ H _ I h=>ld_blt I hg hm hv ⟨v,H,I,r,h⟩ hn hd
variable {a b:Expr} {ta tb:TE} {pos:Pos}
def PC (X:Cx) (op:CmpOp) (a b:Expr) (t:TE):Prop:=
  ∀ (pins:List (Addr×Obj)) (s:Shared) (σ:St) (H:Hp) (Q:VK),Inv X pins σ H s→t σ H Q→
    wpAny (model X.prog X.w) X.A (eval a X.env) (fun v s₁=>wpAny (model X.prog X.w) X.A (eval b X.env) (fun u s₂=>wpAny (model X.prog X.w) X.A (compareOp op v u) (EP X pins σ Q) X.xe s₂) X.xe s₁) X.xe s
theorem nobehind (b:Expr) {op:CmpOp} (h:op≠.In) (h2:op≠.NotIn):behindInMarks op b = false:=by
  have e1:(op == CmpOp.In) = false:=by cases op <;> first | rfl | exact absurd rfl h
  have e2:(op == CmpOp.NotIn) = false:=by cases op <;> first | rfl | exact absurd rfl h2
  cases b <;> simp [behindInMarks,e1,e2]
def tIsN (ta:TE):TE:=fun σ H Q=>ta σ H fun x H1=>Q (.bl (decide (x = .non))) H1
def tNotN (ta:TE):TE:=fun σ H Q=>ta σ H fun x H1=>Q (.bl (!decide (x = .non))) H1
theorem RelV.none_iff {x:V} {v:Value} (r:RelV x v):(v == Value.none) = decide (x = .non):=by
  cases x with
  | non=>cases r; rfl
  | bl _=>cases r; rfl
  | int _=>obtain ⟨t,rfl⟩:=r; rfl
  | str _=>obtain ⟨t,rfl⟩:=r; rfl
  | byt _=>obtain ⟨t,rfl⟩:=r; rfl
  | flt _=>obtain ⟨t,rfl⟩:=r; rfl
  | ref _=>cases r; rfl
  | ty _=>cases r; rfl
theorem pc_isN {j pos'} (ha:PE X a ta):PC X .Is a (.Constant .none j pos') (tIsN ta):=by
  intro pins s σ H Q I h
  refine thn (ha pins s σ H _ I h) fun v s1 ⟨x,H1,I1,r1,q1⟩=>?_
  exact Constant_none (is_none_gen ⟨.bl _,H1,I1,by rw [r1.none_iff]; rfl,q1⟩)
theorem pc_notN {j pos'} (ha:PE X a ta):PC X .IsNot a (.Constant .none j pos') (tNotN ta):=by
  intro pins s σ H Q I h
  refine thn (ha pins s σ H _ I h) fun v s1 ⟨x,H1,I1,r1,q1⟩=>?_
  exact Constant_none (isnot_none_gen ⟨.bl _,H1,I1,by rw [r1.none_iff]; rfl,q1⟩)
def tB (t:TE):TT:=fun σ H Q=>t σ H fun x H1=>∃ c,x = .bl c∧Q c H1
theorem pt_cmp {op:CmpOp} {t:TE} (h:PC X op a b t) (h1:behindInMarks op b = false:=by first | exact nobehind _ (by decide) (by decide) | rfl):PT X (.Compare a [op] [b] pos) (tB t):=by
  intro pins s σ H Q I hw
  refine wpAny_isTrue_Compare1 (thn (h pins s σ H _ I hw) fun v s1 h1=>thn h1 fun u s2 h2=>thn h2 fun c s3 ⟨x,H1,I1,r1,q1⟩=>?_) h1
  obtain ⟨d,rfl,q⟩:=q1
  cases r1
  exact wpAny_truthy_bool ⟨H1,I1,q⟩
theorem pt_val {e:Expr} {t:TE} (h:PE X e t) (he:∀ whole,isTrue e X.env whole = (do let v ← whole; standAt e.pos; holding [v] (truthy v)):=by intro _; rfl):PT X e (tB t):=by
  intro pins s σ H Q I hw
  refine isTrue_plain (thn (h pins s σ H _ I hw) fun v s1 ⟨x,H1,I1,r1,q1⟩=>?_) (he _)
  obtain ⟨d,rfl,q⟩:=q1
  cases r1
  exact wpAny_truthy_bool ⟨H1,I1,q⟩
variable {tA tB':TT} {rest:List Expr}
def tAnd (t u:TT):TT:=fun σ H Q=>t σ H fun c H1=>if c = true then u σ H1 Q else Q false H1
def tOr (t u:TT):TT:=fun σ H Q=>t σ H fun c H1=>if c = true then Q true H1 else u σ H1 Q
def tNot (t:TT):TT:=fun σ H Q=>t σ H fun c H1=>Q (!c) H1
theorem pw_and1 (ha:PT X a tA):PW X (.BoolOp .And [a] pos) tA:=by
  intro wh pins s σ H Q I h
  refine isTrue_and (thn (ha pins s σ H Q I h) fun c s1 e=>?_)
  cases c with
  | true=>exact isTrue_and_nil e
  | false=>exact e
theorem pw_or1 (ha:PT X a tA):PW X (.BoolOp .Or [a] pos) tA:=by
  intro wh pins s σ H Q I h
  refine isTrue_or (thn (ha pins s σ H Q I h) fun c s1 e=>?_)
  cases c with
  | false=>exact isTrue_or_nil e
  | true=>exact e
theorem pw_and (ha:PT X a tA) (hb:PW X (.BoolOp .And (b :: rest) pos) tB'):PW X (.BoolOp .And (a :: b :: rest) pos) (tAnd tA tB'):=by
  intro wh pins s σ H Q I h
  refine isTrue_and (thn (ha pins s σ H _ I h) fun c s1 ⟨H1,I1,q1⟩=>?_)
  cases c with
  | true=>exact hb wh pins s1 σ H1 Q I1 q1
  | false=>exact ⟨H1,I1,q1⟩
theorem pw_or (ha:PT X a tA) (hb:PW X (.BoolOp .Or (b :: rest) pos) tB'):PW X (.BoolOp .Or (a :: b :: rest) pos) (tOr tA tB'):=by
  intro wh pins s σ H Q I h
  refine isTrue_or (thn (ha pins s σ H _ I h) fun c s1 ⟨H1,I1,q1⟩=>?_)
  cases c with
  | true=>exact ⟨H1,I1,q1⟩
  | false=>exact hb wh pins s1 σ H1 Q I1 q1
theorem pt_not (ha:PT X a tA):PT X (.UnaryOp .Not a pos) (tNot tA):=by
  intro pins s σ H Q I h
  exact isTrue_not (ha pins s σ H (fun c H1=>Q (!c) H1) I h)
def tAndV (ta tb:TE):TE:=fun σ H Q=>ta σ H fun x H1=>∃ c,x = .bl c∧if c = true then tb σ H1 Q else Q (.bl false) H1
def tNotV (ta:TE):TE:=fun σ H Q=>ta σ H fun x H1=>∃ c,x = .bl c∧Q (.bl (!c)) H1
theorem pe_one {op} {t:TE} (h:PE X a t):PE X (.BoolOp op [a] pos) t:=fun pins s σ H Q I hw=>BoolOp_one (h pins s σ H Q I hw)
theorem pe_and (ha:PE X a ta) (hb:PE X (.BoolOp .And (b :: rest) pos) tb):PE X (.BoolOp .And (a :: b :: rest) pos) (tAndV ta tb):=by
  intro pins s σ H Q I h
  refine BoolOp_and (thn (ha pins s σ H _ I h) fun v s1 ⟨x,H1,I1,r1,q1⟩=>?_)
  obtain ⟨c,rfl,q1⟩:=q1
  cases r1
  refine wpAny_truthy_bool ?_
  cases c with
  | true=>exact hb pins s1 σ H1 Q I1 q1
  | false=>exact ⟨.bl false,H1,I1,rfl,q1⟩
theorem pe_not (ha:PE X a ta):PE X (.UnaryOp .Not a pos) (tNotV ta):=by
  intro pins s σ H Q I h
  refine UnaryOp_ (thn (ha pins s σ H _ I h) fun v s1 ⟨x,H1,I1,r1,q1⟩=>?_)
  obtain ⟨c,rfl,q1⟩:=q1
  cases r1
  exact not_of (wpAny_truthy_bool ⟨.bl (!c),H1,I1,rfl,q1⟩)
end
end L2
namespace L2
open PySem PySem.Spec PyProof.Rows
def SqL (K:PySem.W.Frag) (H:Hp) (a:Addr) (xs:List V):Prop:=
  Rd H a (.lst xs)∨
    ∃ (o:Obj) (its:Array Value) (n:Nat),K.lookup a = some o∧o.cls = .type "list"∧o.dict = none∧o.data = .seq its n∧its.size≤sizeLine∧Vals xs its.toList
def SqT (K:PySem.W.Frag) (H:Hp) (a:Addr) (xs:List V):Prop:=
  Rd H a (.tup xs)∨
    ∃ (o:Obj) (its:Array Value) (n:Nat),K.lookup a = some o∧o.cls = .type "tuple"∧o.data = .seq its n∧its.size≤sizeLine∧Vals xs its.toList
def absV:Value→Option V
  | .none=>some .non
  | .bool b=>some (.bl b)
  | .int i _=>some (.int i)
  | .str x _=>some (.str x)
  | .bytes b _=>some (.byt b)
  | .float b _=>some (.flt b)
  | .ref a=>some (.ref a)
  | .type n=>some (.ty n)
  | _=>none
theorem RelV.abs {x:V} {u:Value} (r:RelV x u):absV u = some x:=by
  cases x with
  | non=>cases r; rfl
  | bl _=>cases r; rfl
  | int _=>obtain ⟨t,rfl⟩:=r; rfl
  | str _=>obtain ⟨t,rfl⟩:=r; rfl
  | byt _=>obtain ⟨t,rfl⟩:=r; rfl
  | flt _=>obtain ⟨t,rfl⟩:=r; rfl
  | ref _=>cases r; rfl
  | ty _=>cases r; rfl
theorem RelV.inj {x y:V} {u:Value} (r:RelV x u) (q:RelV y u):x = y:=Option.some.inj (r.abs.symm.trans q.abs)
theorem Vals.inj:∀ {xs ys:List V} {us:List Value},Vals xs us→Vals ys us→xs = ys
  | _,_,_,.nil,.nil=>rfl
  | _,_,_,.cons r t,.cons r' t'=>by rw [r.inj r',Vals.inj t t']
section
variable {X:Cx} {pins:List (Addr×Obj)} {σ:St} {H:Hp} {s:Shared} {a:Addr} {xs ys:List V}
theorem SqL.of {K:PySem.W.Frag} (h:H a = some (.lst xs)):SqL K H a xs:=.inl (.inl h)
theorem SqT.of {K:PySem.W.Frag} (h:H a = some (.tup xs)):SqT K H a xs:=.inl (.inl h)
theorem Inv.list (I:Inv X pins σ H s) (h:SqL X.K H a xs):∃ its:List Value,Vals xs its∧PlainL s.heap a its.toArray∧xs.length≤sizeLine:=by
  rcases h with h | ⟨o,its,n,hk,hc,hd,hs,hz,r⟩
  · obtain ⟨z,its,n,r,e⟩:=h.ok I.hok
    exact ⟨its,r,⟨_,n,e,rfl,rfl,rfl⟩,z⟩
  · refine ⟨its.toList,r,⟨o,n,I.kIn a o hk,hc,hd,by simpa using hs⟩,?_⟩
    have e:=r.length
    simp only [Array.length_toList] at e
    omega
theorem Inv.tuple (I:Inv X pins σ H s) (h:SqT X.K H a xs):∃ its:List Value,Vals xs its∧IsTup s.heap a its.toArray∧xs.length≤sizeLine:=by
  rcases h with h | ⟨o,its,n,hk,hc,hs,hz,r⟩
  · obtain ⟨z,its,r,p⟩:=h.ok I.hok
    exact ⟨its,r,p,z⟩
  · refine ⟨its.toList,r,⟨o,I.kIn a o hk,hc,n,by simpa using hs⟩,?_⟩
    have e:=r.length
    simp only [Array.length_toList] at e
    omega
theorem Inv.list_inj (I:Inv X pins σ H s) (h:SqL X.K H a xs) (h':SqL X.K H a ys):xs = ys:=by
  obtain ⟨its,r,⟨o,n,e,_,_,d⟩,_⟩:=I.list h
  obtain ⟨its',r',⟨o',n',e',_,_,d'⟩,_⟩:=I.list h'
  rw [e] at e'; cases e'
  rw [d] at d'
  injection d' with d1 _
  have:its = its':=by simpa using congrArg Array.toList d1
  subst this
  exact r.inj r'
theorem Inv.tuple_inj (I:Inv X pins σ H s) (h:SqT X.K H a xs) (h':SqT X.K H a ys):xs = ys:=by
  obtain ⟨its,r,⟨o,e,_,n,d⟩,_⟩:=I.tuple h
  obtain ⟨its',r',⟨o',e',_,n',d'⟩,_⟩:=I.tuple h'
  rw [e] at e'; cases e'
  rw [d] at d'
  injection d' with d1 _
  have:its = its':=by simpa using congrArg Array.toList d1
  subst this
  exact r.inj r'
end
abbrev Cx.wish (X:Cx) (E:Value→Shared→Prop):Cx:={ X with xe:=E }
abbrev Cx.nox (X:Cx):Cx:=X.wish fun _ _=>False
theorem Cx.Ok.wish {X:Cx} (ok:X.Ok) (E:Value→Shared→Prop):(X.wish E).Ok:=
  ⟨ok.mod,ok.kind,ok.glob,ok.blt,ok.above,ok.inj,ok.has,ok.cab,ok.hd,ok.frames,ok.stk,ok.exf,ok.bs,ok.bsz,ok.noex,ok.exfs,ok.funs,ok.frf⟩
theorem Cx.Ok.unwish {X:Cx} {E:Value→Shared→Prop} (ok:(X.wish E).Ok):X.Ok:=
  ⟨ok.mod,ok.kind,ok.glob,ok.blt,ok.above,ok.inj,ok.has,ok.cab,ok.hd,ok.frames,ok.stk,ok.exf,ok.bs,ok.bsz,ok.noex,ok.exfs,ok.funs,ok.frf⟩
section
variable {X:Cx} {pins:List (Addr×Obj)} {σ:St} {H:Hp} {s:Shared} {E:Value→Shared→Prop}
theorem Inv.wish (I:Inv X pins σ H s) (E:Value→Shared→Prop):Inv (X.wish E) pins σ H s:=⟨I.ok.wish E,I.os,I.bare,I.base,I.loc,I.cell,I.free,I.freeC,I.pin,I.hok,I.len⟩
theorem Inv.unwish (I:Inv (X.wish E) pins σ H s):Inv X pins σ H s:=⟨I.ok.unwish,I.os,I.bare,I.base,I.loc,I.cell,I.free,I.freeC,I.pin,I.hok,I.len⟩
theorem SP.unwish {D:Ends} {f:Flow} {s':Shared} (h:SP (X.wish E) pins D f s'):SP X pins D f s':=by
  cases f with
  | next=>obtain ⟨σ',H',I,q⟩:=h; exact ⟨σ',H',I.unwish,q⟩
  | brk=>obtain ⟨σ',H',I,q⟩:=h; exact ⟨σ',H',I.unwish,q⟩
  | cont=>obtain ⟨σ',H',I,q⟩:=h; exact ⟨σ',H',I.unwish,q⟩
  | ret u=>obtain ⟨v,σ',H',I,r,q⟩:=h; exact ⟨v,σ',H',I.unwish,r,q⟩
theorem PE.nox {e:Expr} {t:TE} (h:PE X.nox e t):PE X e t:=fun pins s σ H Q I hw=>
  wpAny_mono (h pins s σ H Q (I.wish _) hw) (fun _ _ ⟨v,H',I',r,q⟩=>⟨v,H',I'.unwish,r,q⟩) fun _ _ z=>False.elim z
theorem PT.nox {e:Expr} {t:TT} (h:PT X.nox e t):PT X e t:=fun pins s σ H Q I hw=>
  wpAny_mono (h pins s σ H Q (I.wish _) hw) (fun _ _ ⟨H',I',q⟩=>⟨H',I'.unwish,q⟩) fun _ _ z=>False.elim z
theorem PSs.nox {st:List Stmt} {t:TS} (h:PSs X.nox st t):PSs X st t:=fun pins s σ H D I hw=>
  wpAny_mono (h pins s σ H D (I.wish _) hw) (fun _ _ q=>q.unwish) fun _ _ z=>False.elim z
end
section
variable {X:Cx} {st:Stmt} {rest:List Stmt} {t u:TS} {e:Expr} {te:TE} {pos:Pos}
def tNext:TS:=fun D σ H=>D.nx σ H
def tSeq (t u:TS):TS:=fun D σ H=>t { D with nx:=u D } σ H
theorem pss_nil:PSs X [] tNext:=fun _ _ σ H _ I h=>wpAny_execs_nil ⟨σ,H,I,h⟩
theorem pss_cons (h1:PS X st t) (h2:PSs X rest u):PSs X (st :: rest) (tSeq t u):=by
  intro pins s σ H D I h
  refine wpAny_execs_cons (thn (h1 pins s σ H { D with nx:=u D } I h) fun f s1 q=>?_)
  cases f with
  | next=>
    obtain ⟨σ',H',I',q⟩:=q
    exact h2 pins s1 σ' H' D I' q
  | ret v=>exact q
  | brk=>exact q
  | cont=>exact q
theorem pss_one (h1:PS X st t):PSs X [st] t:=by
  intro pins s σ H D I h
  refine wpAny_execs_cons (thn (h1 pins s σ H D I h) fun f s1 q=>?_)
  cases f with
  | next=>exact wpAny_execs_nil q
  | ret v=>exact q
  | brk=>exact q
  | cont=>exact q
def tCont:TS:=fun D σ H=>D.ct σ H
theorem ps_continue:PS X (.Continue pos) tCont:=fun _ _ σ H _ I h=>wpAny_Continue ⟨σ,H,I,h⟩
theorem Inv.quiet {pins:List (Addr×Obj)} {σ:St} {H:Hp} {s:Shared} (I:Inv X pins σ H s):interactive X.env = false:=by simp [interactive,I.ok.kind]
def tDrop (te:TE):TS:=fun D σ H=>te σ H fun _ H1=>D.nx σ H1
theorem ps_expr (he:PE X e te) (hs:swapsWith e none pos.line X.env = pure false:=by rfl):PS X (.Expr e pos) (tDrop te):=by
  intro pins s σ H D I h
  exact wpAny_Expr_any (thn (he pins s σ H _ I h) fun v s1 ⟨x,H1,I1,r1,q1⟩=>⟨σ,H1,I1,q1⟩) I.quiet hs
def tRet (te:TE):TS:=fun D σ H=>te σ H D.rt
theorem ps_ret (he:PE X e te):PS X (.Return (some e) pos) (tRet te):=by
  intro pins s σ H D I h
  exact wpAny_Return_some (thn (he pins s σ H _ I h) fun v s1 ⟨x,H1,I1,r1,q1⟩=>⟨x,σ,H1,I1,r1,q1⟩)
def tIfS (c:TT) (t u:TS):TS:=fun D σ H=>c σ H fun b H1=>if b = true then t D σ H1 else u D σ H1
theorem ps_if {c:Expr} {a b:List Stmt} {tc:TT} (hc:PT X c tc) (ha:PSs X a t) (hb:PSs X b u):PS X (.If c a b pos) (tIfS tc t u):=by
  intro pins s σ H D I h
  refine wpAny_If (thn (hc pins s σ H _ I h) fun d s1 ⟨H1,I1,q1⟩=>?_)
  cases d with
  | true=>exact ha pins s1 σ H1 D I1 q1
  | false=>exact hb pins s1 σ H1 D I1 q1
def tNever:TS:=fun _ _ _=>False
theorem ps_never:PS X st tNever:=fun _ _ _ _ _ _ h=>h.elim
end
abbrev TG:=V→St→Hp→(St→Hp→Prop)→Prop
abbrev TGs:=List V→St→Hp→(St→Hp→Prop)→Prop
def PG (X:Cx) (target:Expr) (t:TG):Prop:=
  ∀ (pins:List (Addr×Obj)) (s:Shared) (σ:St) (H:Hp) (v:V) (u:Value) (Q:St→Hp→Prop),Inv X pins σ H s→RelV v u→t v σ H Q→
    wpAny (model X.prog X.w) X.A (assign target X.env u) (fun _ s'=>∃ σ' H',Inv X pins σ' H' s'∧Q σ' H') X.xe s
def PGs (X:Cx) (ts:List Expr) (t:TGs):Prop:=
  ∀ (pins:List (Addr×Obj)) (s:Shared) (σ:St) (H:Hp) (vs:List V) (us:List Value) (Q:St→Hp→Prop),Inv X pins σ H s→Vals vs us→t vs σ H Q→
    wpAny (model X.prog X.w) X.A (assignInOrder ((assignEach ts X.env).map (·.2)) us) (fun _ s'=>∃ σ' H',Inv X pins σ' H' s'∧Q σ' H') X.xe s
section
variable {X:Cx} {pos:Pos}
def gName (i:Nat):TG:=fun v σ H Q=>Q (σ.set i (some v)) H
theorem pg_name {i:Nat} {x:Str} (hN:X.N.Nodup) (hi:X.N[i]? = some x) (hx:Loc X.env.scope x) (hf:X.fn x = true∨X.env.scope.names.lookup x = some .local:=by first | exact .inl rfl | exact .inr rfl | assumption):PG X (.Name x pos) (gName i):=by
  intro pins s σ H v u Q I r h
  exact wpAny_assign_Name (store_ok I hN hi hx r (fun s' I'=>⟨_,H,I',h⟩) hf)
def gNil:TGs:=fun vs σ H Q=>vs = []∧Q σ H
def gCons (t:TG) (u:TGs):TGs:=fun vs σ H Q=>∃ v r,vs = v :: r∧t v σ H fun σ' H'=>u r σ' H' Q
theorem pgs_nil:PGs X [] gNil:=by
  intro pins s σ H vs us Q I r h
  obtain ⟨e,h⟩:=h
  subst e
  cases r
  exact assignInOrder_nil ⟨σ,H,I,h⟩
theorem pgs_cons {e:Expr} {es:List Expr} {t:TG} {u:TGs} (h1:PG X e t) (h2:PGs X es u)
    (hs:(assignEach (e :: es) X.env).map (·.2) = assign e X.env :: (assignEach es X.env).map (·.2):=by rfl):PGs X (e :: es) (gCons t u):=by
  intro pins s σ H vs us Q I r h
  obtain ⟨v,vr,e1,h⟩:=h
  subst e1
  cases r with
  | cons r rr=>
    rw [hs]
    refine assignInOrder_cons (thn (h1 pins s σ H _ _ _ I r h) fun _ s1 ⟨σ1,H1,I1,q1⟩=>?_)
    exact h2 pins s1 σ1 H1 _ _ Q I1 rr q1
def gTup (K:PySem.W.Frag) (n:Nat) (t:TGs):TG:=fun v σ H Q=>∃ a xs,v = .ref a∧SqT K H a xs∧xs.length = n∧t xs σ H Q
theorem pg_tup {es:List Expr} {k:Nat} {t:TGs} {n:Nat} (hc:X.calm = true) (h:PGs X es t)
    (hn:(assignEach es X.env).length = n:=by rfl) (hst:(assignEach es X.env).findIdx? (·.1) = none:=by rfl):PG X (.Tuple es k pos) (gTup X.K n t):=by
  intro pins s σ H v u Q I r hw
  obtain ⟨a,xs,e1,hq,hl,hw⟩:=hw
  subst e1
  cases r
  obtain ⟨its,rv,ht,hz⟩:=I.tuple hq
  refine assign_Tuple_tuple (I.ok.hd hc) ht (by simp [hn,← hl,rv.length]) hst fun h' hx=>?_
  have I1:Inv X pins σ H { s with heap:=h' }:=I.kept (t':=s.toks) fun b o e=>hx b o (Nat.ne_of_lt (Heap.lt_size e)) e
  exact h pins _ σ H xs _ Q I1 (by simpa using rv) hw
def tAsg (te:TE) (g:TG):TS:=fun D σ H=>te σ H fun x H1=>g x σ H1 D.nx
theorem ps_set {i:Nat} {x:Str} {e:Expr} {te:TE} {pos':Pos} (hN:X.N.Nodup) (hi:X.N[i]? = some x) (hx:Loc X.env.scope x) (he:PE X e te) (hs:swapsWith e (some (.Name x pos')) pos.line X.env = pure false:=by rfl) (hf:X.fn x = true∨X.env.scope.names.lookup x = some .local:=by first | exact .inl rfl | exact .inr rfl | assumption) :
    PS X (.Assign [.Name x pos'] e pos) (tAsg te (gName i)):=by
  intro pins s σ H D I h
  refine wpAny_Assign_Name (thn (he pins s σ H _ I h) fun v s1 ⟨y,H1,I1,r1,q1⟩=>?_) hs
  exact store_ok I1 hN hi hx r1 (fun s2 I2=>⟨_,H1,I2,q1⟩) hf
end
section
variable {X:Cx} {pos:Pos}
end
structure It where
  go:Nat→Hp→Prop
  yld:Nat→Hp→V→Hp→Prop
  stop:Nat→Hp→Prop
def FpOk (X:Cx) (pins:List (Addr×Obj)) (H:Hp) (b:Addr):Prop:=
  H b = none∧b≠X.env.locals∧b ∉ X.fs∧(b∈X.ex∨X.s₀.heap.objs.size≤b)∧(∀ x c,X.env.cells.lookup x = some c→c≠b)∧∀ p∈X.pn ++ pins,p.1≠b
theorem Inv.fpOk {X:Cx} {pins:List (Addr×Obj)} {σ:St} {H H':Hp} {s:Shared} {b:Addr} (I:Inv X pins σ H s) (hb:s.heap.objs.size≤b) (hn:H' b = none):FpOk X pins H' b:=by
  refine ⟨hn,Nat.ne_of_gt (Nat.lt_of_lt_of_le I.lt hb),I.nofs hb,.inr (Nat.le_trans I.sz hb),fun x c e z=>?_,fun p hp z=>?_⟩
  · obtain ⟨v,q⟩:=I.cell x c e
    exact absurd (Nat.lt_of_lt_of_le q.lt (by rw [z]; exact hb)) (Nat.lt_irrefl _)
  · exact absurd (Nat.lt_of_lt_of_le (Heap.lt_size (I.pin p hp).1) (by rw [z]; exact hb)) (Nat.lt_irrefl _)
structure Turn (P:Program) (w:World) (K:PySem.W.Frag) (tg:Expr) (J:It) (fp:List Addr) (it:Addr) (tn:Nat→Heap→Prop):Prop where
  mem:it∈fp
  obj:∀ i h,tn i h→∀ b∈fp,∃ o,h.get? b = some o∧∀ v,o.data≠.cell v
  keep:∀ i h h',tn i h→(∀ b∈fp,∀ o,h.get? b = some o→h'.get? b = some o)→tn i h'
  item:∀ (X:Cx),X.prog = P→X.w = w→X.K = K→X.calm = true→∀ (i:Nat) (pins:List (Addr×Obj)) (s:Shared) (σ:St) (H:Hp) (E:Value→Shared→Prop),Inv X pins σ H s→(∀ b∈fp,FpOk X pins H b)→tn i s.heap→J.go i H→
    wpAny (model P w) X.A (pyNext (.ref it)) (fun r s1=>∃ u,r = some u∧
      wpAny (model P w) X.A (letOwnedTupleGo tg (.ref it) u) (fun _ s2=>∃ x H',Inv X pins σ H' s2∧RelV x u∧J.yld i H x H'∧tn (i + 1) s2.heap∧∀ b∈fp,H' b = none) E s1) E s
  done:∀ (X:Cx),X.prog = P→X.w = w→X.K = K→X.calm = true→∀ (i:Nat) (pins:List (Addr×Obj)) (s:Shared) (σ:St) (H:Hp) (E:Value→Shared→Prop),Inv X pins σ H s→(∀ b∈fp,FpOk X pins H b)→tn i s.heap→J.stop i H→
    wpAny (model P w) X.A (pyNext (.ref it)) (fun r s1=>r = none∧Inv X pins σ H s1) E s
  self:∀ (A:Around) (i:Nat) (s:Shared) (Q:Value→Shared→Prop) (E:Value→Shared→Prop),tn i s.heap→Q (.ref it) s→wpAny (model P w) A (pyIter (.ref it)) Q E s
abbrev TI:=St→Hp→(It→Hp→Prop)→Prop
def PIE (X:Cx) (pins:List (Addr×Obj)) (σ:St) (tg:Expr) (R:It→Hp→Prop) (itv:Value) (s2:Shared):Prop:=
  ∃ (it:Addr) (fp:List Addr) (tn:Nat→Heap→Prop) (J:It) (H':Hp),itv = .ref it∧Inv X pins σ H' s2∧Turn X.prog X.w X.K tg J fp it tn∧tn 0 s2.heap∧(∀ b∈fp,FpOk X pins H' b)∧R J H'
def PI (X:Cx) (tg iter:Expr) (wi:TI):Prop:=
  ∀ (pins:List (Addr×Obj)) (s:Shared) (σ:St) (H:Hp) (R:It→Hp→Prop),Inv X pins σ H s→wi σ H R→
    wpAny (model X.prog X.w) X.A (eval iter X.env) (fun v s1=>wpAny (model X.prog X.w) X.A (pyIter v) (PIE X pins σ tg R) X.xe s1) X.xe s
theorem go_of {M:Model} {A:Around} {E:Value→Shared→Prop} {s:Shared} {tg:Expr} {it:Addr} {u:Value} {o:Obj} {n:String} {vs:Array Value} {Q:Unit→Shared→Prop} (ho:s.heap.get? it = some o) (hc:o.cls = .type n) (hd:o.data = .fields vs)
    (hn:["enumerate","zip","dict_itemiterator","dict_reverseitemiterator","odict_iterator","itertools.zip_longest","itertools.pairwise"].contains n = false) (hQ:Q () s):wpAny M A (letOwnedTupleGo tg (.ref it) u) Q E s:=by
  unfold letOwnedTupleGo
  cases tg <;> first
    | exact wpAny_pure hQ
    | (cases u <;> first
        | exact wpAny_pure hQ
        | (refine wpAny_bind (wpAny_load ho ?_)
           rw [hc,hd]
           show wpAny M A (if (["enumerate","zip","dict_itemiterator","dict_reverseitemiterator","odict_iterator","itertools.zip_longest","itertools.pairwise"].contains n && vs[0]? == some (rawInt _)) = true then _ else _) Q E s
           rw [if_neg (by intro h; rw [hn,Bool.false_and] at h; cases h)]
           exact wpAny_pure hQ))
def Itl (K:PySem.W.Frag) (a:Addr):It:=
  ⟨fun i H=>∃ xs x,SqL K H a xs∧xs[i]? = some x,fun i H x H'=>H' = H∧∀ xs,SqL K H a xs→xs[i]? = some x,fun i H=>∃ xs,SqL K H a xs∧xs.length≤i⟩
def Itt (K:PySem.W.Frag) (a:Addr):It:=
  ⟨fun i H=>∃ xs x,SqT K H a xs∧xs[i]? = some x,fun i H x H'=>H' = H∧∀ xs,SqT K H a xs→xs[i]? = some x,fun i H=>∃ xs,SqT K H a xs∧xs.length≤i⟩
def Itr (lo:Int) (n:Nat):It:=⟨fun i _=>i < n,fun i H x H'=>H' = H∧x = .int (lo + i),fun i _=>n≤i⟩
theorem turn_list {P:Program} {w:World} {K:PySem.W.Frag} {tg:Expr} (a it:Addr):Turn P w K tg (Itl K a) [it] it (fun i h=>h.IsListIter it a i) where
  mem:=by simp
  obj:=fun i h st b hb=>by
    have e:b = it:=by simpa using hb
    subst e
    obtain ⟨o,e,c,d⟩:=st
    exact ⟨o,e,fun v z=>by rw [d] at z; cases z⟩
  keep:=fun i h h' st k=>st.at fun o e=>k it (by simp) o e
  item:=by
    intro X hP hw hK hc i pins s σ H E I hf st hg
    subst hP hw hK
    obtain ⟨xs,x,hq,hx⟩:=hg
    obtain ⟨its,rv,p,hz⟩:=I.list hq
    obtain ⟨u,hu,ru⟩:=rv.get hx
    obtain ⟨f0,f1,f2,f3,f4,f5⟩:=hf it (by simp)
    refine wpAny_pyNext_list_item st p.isList (x:=u) (by simpa using hu) fun h' st' sb=>?_
    have I1:Inv X pins σ H { s with heap:=h' }:=I.turned (t':=s.toks) (fun b o hb e=>(sb.2 b hb).trans e) f0 f1 f3 f4 f5
    obtain ⟨o,e,c,d⟩:=id st'
    exact ⟨u,rfl,go_of (s:={ s with heap:=h' }) e c d (by decide) ⟨x,H,I1,ru,⟨rfl,fun ys hy=>by rw [I.list_inj hy hq]; exact hx⟩,st',fun b hb=>(hf b hb).1⟩⟩
  done:=by
    intro X hP hw hK hc i pins s σ H E I hf st hg
    subst hP hw hK
    obtain ⟨xs,hq,hx⟩:=hg
    obtain ⟨its,rv,p,hz⟩:=I.list hq
    obtain ⟨f0,f1,f2,f3,f4,f5⟩:=hf it (by simp)
    have hl:=rv.length
    exact wpAny_pyNext_list_end (I.ok.hd hc) st p.isList (by simp; omega) fun h' eb=>⟨rfl,I.turned (t':=s.toks) (fun b o hb e=>eb b o hb e) f0 f1 f3 f4 f5⟩
  self:=fun _ _ _ _ _ st h=>wpAny_pyIter_listiter st h
theorem turn_tuple {P:Program} {w:World} {K:PySem.W.Frag} {tg:Expr} (a it:Addr):Turn P w K tg (Itt K a) [it] it (fun i h=>h.IsTupleIter it a i) where
  mem:=by simp
  obj:=fun i h st b hb=>by
    have e:b = it:=by simpa using hb
    subst e
    obtain ⟨o,e,c,d⟩:=st
    exact ⟨o,e,fun v z=>by rw [d] at z; cases z⟩
  keep:=fun i h h' st k=>st.at fun o e=>k it (by simp) o e
  item:=by
    intro X hP hw hK hc i pins s σ H E I hf st hg
    subst hP hw hK
    obtain ⟨xs,x,hq,hx⟩:=hg
    obtain ⟨its,rv,p,hz⟩:=I.tuple hq
    obtain ⟨u,hu,ru⟩:=rv.get hx
    obtain ⟨f0,f1,f2,f3,f4,f5⟩:=hf it (by simp)
    refine wpAny_pyNext_tuple_item st (show s.heap.IsTuple a its.toArray from p) (x:=u) (by simpa using hu) fun h' st' sb=>?_
    have I1:Inv X pins σ H { s with heap:=h' }:=I.turned (t':=s.toks) (fun b o hb e=>(sb.2 b hb).trans e) f0 f1 f3 f4 f5
    obtain ⟨o,e,c,d⟩:=id st'
    exact ⟨u,rfl,go_of (s:={ s with heap:=h' }) e c d (by decide) ⟨x,H,I1,ru,⟨rfl,fun ys hy=>by rw [I.tuple_inj hy hq]; exact hx⟩,st',fun b hb=>(hf b hb).1⟩⟩
  done:=by
    intro X hP hw hK hc i pins s σ H E I hf st hg
    subst hP hw hK
    obtain ⟨xs,hq,hx⟩:=hg
    obtain ⟨its,rv,p,hz⟩:=I.tuple hq
    obtain ⟨f0,f1,f2,f3,f4,f5⟩:=hf it (by simp)
    have hl:=rv.length
    exact wpAny_pyNext_tuple_end (I.ok.hd hc) st (show s.heap.IsTuple a its.toArray from p) (by simp; omega) fun h' eb=>⟨rfl,I.turned (t':=s.toks) (fun b o hb e=>eb b o hb e) f0 f1 f3 f4 f5⟩
  self:=fun _ _ _ _ _ st h=>wpAny_pyIter_tupleiter st h
theorem turn_range {P:Program} {w:World} {K:PySem.W.Frag} {tg:Expr} (it:Addr) (lo:Int) (n:Nat):Turn P w K tg (Itr lo n) [it] it (fun i h=>IsRangeIter h it (lo + (i:Nat) * 1) ((n:Int) - (i:Nat)) 1) where
  mem:=by simp
  obj:=fun i h st b hb=>by
    have e:b = it:=by simpa using hb
    subst e
    exact ⟨_,st,fun v z=>by
      have z':Data.fields _ = Data.cell v:=z
      cases z'⟩
  keep:=fun i h h' st k=>k it (by simp) _ st
  item:=by
    intro X hP hw hK hc i pins s σ H E I hf st hg
    subst hP hw hK
    obtain ⟨f0,f1,f2,f3,f4,f5⟩:=hf it (by simp)
    have W:=Walks.range (prog:=X.prog) (w:=X.w) (I.ok.hd hc) it lo 1 n
    refine W.item i s _ _ hg st fun v h' tk hv st' kk=>?_
    obtain ⟨t,rfl⟩:=hv
    have I1:Inv X pins σ H { s with heap:=h',toks:=tk }:=I.turned (fun b o hb e=>kk b o (by simpa using hb) e) f0 f1 f3 f4 f5
    refine ⟨_,rfl,go_of (s:={ s with heap:=h',toks:=tk }) (n:="range_iterator") st' rfl rfl (by decide) ⟨.int (lo + i),H,I1,⟨t,?_⟩,⟨rfl,rfl⟩,st',fun b hb=>(hf b hb).1⟩⟩
    rw [Int.mul_one]
  done:=by
    intro X hP hw hK hc i pins s σ H E I hf st hg
    subst hP hw hK
    obtain ⟨f0,f1,f2,f3,f4,f5⟩:=hf it (by simp)
    exact wpAny_pyNext_range_end (I.ok.hd hc) st (by have:n≤i:=hg; omega) fun h' eb=>⟨rfl,I.turned (t':=s.toks) (fun b o hb e=>eb b o hb e) f0 f1 f3 f4 f5⟩
  self:=fun _ _ _ _ _ st h=>wpAny_pyIter_rangeiter st h
end L2
namespace L2
open PySem PySem.Spec PyProof.Rows
section
variable {X:Cx} {tg:Expr}
def iList (K:PySem.W.Frag) (tl:TE):TI:=fun σ H R=>tl σ H fun x H1=>∃ a,x = .ref a∧(∃ xs,SqL K H1 a xs)∧R (Itl K a) H1
def iTup (K:PySem.W.Frag) (tl:TE):TI:=fun σ H R=>tl σ H fun x H1=>∃ a,x = .ref a∧(∃ xs,SqT K H1 a xs)∧R (Itt K a) H1
theorem pi_list {l:Expr} {tl:TE} (hl:PE X l tl):PI X tg l (iList X.K tl):=by
  intro pins s σ H R I h
  refine thn (hl pins s σ H _ I h) fun v s1 ⟨x,H1,I1,r1,q1⟩=>?_
  obtain ⟨a,e,⟨xs,hq⟩,q⟩:=q1
  subst e
  cases r1
  obtain ⟨its,rv,p,hz⟩:=I1.list hq
  refine wpAny_pyIter_list p.isList ?_
  refine ⟨s1.heap.objs.size,[s1.heap.objs.size],_,_,H1,rfl,I1.kept (t':=s1.toks) fun b o e=>Heap.get?_push_of_some _ e,turn_list a _,⟨_,Heap.get?_push_size _ rfl,rfl,rfl⟩,fun b hb=>?_,q⟩
  have e:b = s1.heap.objs.size:=by simpa using hb
  subst e
  exact I1.fpOk (Nat.le_refl _) (I1.hok.fresh (Nat.le_refl _))
theorem pi_tup {l:Expr} {tl:TE} (hl:PE X l tl):PI X tg l (iTup X.K tl):=by
  intro pins s σ H R I h
  refine thn (hl pins s σ H _ I h) fun v s1 ⟨x,H1,I1,r1,q1⟩=>?_
  obtain ⟨a,e,⟨xs,hq⟩,q⟩:=q1
  subst e
  cases r1
  obtain ⟨its,rv,p,hz⟩:=I1.tuple hq
  refine wpAny_pyIter_tuple (show s1.heap.IsTuple a its.toArray from p) ?_
  refine ⟨s1.heap.objs.size,[s1.heap.objs.size],_,_,H1,rfl,I1.kept (t':=s1.toks) fun b o e=>Heap.get?_push_of_some _ e,turn_tuple a _,⟨_,Heap.get?_push_size _ rfl,rfl,rfl⟩,fun b hb=>?_,q⟩
  have e:b = s1.heap.objs.size:=by simpa using hb
  subst e
  exact I1.fpOk (Nat.le_refl _) (I1.hok.fresh (Nat.le_refl _))
theorem range_it {pins:List (Addr×Obj)} {σ:St} {H:Hp} {s:Shared} {R:It→Hp→Prop} {E:Value→Shared→Prop} {lo hi:Int} {t u v:Tok} {tk:Nat} (I:Inv X pins σ H s) (h1:-(2 ^ 62)≤lo) (h2:lo < 2 ^ 62) (h3:-(2 ^ 62)≤hi) (h4:hi < 2 ^ 62)
    (q:R (Itr lo (hi - lo).toNat) H):wpAny (model X.prog X.w) X.A (pyIter (.ref s.heap.objs.size)) (PIE X pins σ tg R) E { s with heap:=s.heap.push { cls:=.type "range",data:=.fields #[.int lo t,.int hi u,.int 1 v] },toks:=tk }:=by
  refine wpAny_pyIter_range (IsRange.new ..) (small_one h1 h2 h3 h4) ?_
  have I1:Inv X pins σ H { s with heap:=s.heap.push { cls:=.type "range",data:=.fields #[.int lo t,.int hi u,.int 1 v] },toks:=tk }:=I.kept fun b o e=>Heap.get?_push_of_some _ e
  refine ⟨(s.heap.push { cls:=.type "range",data:=.fields #[.int lo t,.int hi u,.int 1 v] }).objs.size,[(s.heap.push { cls:=.type "range",data:=.fields #[.int lo t,.int hi u,.int 1 v] }).objs.size],_,_,H,rfl,
    I1.kept (t':=tk) fun b o e=>Heap.get?_push_of_some _ e,turn_range _ lo (hi - lo).toNat,?_,fun b hb=>?_,q⟩
  · have e1:lo + ((0:Nat):Int) * 1 = lo:=by simp
    have e2:(((hi - lo).toNat:Nat):Int) - ((0:Nat):Int) = Builtin.Range.rangeSize lo hi 1:=by rw [rangeSize_one]; split <;> omega
    show IsRangeIter _ _ (lo + ((0:Nat):Int) * 1) ((((hi - lo).toNat:Nat):Int) - ((0:Nat):Int)) 1
    rw [e1,e2]
    exact Heap.get?_push_size _ rfl
  · have e:b = (s.heap.push { cls:=.type "range",data:=.fields #[.int lo t,.int hi u,.int 1 v] }).objs.size:=by simpa using hb
    subst e
    exact I1.fpOk (Nat.le_refl _) (I1.hok.fresh (Nat.le_refl _))
def iRng1 (ta:TA):TI:=fun σ H R=>ta σ H fun vs H1=>∃ j:Int,vs = [.int j]∧-(2 ^ 62)≤j∧j < 2 ^ 62∧R (Itr 0 j.toNat) H1
theorem pi_range1 {a:Expr} {ta:TA} {p pos:Pos} (hg:Gl X "range") (hm:X.mg "range" = none) (ha:PA X [a] ta) (hs:starEach [a] X.env = [(false,eval a X.env)]:=by rfl):PI X tg (.Call (.Name "range" p) [a] [] pos) (iRng1 ta):=by
  intro pins s σ H R I h
  refine Call_ (ld_blt I hg hm boot_range (PyProof.Rows.callWith_type1 (thn (ha pos pins s σ H _ I h) fun us s1 ⟨vs,H1,I1,r1,q1⟩=>?_) hs rfl))
  obtain ⟨j,e,q1,q2,q⟩:=q1
  subst e
  cases r1 with
  | cons r rr=>
    cases rr
    obtain ⟨t,rfl⟩:=r
    exact call_range_1 (range_it I1 (by omega) (by omega) q1 q2 (by simpa using q))
def tFor (wi:TI) (g:TG) (tb:TS):TS:=fun D σ H=>wi σ H fun J H1=>∃ W:Nat→Nat→St→Hp→Prop,(∃ m,W 0 m σ H1)∧∀ i m σ H,W i m σ H→
  (J.stop i H∧D.nx σ H)∨(J.go i H∧∃ N:St→Hp→Prop,(∀ σ' H',N σ' H'→∃ m',m' < m∧W (i + 1) m' σ' H')∧∀ x H',J.yld i H x H'→g x σ H' fun σ2 H2=>tb { D with nx:=N,ct:=N,bk:=D.nx } σ2 H2)
def pinsAt (fp:List Addr) (h:Heap):List (Addr×Obj):=fp.filterMap fun b=>(h.get? b).map fun o=>(b,o)
theorem mem_pinsAt {fp:List Addr} {h:Heap} {b:Addr} {o:Obj} (hb:b∈fp) (e:h.get? b = some o):(b,o)∈pinsAt fp h:=List.mem_filterMap.mpr ⟨b,hb,by rw [e]; rfl⟩
theorem of_pinsAt {fp:List Addr} {h:Heap} {p:Addr×Obj} (hp:p∈pinsAt fp h):p.1∈fp∧h.get? p.1 = some p.2:=by
  obtain ⟨b,hb,e⟩:=List.mem_filterMap.mp hp
  cases q:h.get? b with
  | none=>rw [q] at e; cases e
  | some o=>
    rw [q] at e
    have e':(b,o) = p:=Option.some.inj e
    subst e'
    exact ⟨hb,q⟩
theorem Inv.pinned {pins:List (Addr×Obj)} {σ:St} {H:Hp} {s:Shared} {fp:List Addr} (I:Inv X pins σ H s) (hf:∀ b∈fp,FpOk X pins H b) (ho:∀ b∈fp,∃ o,s.heap.get? b = some o∧∀ v,o.data≠.cell v):Inv X (pins ++ pinsAt fp s.heap) σ H s:=
  I.pins_of fun p hp=>(List.mem_append.mp hp).elim (fun z=>I.pin p (List.mem_append_right _ z)) fun z=>by
    obtain ⟨hb,e⟩:=of_pinsAt z
    obtain ⟨f0,f1,f2,_⟩:=hf p.1 hb
    obtain ⟨o,e',d⟩:=ho p.1 hb
    rw [e] at e'; cases e'
    exact ⟨e,f0,f1,f2,d⟩
theorem Inv.unpinned {pins pl:List (Addr×Obj)} {σ:St} {H:Hp} {s:Shared} (I:Inv X (pins ++ pl) σ H s):Inv X pins σ H s:=I.pins_of fun p hp=>I.pin p (List.mem_append_right _ (List.mem_append_left _ hp))
theorem ps_for {iter:Expr} {body:List Stmt} {wi:TI} {g:TG} {tb:TS} {pos:Pos} (hp:PassesOwn (model X.prog X.w) X.A X.env X.xe) (hc:X.calm = true) (hi:PI X tg iter wi) (hg:PG X tg g) (hb:PSs X body tb)
    (hs:∀ x,foldedSetIterable iter X.env x = pure x:=by intro _; rfl):PS X (.For tg iter body [] pos) (tFor wi g tb):=by
  intro pins s σ H D I h
  refine wpAny_For (thn (hi pins s σ H _ I h) fun v s1 h1=>thn h1 fun itv s2 h2=>?_) hs
  obtain ⟨it,fp,tn,J,H2,e,I2,T,st2,f2,W,⟨m0,w0⟩,turn⟩:=h2
  subst e
  have stat:∀ {H':Hp},(∀ b∈fp,H' b = none)→∀ b∈fp,FpOk X pins H' b:=fun hn b hb=>⟨hn b hb,(f2 b hb).2⟩
  refine codeAny_forLoop_any (fun n s'=>∃ i σ' H',Inv X pins σ' H' s'∧tn i s'.heap∧(∀ b∈fp,H' b = none)∧W i n σ' H') ?_ m0 ⟨0,σ,H2,I2,st2,fun b hb=>(f2 b hb).1,w0⟩
  rintro n s3 ⟨i,σ3,H3,I3,st3,fr3,w3⟩
  rcases turn i n σ3 H3 w3 with ⟨stop,qn⟩ | ⟨go,N,hN,step⟩
  · refine wpAny_passesOwn hp (thn (T.done X rfl rfl rfl hc i pins s3 σ3 H3 X.xe I3 (stat fr3) st3 stop) fun r s4 ⟨hr,I4⟩=>?_)
    subst hr
    exact wpAny_execs_nil ⟨σ3,H3,I4,qn⟩
  · refine wpAny_passesOwn hp (thn (T.item X rfl rfl rfl hc i pins s3 σ3 H3 X.xe I3 (stat fr3) st3 go) fun r s4 ⟨u,hr,h4⟩=>?_)
    subst hr
    refine wpAny_passesOwn hp (thn h4 fun _ s5 ⟨x,H5,I5,r5,y5,st5,fr5⟩=>?_)
    have I5':=I5.pinned (stat fr5) (T.obj _ _ st5)
    refine wpAny_passesOwn hp (thn (hg _ s5 σ3 H5 x u _ I5' r5 (step x H5 y5)) fun _ s6 ⟨σ6,H6,I6,q6⟩=>?_)
    refine wpAny_passesOwn hp (thn (hb _ s6 σ6 H6 _ I6 q6) fun f s7 q7=>?_)
    have again:∀ {σ7:St} {H7:Hp},Inv X (pins ++ pinsAt fp s5.heap) σ7 H7 s7→N σ7 H7→∃ m,m < n∧∃ i σ' H',Inv X pins σ' H' s7∧tn i s7.heap∧(∀ b∈fp,H' b = none)∧W i m σ' H':=fun {σ7 H7} I7 n7=>by
      obtain ⟨m',hm,w7⟩:=hN σ7 H7 n7
      refine ⟨m',hm,i + 1,σ7,H7,I7.unpinned,T.keep _ _ _ st5 fun b hb o e=>(I7.pin (b,o) (List.mem_append_right _ (List.mem_append_right _ (mem_pinsAt hb e)))).1,fun b hb=>?_,w7⟩
      obtain ⟨o,e,d⟩:=T.obj _ _ st5 b hb
      exact (I7.pin (b,o) (List.mem_append_right _ (List.mem_append_right _ (mem_pinsAt hb e)))).2.1
    cases f with
    | next=>obtain ⟨σ7,H7,I7,n7⟩:=q7; exact again I7 n7
    | cont=>obtain ⟨σ7,H7,I7,n7⟩:=q7; exact again I7 n7
    | brk=>obtain ⟨σ7,H7,I7,q7⟩:=q7; exact ⟨σ7,H7,I7.unpinned,q7⟩
    | ret v=>obtain ⟨x7,σ7,H7,I7,r7,q7⟩:=q7; exact ⟨x7,σ7,H7,I7.unpinned,r7,q7⟩
end
theorem for_list {K:PySem.W.Frag} {a:Addr} {xs:List V} {g:TG} {tb:TS} {D:Ends} {σ:St} {H:Hp} (Pv:Nat→St→Hp→Prop) (h0:Pv 0 σ H) (hl:∀ i σ H,i≤xs.length→Pv i σ H→SqL K H a xs)
    (hs:∀ i x σ H,xs[i]? = some x→Pv i σ H→g x σ H fun σ2 H2=>tb { D with nx:=Pv (i + 1),ct:=Pv (i + 1),bk:=D.nx } σ2 H2) (hd:∀ σ H,Pv xs.length σ H→D.nx σ H) :
    ∃ W:Nat→Nat→St→Hp→Prop,(∃ m,W 0 m σ H)∧∀ i m σ H,W i m σ H→
      ((Itl K a).stop i H∧D.nx σ H)∨((Itl K a).go i H∧∃ N:St→Hp→Prop,(∀ σ' H',N σ' H'→∃ m',m' < m∧W (i + 1) m' σ' H')∧∀ x H',(Itl K a).yld i H x H'→g x σ H' fun σ2 H2=>tb { D with nx:=N,ct:=N,bk:=D.nx } σ2 H2):=by
  refine ⟨fun i m σ H=>m = xs.length - i∧i≤xs.length∧Pv i σ H,⟨xs.length,by simp,Nat.zero_le _,h0⟩,?_⟩
  rintro i m σ H ⟨rfl,hi,p⟩
  have q:=hl i σ H hi p
  by_cases hlt:i < xs.length
  · refine .inr ⟨⟨xs,xs[i],q,by simp [hlt]⟩,Pv (i + 1),fun σ' H' p'=>⟨xs.length - (i + 1),by omega,rfl,hlt,p'⟩,fun x H' y=>?_⟩
    obtain ⟨e,y⟩:=y
    subst e
    exact hs i x σ _ (y xs q) p
  · have e:i = xs.length:=by omega
    subst e
    exact .inl ⟨⟨xs,q,Nat.le_refl _⟩,hd σ H p⟩
theorem for_tup {K:PySem.W.Frag} {a:Addr} {xs:List V} {g:TG} {tb:TS} {D:Ends} {σ:St} {H:Hp} (Pv:Nat→St→Hp→Prop) (h0:Pv 0 σ H) (hl:∀ i σ H,i≤xs.length→Pv i σ H→SqT K H a xs)
    (hs:∀ i x σ H,xs[i]? = some x→Pv i σ H→g x σ H fun σ2 H2=>tb { D with nx:=Pv (i + 1),ct:=Pv (i + 1),bk:=D.nx } σ2 H2) (hd:∀ σ H,Pv xs.length σ H→D.nx σ H) :
    ∃ W:Nat→Nat→St→Hp→Prop,(∃ m,W 0 m σ H)∧∀ i m σ H,W i m σ H→
      ((Itt K a).stop i H∧D.nx σ H)∨((Itt K a).go i H∧∃ N:St→Hp→Prop,(∀ σ' H',N σ' H'→∃ m',m' < m∧W (i + 1) m' σ' H')∧∀ x H',(Itt K a).yld i H x H'→g x σ H' fun σ2 H2=>tb { D with nx:=N,ct:=N,bk:=D.nx } σ2 H2):=by
  refine ⟨fun i m σ H=>m = xs.length - i∧i≤xs.length∧Pv i σ H,⟨xs.length,by simp,Nat.zero_le _,h0⟩,?_⟩
  rintro i m σ H ⟨rfl,hi,p⟩
  have q:=hl i σ H hi p
  by_cases hlt:i < xs.length
  · refine .inr ⟨⟨xs,xs[i],q,by simp [hlt]⟩,Pv (i + 1),fun σ' H' p'=>⟨xs.length - (i + 1),by omega,rfl,hlt,p'⟩,fun x H' y=>?_⟩
    obtain ⟨e,y⟩:=y
    subst e
    exact hs i x σ _ (y xs q) p
  · have e:i = xs.length:=by omega
    subst e
    exact .inl ⟨⟨xs,q,Nat.le_refl _⟩,hd σ H p⟩
theorem for_range {lo:Int} {n:Nat} {g:TG} {tb:TS} {D:Ends} {σ:St} {H:Hp} (Pv:Nat→St→Hp→Prop) (h0:Pv 0 σ H)
    (hs:∀ i σ H,i < n→Pv i σ H→g (.int (lo + i)) σ H fun σ2 H2=>tb { D with nx:=Pv (i + 1),ct:=Pv (i + 1),bk:=D.nx } σ2 H2) (hd:∀ σ H,Pv n σ H→D.nx σ H) :
    ∃ W:Nat→Nat→St→Hp→Prop,(∃ m,W 0 m σ H)∧∀ i m σ H,W i m σ H→
      ((Itr lo n).stop i H∧D.nx σ H)∨((Itr lo n).go i H∧∃ N:St→Hp→Prop,(∀ σ' H',N σ' H'→∃ m',m' < m∧W (i + 1) m' σ' H')∧∀ x H',(Itr lo n).yld i H x H'→g x σ H' fun σ2 H2=>tb { D with nx:=N,ct:=N,bk:=D.nx } σ2 H2):=by
  refine ⟨fun i m σ H=>m = n - i∧i≤n∧Pv i σ H,⟨n,by simp,Nat.zero_le _,h0⟩,?_⟩
  rintro i m σ H ⟨rfl,hi,p⟩
  by_cases hlt:i < n
  · refine .inr ⟨hlt,Pv (i + 1),fun σ' H' p'=>⟨n - (i + 1),by omega,rfl,hlt,p'⟩,fun x H' y=>?_⟩
    obtain ⟨e,y⟩:=y
    subst e y
    exact hs i σ _ hlt p
  · have e:i = n:=by omega
    subst e
    exact .inl ⟨Nat.le_refl _,hd σ H p⟩
end L2
namespace L2
open PySem PySem.Spec PyProof.Rows
abbrev R2:=V→V→Hp→VK→Prop
def OpR (X:Cx) (f:Value→Value→Sem Value) (r:R2):Prop:=
  ∀ (pins:List (Addr×Obj)) (s:Shared) (σ:St) (H:Hp) (x y:V) (v u:Value) (Q:VK),Inv X pins σ H s→RelV x v→RelV y u→r x y H Q→
    wpAny (model X.prog X.w) X.A (f v u) (EP X pins σ Q) X.xe s
def UnR (X:Cx) (f:Value→Sem Value) (r:V→Hp→VK→Prop):Prop:=
  ∀ (pins:List (Addr×Obj)) (s:Shared) (σ:St) (H:Hp) (x:V) (v:Value) (Q:VK),Inv X pins σ H s→RelV x v→r x H Q→
    wpAny (model X.prog X.w) X.A (f v) (EP X pins σ Q) X.xe s
def CallR (X:Cx) (f:Value) (r:List V→Hp→VK→Prop):Prop:=
  ∀ (pins:List (Addr×Obj)) (s:Shared) (σ:St) (H:Hp) (xs:List V) (us:List Value) (Q:VK),Inv X pins σ H s→Vals xs us→r xs H Q→
    wpAny (model X.prog X.w) X.A (call f us) (EP X pins σ Q) X.xe s
def tOp (r:R2) (ta tb:TE):TE:=fun σ H Q=>ta σ H fun x H1=>tb σ H1 fun y H2=>r x y H2 Q
def tUn (r:V→Hp→VK→Prop) (ta:TE):TE:=fun σ H Q=>ta σ H fun x H1=>r x H1 Q
def rI (C:Int→Int→Prop) (g:Int→Int→V):R2:=fun x y H Q=>∃ i j,x = .int i∧y = .int j∧C i j∧Q (g i j) H
def rI0 (g:Int→Int→V):R2:=fun x y H Q=>∃ i j,x = .int i∧y = .int j∧Q (g i j) H
def rU (g:Int→V):V→Hp→VK→Prop:=fun x H Q=>∃ i,x = .int i∧Q (g i) H
section
variable {X:Cx} {a b c:Expr} {ta tb tc:TE} {pos:Pos}
theorem binT (ha:PE X a ta) (hb:PE X b tb) {pins:List (Addr×Obj)} {s:Shared} {σ:St} {H:Hp} {R:V→V→Hp→Prop} (I:Inv X pins σ H s)
    (h:ta σ H fun x H1=>tb σ H1 fun y H2=>R x y H2) {Q:Value→Shared→Prop} {f:Value→Value→Sem Value}
    (hf:∀ v u s2 x y H2,Inv X pins σ H2 s2→RelV x v→RelV y u→R x y H2→wpAny (model X.prog X.w) X.A (f v u) Q X.xe s2) :
    wpAny (model X.prog X.w) X.A (eval a X.env) (fun v s₁=>wpAny (model X.prog X.w) X.A (eval b X.env) (fun u s₂=>wpAny (model X.prog X.w) X.A (f v u) Q X.xe s₂) X.xe s₁) X.xe s:=by
  refine thn (ha pins s σ H _ I h) fun v s1 ⟨x,H1,I1,r1,q1⟩=>?_
  refine thn (hb pins s1 σ H1 _ I1 q1) fun u s2 ⟨y,H2,I2,r2,q2⟩=>?_
  exact hf v u s2 x y H2 I2 r1 r2 q2
theorem pe_op {op:Operator} {r:R2} (ho:OpR X (binaryOp op) r) (ha:PE X a ta) (hb:PE X b tb):PE X (.BinOp a op b pos) (tOp r ta tb):=by
  intro pins s σ H Q I h
  exact wpAny_BinOp (binT ha hb I h fun v u s2 x y H2 I2 rx ry q=>ho pins s2 σ H2 x y v u Q I2 rx ry q)
theorem pe_un {op:UnaryOp} {r:V→Hp→VK→Prop} (ho:UnR X (unaryOp op) r) (ha:PE X a ta):PE X (.UnaryOp op a pos) (tUn r ta):=by
  intro pins s σ H Q I h
  exact UnaryOp_ (thn (ha pins s σ H _ I h) fun v s1 ⟨x,H1,I1,r1,q1⟩=>ho pins s1 σ H1 x v Q I1 r1 q1)
theorem opI {f:Value→Value→Sem Value} {C:Int→Int→Prop} {g:Int→Int→Int}
    (rule:∀ (i j:Int) (t u:Tok) (s:Shared) (Q:Value→Shared→Prop) (E:Value→Shared→Prop),C i j→Q (.int (g i j) s.toks) { s with toks:=s.toks + 1 }→wpAny (model X.prog X.w) X.A (f (.int i t) (.int j u)) Q E s) :
    OpR X f (rI C fun i j=>.int (g i j)):=by
  intro pins s σ H x y v u Q I rx ry h
  obtain ⟨i,j,rfl,rfl,hc,q⟩:=h
  obtain ⟨t,rfl⟩:=rx
  obtain ⟨t',rfl⟩:=ry
  exact rule i j t t' s _ _ hc ⟨.int (g i j),H,I.tok _,⟨_,rfl⟩,q⟩
theorem opI0 {f:Value→Value→Sem Value} {g:Int→Int→Int}
    (rule:∀ (i j:Int) (t u:Tok) (s:Shared) (Q:Value→Shared→Prop) (E:Value→Shared→Prop),Q (.int (g i j) s.toks) { s with toks:=s.toks + 1 }→wpAny (model X.prog X.w) X.A (f (.int i t) (.int j u)) Q E s) :
    OpR X f (rI0 fun i j=>.int (g i j)):=by
  intro pins s σ H x y v u Q I rx ry h
  obtain ⟨i,j,rfl,rfl,q⟩:=h
  obtain ⟨t,rfl⟩:=rx
  obtain ⟨t',rfl⟩:=ry
  exact rule i j t t' s _ _ ⟨.int (g i j),H,I.tok _,⟨_,rfl⟩,q⟩
theorem opB0 {f:Value→Value→Sem Value} {g:Int→Int→Bool}
    (rule:∀ (i j:Int) (t u:Tok) (s:Shared) (Q:Value→Shared→Prop) (E:Value→Shared→Prop),Q (.bool (g i j)) s→wpAny (model X.prog X.w) X.A (f (.int i t) (.int j u)) Q E s) :
    OpR X f (rI0 fun i j=>.bl (g i j)):=by
  intro pins s σ H x y v u Q I rx ry h
  obtain ⟨i,j,rfl,rfl,q⟩:=h
  obtain ⟨t,rfl⟩:=rx
  obtain ⟨t',rfl⟩:=ry
  exact rule i j t t' s _ _ ⟨.bl (g i j),H,I,rfl,q⟩
def CDiv (i j:Int):Prop:=0 < j∧j < 1073741824
def CPow (i j:Int):Prop:=0≤j∧j≤1000000∧i.natAbs < 2 ^ 64
def CMul (i j:Int):Prop:=(-(2 ^ 64) < i∧i < 2 ^ 64)∨(-(2 ^ 64) < j∧j < 2 ^ 64)
theorem CMul.ok {i j:Int} (h:CMul i j):IntMulOk i j:=by
  rcases h with ⟨h1,h2⟩ | ⟨h1,h2⟩
  · exact .of_left (intBits_le_64 h1 h2)
  · exact .of_right (intBits_le_64 h1 h2)
theorem op_add:OpR X (binaryOp .Add) (rI0 fun i j=>.int (i + j)):=opI0 fun _ _ _ _ _ _ _ q=>add_int q
theorem op_sub:OpR X (binaryOp .Sub) (rI0 fun i j=>.int (i - j)):=opI0 fun _ _ _ _ _ _ _ q=>sub_int q
theorem op_mul:OpR X (binaryOp .Mult) (rI CMul fun i j=>.int (i * j)):=opI fun _ _ _ _ _ _ _ hc q=>mul_int q hc.ok
theorem op_fdiv:OpR X (binaryOp .FloorDiv) (rI CDiv fun i j=>.int (i / j)):=opI fun i j _ _ _ _ _ hc q=>by
  have h1:(0:Int) < j:=hc.1
  have h2:j < 1073741824:=hc.2
  exact floordiv_int (by omega) (by rw [Int.fdiv_eq_ediv_of_nonneg i (by omega)]; exact q) (.inl (PyProof.noPylong_small (by omega)))
theorem op_mod:OpR X (binaryOp .Mod) (rI (fun _ j=>0 < j) fun i j=>.int (i % j)):=opI fun i j _ _ _ _ _ hc q=>by
  have h1:(0:Int) < j:=hc
  exact mod_int' (by omega) (by rw [Int.fmod_eq_emod_of_nonneg i (by omega)]; exact q)
theorem op_pow:OpR X (binaryOp .Pow) (rI CPow fun i j=>.int (i ^ j.toNat)):=opI fun _ _ _ _ _ _ _ hc q=>pow_int_small hc.1 hc.2.1 hc.2.2 q
theorem iop_add:OpR X (inplaceOp .Add) (rI0 fun i j=>.int (i + j)):=opI0 fun _ _ _ _ _ _ _ q=>iadd_int q
theorem iop_sub:OpR X (inplaceOp .Sub) (rI0 fun i j=>.int (i - j)):=opI0 fun _ _ _ _ _ _ _ q=>isub_int q
theorem unI {f:Value→Sem Value} {g:Int→Int}
    (rule:∀ (i:Int) (t:Tok) (s:Shared) (Q:Value→Shared→Prop) (E:Value→Shared→Prop),Q (.int (g i) s.toks) { s with toks:=s.toks + 1 }→wpAny (model X.prog X.w) X.A (f (.int i t)) Q E s) :
    UnR X f (rU fun i=>.int (g i)):=by
  intro pins s σ H x v Q I rx h
  obtain ⟨i,rfl,q⟩:=h
  obtain ⟨t,rfl⟩:=rx
  exact rule i t s _ _ ⟨.int (g i),H,I.tok _,⟨_,rfl⟩,q⟩
theorem un_neg:UnR X (unaryOp .USub) (rU fun i=>.int (-i)):=unI fun _ _ _ _ _ q=>neg_int q
end
def scal:V→V→Bool
  | .non,.non=>true | .non,.int _=>true | .int _,.non=>true | .non,.bl _=>true | .bl _,.non=>true | .non,.str _=>true | .str _,.non=>true
  | .int _,.int _=>true | .bl _,.bl _=>true | .str _,.str _=>true | .byt _,.byt _=>true
  | .int _,.str _=>true | .str _,.int _=>true | .bl _,.str _=>true | .str _,.bl _=>true
  | _,_=>false
def rEq:R2:=fun x y H Q=>scal x y = true∧Q (.bl (decide (x = y))) H
def rNe:R2:=fun x y H Q=>scal x y = true∧Q (.bl (!decide (x = y))) H
theorem dec_int {i j:Int}:decide (V.int i = V.int j) = (i == j):=by
  rw [Bool.eq_iff_iff]
  simp
theorem dec_bl {i j:Bool}:decide (V.bl i = V.bl j) = (i == j):=by
  rw [Bool.eq_iff_iff]
  simp
theorem dec_str {i j:Str}:decide (V.str i = V.str j) = (i == j):=by
  rw [Bool.eq_iff_iff]
  simp
theorem dec_byt {i j:Array UInt8}:decide (V.byt i = V.byt j) = (i.toList == j.toList):=by
  rw [Bool.eq_iff_iff]
  cases i
  cases j
  simp
section
variable {X:Cx} {a b c:Expr} {ta tb tc:TE} {pos:Pos}
theorem fin_bl {pins:List (Addr×Obj)} {σ:St} {H:Hp} {s:Shared} {Q:VK} {k k':Bool} (I:Inv X pins σ H s) (q:Q (.bl k) H) (e:k = k'):EP X pins σ Q (.bool k') s:=by
  subst e
  exact ⟨.bl k,H,I,rfl,q⟩
theorem op_eq:OpR X (compareOp .Eq) rEq:=by
  intro pins s σ H x y v u Q I rx ry h
  obtain ⟨hs,q⟩:=h
  cases x with
  | non=>
    cases rx
    cases y with
    | non=>cases ry; exact PySem.EqNone.eq_none_none (fin_bl I q (by simp))
    | bl j=>cases ry; exact PySem.EqNone.eq_none_bool (fin_bl I q (by simp))
    | int j=>obtain ⟨t',rfl⟩:=ry; exact PySem.EqNone.eq_none_int (fin_bl I q (by simp))
    | str j=>obtain ⟨t',rfl⟩:=ry; exact PySem.EqNone.eq_none_str (fin_bl I q (by simp))
    | _=>exact absurd (show false = true from hs) Bool.false_ne_true
  | bl i=>
    cases rx
    cases y with
    | non=>cases ry; exact PySem.EqNone.eq_bool_none (fin_bl I q (by simp))
    | bl j=>cases ry; exact eq_bool (fin_bl I q dec_bl)
    | str j=>obtain ⟨t',rfl⟩:=ry; exact PySem.EqMixed.eq_bool_str (fin_bl I q (by simp))
    | _=>exact absurd (show false = true from hs) Bool.false_ne_true
  | int i=>
    obtain ⟨t,rfl⟩:=rx
    cases y with
    | non=>cases ry; exact PySem.EqNone.eq_int_none (fin_bl I q (by simp))
    | int j=>obtain ⟨t',rfl⟩:=ry; exact eq_int (fin_bl I q dec_int)
    | str j=>obtain ⟨t',rfl⟩:=ry; exact PySem.EqMixed.eq_int_str (fin_bl I q (by simp))
    | _=>exact absurd (show false = true from hs) Bool.false_ne_true
  | str i=>
    obtain ⟨t,rfl⟩:=rx
    cases y with
    | non=>cases ry; exact PySem.EqNone.eq_str_none (fin_bl I q (by simp))
    | bl j=>cases ry; exact PySem.EqMixed.eq_str_bool (fin_bl I q (by simp))
    | int j=>obtain ⟨t',rfl⟩:=ry; exact PySem.EqMixed.eq_str_int (fin_bl I q (by simp))
    | str j=>obtain ⟨t',rfl⟩:=ry; exact eq_str (fin_bl I q dec_str)
    | _=>exact absurd (show false = true from hs) Bool.false_ne_true
  | byt i=>
    obtain ⟨t,rfl⟩:=rx
    cases y with
    | byt j=>obtain ⟨t',rfl⟩:=ry; exact PySem.W.eq_bytes (fin_bl I q dec_byt)
    | _=>exact absurd (show false = true from hs) Bool.false_ne_true
  | _=>cases y <;> exact absurd (show false = true from hs) Bool.false_ne_true
theorem op_ne:OpR X (compareOp .NotEq) rNe:=by
  intro pins s σ H x y v u Q I rx ry h
  obtain ⟨hs,q⟩:=h
  cases x with
  | non=>
    cases rx
    cases y with
    | non=>cases ry; exact PySem.EqNone.ne_none_none (fin_bl I q (by simp))
    | bl j=>cases ry; exact PySem.EqNone.ne_none_bool (fin_bl I q (by simp))
    | int j=>obtain ⟨t',rfl⟩:=ry; exact PySem.EqNone.ne_none_int (fin_bl I q (by simp))
    | str j=>obtain ⟨t',rfl⟩:=ry; exact PySem.EqNone.ne_none_str (fin_bl I q (by simp))
    | _=>exact absurd (show false = true from hs) Bool.false_ne_true
  | bl i=>
    cases rx
    cases y with
    | non=>cases ry; exact PySem.EqNone.ne_bool_none (fin_bl I q (by simp))
    | bl j=>cases ry; exact ne_bool (fin_bl I q (congrArg not dec_bl))
    | str j=>obtain ⟨t',rfl⟩:=ry; exact PySem.EqMixed.ne_bool_str (fin_bl I q (by simp))
    | _=>exact absurd (show false = true from hs) Bool.false_ne_true
  | int i=>
    obtain ⟨t,rfl⟩:=rx
    cases y with
    | non=>cases ry; exact PySem.EqNone.ne_int_none (fin_bl I q (by simp))
    | int j=>obtain ⟨t',rfl⟩:=ry; exact ne_int (fin_bl I q (congrArg not dec_int))
    | str j=>obtain ⟨t',rfl⟩:=ry; exact PySem.EqMixed.ne_int_str (fin_bl I q (by simp))
    | _=>exact absurd (show false = true from hs) Bool.false_ne_true
  | str i=>
    obtain ⟨t,rfl⟩:=rx
    cases y with
    | non=>cases ry; exact PySem.EqNone.ne_str_none (fin_bl I q (by simp))
    | bl j=>cases ry; exact PySem.EqMixed.ne_str_bool (fin_bl I q (by simp))
    | int j=>obtain ⟨t',rfl⟩:=ry; exact PySem.EqMixed.ne_str_int (fin_bl I q (by simp))
    | str j=>obtain ⟨t',rfl⟩:=ry; exact ne_str (fin_bl I q (congrArg not dec_str))
    | _=>exact absurd (show false = true from hs) Bool.false_ne_true
  | byt i=>
    obtain ⟨t,rfl⟩:=rx
    cases y with
    | byt j=>obtain ⟨t',rfl⟩:=ry; exact PySem.W.ne_bytes (fin_bl I q (congrArg not dec_byt))
    | _=>exact absurd (show false = true from hs) Bool.false_ne_true
  | _=>cases y <;> exact absurd (show false = true from hs) Bool.false_ne_true
theorem op_lt:OpR X (compareOp .Lt) (rI0 fun i j=>.bl (decide (i < j))):=opB0 fun _ _ _ _ _ _ _ q=>lt_int q
theorem op_le:OpR X (compareOp .LtE) (rI0 fun i j=>.bl (decide (i≤j))):=opB0 fun _ _ _ _ _ _ _ q=>le_int q
theorem op_gt:OpR X (compareOp .Gt) (rI0 fun i j=>.bl (decide (j < i))):=opB0 fun _ _ _ _ _ _ _ q=>gt_int q
theorem op_ge:OpR X (compareOp .GtE) (rI0 fun i j=>.bl (decide (j≤i))):=opB0 fun _ _ _ _ _ _ _ q=>ge_int q
theorem op_in_str:OpR X (compareOp .In) (fun x y H Q=>∃ i j,x = .str i∧y = .str j∧Q (.bl (!(Builtin.Str.occurrences j i 0 j.length 1).isEmpty)) H):=by
  intro pins s σ H x y v u Q I rx ry h
  obtain ⟨i,j,rfl,rfl,q⟩:=h
  obtain ⟨t,rfl⟩:=rx
  obtain ⟨t',rfl⟩:=ry
  exact in_str (fin_bl I q rfl)
theorem nomark (b:Expr) {op:CmpOp} (h:op≠.In:=by decide) (h2:op≠.NotIn:=by decide):behindInMarks op b = false:=by
  have e1:(op == CmpOp.In) = false:=by cases op <;> first | rfl | exact absurd rfl h
  have e2:(op == CmpOp.NotIn) = false:=by cases op <;> first | rfl | exact absurd rfl h2
  cases b <;> simp [behindInMarks,e1,e2]
theorem pe_cmpR {op:CmpOp} {r:R2} (ho:OpR X (compareOp op) r) (ha:PE X a ta) (hb:PE X b tb) (hm:behindInMarks op b = false):PE X (.Compare a [op] [b] pos) (tOp r ta tb):=by
  intro pins s σ H Q I h
  exact wpAny_Compare1 (binT ha hb I h fun v u s2 x y H2 I2 rx ry q=>ho pins s2 σ H2 x y v u Q I2 rx ry q) hm
def tTest (t:TE):TT:=fun σ H Q=>t σ H fun x H'=>∃ k,x = .bl k∧Q k H'
theorem pt_cmpR {op:CmpOp} {r:R2} (ho:OpR X (compareOp op) r) (ha:PE X a ta) (hb:PE X b tb) (hm:behindInMarks op b = false):PT X (.Compare a [op] [b] pos) (tTest (tOp r ta tb)):=by
  intro pins s σ H Q I h
  refine wpAny_isTrue_Compare1 (thn (ha pins s σ H _ I h) fun v s1 ⟨x,H1,I1,r1,q1⟩=>thn (hb pins s1 σ H1 _ I1 q1) fun u s2 ⟨y,H2,I2,r2,q2⟩=>
    thn (ho pins s2 σ H2 x y v u _ I2 r1 r2 q2) fun c s3 ⟨z,H3,I3,r3,k,e,q3⟩=>?_) hm
  subst e
  cases r3
  exact wpAny_truthy_bool ⟨H3,I3,q3⟩
def tChain (r r':R2) (ta tb tc:TE):TE:=fun σ H Q=>ta σ H fun x H1=>tb σ H1 fun y H2=>r x y H2 fun z H3=>∃ k,z = .bl k∧
  (if k = true then tc σ H3 fun w' H4=>r' y w' H4 Q else Q (.bl false) H3)
theorem pe_chain {op op':CmpOp} {r r':R2} (ho:OpR X (compareOp op) r) (ho':OpR X (compareOp op') r') (ha:PE X a ta) (hb:PE X b tb) (hc:PE X c tc)
    (hm:lastMarks [op,op'] [b,c] = false:=by with_unfolding_all rfl):PE X (.Compare a [op,op'] [b,c] pos) (tChain r r' ta tb tc):=by
  intro pins s σ H Q I h
  refine Compare_chain (thn (ha pins s σ H _ I h) fun v s1 ⟨x,H1,I1,r1,q1⟩=>chain_link (thn (hb pins s1 σ H1 _ I1 q1) fun u s2 ⟨y,H2,I2,r2,q2⟩=>
    thn (ho pins s2 σ H2 x y v u _ I2 r1 r2 q2) fun d s3 ⟨z,H3,I3,r3,k,e,q3⟩=>?_)) hm
  subst e
  cases r3
  refine wpAny_truthy_bool ?_
  cases k with
  | false=>exact ite_ff ⟨.bl false,H3,I3,rfl,q3⟩
  | true=>exact ite_tt (chain_last (thn (hc pins s3 σ H3 _ I3 q3) fun w' s4 ⟨z',H4,I4,r4,q4⟩=>ho' pins s4 σ H4 y z' u w' Q I4 r2 r4 q4))
theorem pt_chain {op op':CmpOp} {r r':R2} (ho:OpR X (compareOp op) r) (ho':OpR X (compareOp op') r') (ha:PE X a ta) (hb:PE X b tb) (hc:PE X c tc)
    (hm:lastMarks [op,op'] [b,c] = false:=by with_unfolding_all rfl):PT X (.Compare a [op,op'] [b,c] pos) (tTest (tChain r r' ta tb tc)):=by
  intro pins s σ H Q I h
  refine isTrue_chain (thn (ha pins s σ H _ I h) fun v s1 ⟨x,H1,I1,r1,q1⟩=>test_link (thn (hb pins s1 σ H1 _ I1 q1) fun u s2 ⟨y,H2,I2,r2,q2⟩=>
    thn (ho pins s2 σ H2 x y v u _ I2 r1 r2 q2) fun d s3 ⟨z,H3,I3,r3,k,e,q3⟩=>?_)) hm
  subst e
  cases r3
  refine wpAny_truthy_bool ?_
  cases k with
  | false=>
    obtain ⟨k',e',q'⟩:=q3
    cases e'
    exact ite_ff ⟨H3,I3,q'⟩
  | true=>
    refine ite_tt (test_last (thn (hc pins s3 σ H3 _ I3 q3) fun w' s4 ⟨z',H4,I4,r4,q4⟩=>thn (ho' pins s4 σ H4 y z' u w' _ I4 r2 r4 q4) fun d' s5 ⟨z2,H5,I5,r5,k2,e2,q5⟩=>?_))
    subst e2
    cases r5
    exact wpAny_truthy_bool ⟨H5,I5,q5⟩
theorem line63:(sizeLine:Nat) < 2 ^ 63:=by rw [sizeLine_eq]; decide
theorem op_add_str:OpR X (binaryOp .Add) (fun x y H Q=>∃ i j,x = .str i∧y = .str j∧i.length + j.length≤sizeLine∧Q (.str (i ++ j)) H):=by
  intro pins s σ H x y v u Q I rx ry h
  obtain ⟨i,j,rfl,rfl,hz,q⟩:=h
  obtain ⟨t,rfl⟩:=rx
  obtain ⟨t',rfl⟩:=ry
  exact add_str (fun t' tk=>⟨.str (i ++ j),H,I.tok _,⟨_,rfl⟩,q⟩) hz
theorem vals1 {x:V} {us:List Value} (r:Vals [x] us):∃ u,us = [u]∧RelV x u:=by
  cases r with
  | cons r1 r2=>cases r2; exact ⟨_,rfl,r1⟩
theorem vals2 {x y:V} {us:List Value} (r:Vals [x,y] us):∃ u w',us = [u,w']∧RelV x u∧RelV y w':=by
  cases r with
  | cons r1 r2=>
    cases r2 with
    | cons r3 r4=>cases r4; exact ⟨_,_,rfl,r1,r3⟩
theorem call_max2 (hc:X.calm = true):CallR X (.builtin "max") (fun xs H Q=>∃ i j,xs = [.int i,.int j]∧Q (.int (if j > i then j else i)) H):=by
  intro pins s σ H xs us Q I r h
  obtain ⟨i,j,rfl,q⟩:=h
  obtain ⟨u,w',rfl,⟨t,rfl⟩,⟨t',rfl⟩⟩:=vals2 r
  refine max_two_ints (I.ok.hd hc) fun h' tk k=>⟨_,H,I.kept k,?_,q⟩
  by_cases hj:j > i
  · rw [if_pos hj,if_pos hj]; exact ⟨_,rfl⟩
  · rw [if_neg hj,if_neg hj]; exact ⟨_,rfl⟩
theorem call_min2 (hc:X.calm = true):CallR X (.builtin "min") (fun xs H Q=>∃ i j,xs = [.int i,.int j]∧Q (.int (if j < i then j else i)) H):=by
  intro pins s σ H xs us Q I r h
  obtain ⟨i,j,rfl,q⟩:=h
  obtain ⟨u,w',rfl,⟨t,rfl⟩,⟨t',rfl⟩⟩:=vals2 r
  refine min_two_ints (I.ok.hd hc) fun h' tk k=>⟨_,H,I.kept k,?_,q⟩
  by_cases hj:j < i
  · rw [if_pos hj,if_pos hj]; exact ⟨_,rfl⟩
  · rw [if_neg hj,if_neg hj]; exact ⟨_,rfl⟩
theorem call_int1:CallR X (.type "int") (fun xs H Q=>(∃ i,xs = [.int i]∧Q (.int i) H)∨∃ k,xs = [.bl k]∧Q (.int (if k then 1 else 0)) H):=by
  intro pins s σ H xs us Q I r h
  rcases h with ⟨i,rfl,q⟩ | ⟨k,rfl,q⟩
  · obtain ⟨u,rfl,t,rfl⟩:=vals1 r
    exact call_int_int ⟨.int i,H,I,⟨_,rfl⟩,q⟩
  · obtain ⟨u,rfl,r1⟩:=vals1 r
    cases r1
    exact call_int_bool ⟨.int (if k then 1 else 0),H,I.tok _,⟨_,rfl⟩,q⟩
end
end L2
namespace L2
open PySem PySem.Spec PyProof.Rows
structure ObjM (h:Heap) (x dx C:Addr) (mA:Str→Option Value):Prop where
  obj:h.get? x = some (PySem.W.instObj C dx)
  ns:h.Ns1 dx mA
  ne:dx≠x
theorem lookIn_ns {h:Heap} {dx:Addr} {mA:Str→Option Value} (n:h.Ns1 dx mA):∃ od,h.get? dx = some od∧∀ name,PySem.W.lookIn name od = some (mA name):=by
  obtain ⟨o,es,ep,ho,hd,hk,_,hm⟩:=n
  refine ⟨o,ho,fun name=>?_⟩
  have e:=hm name
  unfold nsFind findBy at e
  rw [← Array.find?_toList] at e
  unfold PySem.W.lookIn
  rw [hd]
  dsimp only
  split
  · rename_i y q
    rw [q] at e
    exact congrArg some e
  · rename_i q
    rw [q] at e
    have a:es.toList.any (·.refKey) = false:=by
      rw [List.any_eq_false]
      intro y hy
      obtain ⟨z,t,hkey⟩:=hk y (Array.mem_toList_iff.mp hy)
      simp [DictEntry.refKey,hkey]
    have a':¬ es.toList.any (·.refKey) = true:=by rw [a]; exact Bool.false_ne_true
    rw [if_neg a']
    exact congrArg some e
theorem ObjM.look {h:Heap} {x dx C:Addr} {mA:Str→Option Value} (I:ObjM h x dx C mA):∃ od,PySem.W.InstAt h x (PySem.W.instObj C dx) C (some od)∧∀ name,PySem.W.lookIn name od = some (mA name):=
  let ⟨od,ho,hl⟩:=lookIn_ns I.ns
  ⟨od,⟨I.obj,rfl,rfl,ho⟩,hl⟩
section
variable {prog:Program} {w:World} {A:Around} {E:Value→Shared→Prop} {s:Shared} {K:PySem.W.Frag} {x dx C f:Addr} {mA:Str→Option Value} {name:Str} {v:Value}
theorem get_map {expr:Bool} {Q:Value→Shared→Prop} (X:K.In s.heap) (I:ObjM s.heap x dx C mA) (hg:PySem.W.plainGet K C name = true) (hh:PySem.W.hasDictIn K C = true)
    (ha:PySem.W.findIn K (.ref C) name = some none) (hv:mA name = some v) (hv':PySem.W.handedIn v = true) (h:Q v { s with toks:=s.toks + 1 }) :
    wpAny (model prog w) A (getAttr (.ref x) name expr) Q E s:=by
  obtain ⟨od,J,hl⟩:=I.look
  exact PySem.W.get_value X J (PySem.W.plainGet_of hg).1 (PySem.W.findObj_own hh ha rfl (by rw [hl,hv])) hv' h
theorem get_meth {pl:Sem Bool} {Q:Value×List Value→Shared→Prop} (X:K.In s.heap) (I:ObjM s.heap x dx C mA) (hg:PySem.W.plainGet K C name = true)
    (hf:PySem.W.findIn K (.ref C) name = some (some (.ref f))) (ht:PySem.W.isFn K (.ref f) = true) (hv:mA name = none) (h:Q (.ref f,[.ref x]) s) :
    wpAny (model prog w) A (getMethod (.ref x) name pl) Q E s:=by
  obtain ⟨od,J,hl⟩:=I.look
  exact PySem.W.method_fn X J (PySem.W.plainGet_of hg).1 (PySem.W.plainGet_of hg).2 hf (beq_iff_eq.mp ht) (by show (PySem.W.lookIn name od).map (·.isSome) = some false; rw [hl,hv]; rfl) h
theorem set_map {ns:List Str} {Q:Unit→Shared→Prop} (X:K.In s.heap) (I:ObjM s.heap x dx C mA)
    (hs:PySem.W.findIn K (.ref C) "__setattr__" = some (some (.builtin "object.__setattr__"))) (hp:PySem.W.plainOver K C = true) (ht:PySem.W.takerIn K C name = some none) (hh:PySem.W.hasDictIn K C = true)
    (hw:PySem.Within mA ns) (hsz:ns.length≤sizeLine)
    (h:∀ h',ObjM h' x dx C (fun y=>if y = name then some v else mA y)→Heap.SameBut dx s.heap h'→Q () { s with heap:=h',toks:=s.toks + 2 }) :
    wpAny (model prog w) A (setAttr (.ref x) name v) Q E s:=by
  obtain ⟨od,J,hl⟩:=I.look
  refine PySem.W.set_plain X J hs (PySem.W.osa_open (s:={ s with toks:=s.toks + 1 }) (r:=none) X J hp ht fun b=>?_)
  obtain ⟨cd,hc,hd'⟩:=PySem.W.any_some hh
  have hx:s.heap.get? x = some ⟨.ref C,some dx,.plain,#[]⟩:=I.obj
  refine wpAny_bind (wpAny_pure (wpAny_bind (wpAny_bind (wpAny_loadPart hx (wpAny_bind (PySem.W.Looks.here (s:={ s with toks:=s.toks + 1 }) (PySem.W.looks_clsIn X hc) ?_))))))
  rw [hd']
  refine wpAny_pure (a:=some dx) (wpAny_bind (wpAny_pure (wpAny_bind ?_)))
  refine wpAny_nsSet1 (s:={ s with toks:=s.toks + 1 }) I.ns fun h' hn2 hs2=>?_
  obtain ⟨oD,esD,epD,hoD,hdD,hcD⟩:=hn2.count (PySem.Within.cons name v hw)
  refine wpAny_bind (wpAny_lookBehind hoD (by rw [hdD]; exact pastItsLine_dict (Nat.le_trans hcD (by rw [List.length_cons]; omega))) ?_)
  exact wpAny_pure (h _ ⟨(hs2.2 _ (Ne.symm I.ne)).trans I.obj,hn2,I.ne⟩ hs2)
theorem make_map {R:Result→Shared→Prop} {vs:List Value} {kw:List (Str×Value)} (X:K.In s.heap) (hm:PySem.W.makesIn K C = true)
    (hi:PySem.W.findIn K (.ref C) "__init__" = some (some (.ref f))) (hf:PySem.W.typeIn K (.ref f) = some (.type "function"))
    (h:codeAny (model prog w) (A.under (.builtin "type.__call__" ⟨.ref C :: vs,kw⟩)) (.call (.ref f) ⟨.ref (s.heap.objs.size + 1) :: vs,kw⟩) (PySem.W.InitBack (s.heap.objs.size + 1) R)
      { s with heap:=(s.heap.push PySem.W.emptyDict).push (PySem.W.instObj C s.heap.objs.size) }) :
    codeAny (model prog w) A (.call (.ref C) ⟨vs,kw⟩) R s:=by
  obtain ⟨hh,g,d,t,os⟩:=s
  exact PySem.W.make_core (PySem.W.makes_of X hm) (PySem.W.looks_findIn X hi) (fun self=>PySem.W.bind_fn X self hf) (.inl rfl) h
end
def putF (f:Str) (v:V):List (Str×V)→List (Str×V)
  | []=>[(f,v)]
  | (g,x) :: r=>if g = f then (g,v) :: r else (g,x) :: putF f v r
theorem lookup_putF (f g:Str) (v:V):∀ fs:List (Str×V),(putF f v fs).lookup g = if g = f then some v else fs.lookup g
  | []=>by
    show List.lookup g [(f,v)] = _
    by_cases h:g = f
    · have hb:(g == f) = true:=beq_iff_eq.mpr h
      simp only [List.lookup,hb,if_pos h]
    · have hb:(g == f) = false:=beq_eq_false_iff_ne.mpr h
      simp only [List.lookup,hb,if_neg h]
  | (k,x) :: r=>by
    have ih:=lookup_putF f g v r
    rw [show putF f v ((k,x) :: r) = (if k = f then (k,v) :: r else (k,x) :: putF f v r) from rfl]
    by_cases hk:k = f
    · rw [if_pos hk]
      by_cases h:g = k
      · have hb:(g == k) = true:=beq_iff_eq.mpr h
        simp only [List.lookup,hb,if_pos (h.trans hk)]
      · have hb:(g == k) = false:=beq_eq_false_iff_ne.mpr h
        simp only [List.lookup,hb,if_neg (fun e:g = f=>h (e.trans hk.symm))]
    · rw [if_neg hk]
      by_cases h:g = k
      · have hb:(g == k) = true:=beq_iff_eq.mpr h
        simp only [List.lookup,hb,if_neg (fun e:g = f=>hk (h.symm.trans e))]
      · have hb:(g == k) = false:=beq_eq_false_iff_ne.mpr h
        simp only [List.lookup,hb]
        exact ih
theorem keys_putF (f:Str) (v:V):∀ fs:List (Str×V),f∈(putF f v fs).map (·.1)∧∀ g,g∈fs.map (·.1)→g∈(putF f v fs).map (·.1)
  | []=>⟨by simp [putF],fun g h=>by simp at h⟩
  | (k,x) :: r=>by
    obtain ⟨i1,i2⟩:=keys_putF f v r
    rw [show putF f v ((k,x) :: r) = (if k = f then (k,v) :: r else (k,x) :: putF f v r) from rfl]
    by_cases hk:k = f
    · rw [if_pos hk]
      subst hk
      exact ⟨by simp,fun g h=>by simpa using h⟩
    · rw [if_neg hk]
      refine ⟨?_,fun g h=>?_⟩
      · rw [List.map_cons]
        exact List.mem_cons_of_mem _ i1
      · rw [List.map_cons] at h ⊢
        rcases List.mem_cons.mp h with e | e
        · exact List.mem_cons.mpr (.inl e)
        · exact List.mem_cons_of_mem _ (i2 g e)
theorem length_putF (f:Str) (v:V):∀ fs:List (Str×V),(putF f v fs).length≤fs.length + 1
  | []=>by simp [putF]
  | (k,x) :: r=>by
    have ih:=length_putF f v r
    rw [show putF f v ((k,x) :: r) = (if k = f then (k,v) :: r else (k,x) :: putF f v r) from rfl]
    by_cases hk:k = f
    · rw [if_pos hk,List.length_cons,List.length_cons]; omega
    · rw [if_neg hk,List.length_cons,List.length_cons]; omega
theorem RelO.some_of {v:V} {o:Option Value} (r:RelO (some v) o):∃ u,o = some u∧RelV v u:=by
  cases o with
  | none=>exact (show False from r).elim
  | some u=>exact ⟨u,rfl,r⟩
theorem RelO.none_of {o:Option Value} (r:RelO none o):o = none:=by
  cases o with
  | none=>rfl
  | some u=>exact (show False from r).elim
theorem handed_of {v:V} {u:Value} (r:RelV v u):PySem.W.handedIn u = true:=by
  cases v with
  | non=>cases (show u = Value.none from r); rfl
  | bl b=>cases (show u = Value.bool b from r); rfl
  | int i=>obtain ⟨t,e⟩:=(show ∃ t,u = Value.int i t from r); cases e; rfl
  | str x=>obtain ⟨t,e⟩:=(show ∃ t,u = Value.str x t from r); cases e; rfl
  | byt b=>obtain ⟨t,e⟩:=(show ∃ t,u = Value.bytes b t from r); cases e; rfl
  | flt b=>obtain ⟨t,e⟩:=(show ∃ t,u = Value.float b t from r); cases e; rfl
  | ref a=>cases (show u = Value.ref a from r); rfl
  | ty n=>cases (show u = Value.type n from r); rfl
section
variable {P:Program} {w:World} {H H':Hp} {h h':Heap} {a C dx:Addr} {fs fs':List (Str×V)}
theorem ins_get (hok:HOk P w H h) (e:H a = some (.ins C dx fs)):∃ mA,ObjM h a dx C mA∧(∀ f,RelO (fs.lookup f) (mA f))∧PySem.Within mA (fs.map (·.1))∧fs.length≤1000∧H dx = some (.own a):=by
  obtain ⟨d,z,ne,ob,mA,n,r,q⟩:=(show ObjOk P w H h a (.ins C dx fs) from hok a _ e)
  exact ⟨mA,⟨ob,n,ne⟩,r,q,z,d⟩
end
structure Cls (K:PySem.W.Frag) (C:Addr):Prop where
  pg:PySem.W.plainGet K C Str.empty = true
  hd:PySem.W.hasDictIn K C = true
  po:PySem.W.plainOver K C = true
  sa:PySem.W.findIn K (.ref C) "__setattr__" = some (some (.builtin "object.__setattr__"))
theorem Cls.get {K:PySem.W.Frag} {C:Addr} (c:Cls K C) (f:Str):PySem.W.plainGet K C f = true:=c.pg
def NoAttr (K:PySem.W.Frag) (C:Addr) (f:Str):Prop:=PySem.W.findIn K (.ref C) f = some none
theorem NoAttr.taker {K:PySem.W.Frag} {C:Addr} {f:Str} (n:NoAttr K C f):PySem.W.takerIn K C f = some none:=by
  unfold PySem.W.takerIn
  rw [show PySem.W.findIn K (.ref C) f = some none from n]
  rfl
structure Con (K:PySem.W.Frag) (C:Addr) (f:Str) (v:V) (u:Value):Prop where
  at_:PySem.W.findIn K (.ref C) f = some (some u)
  rel:RelV v u
  get:PySem.W.specialIn K u "__get__" = some none
  cp:PySem.W.copiedNames.contains f = false
structure Meth (K:PySem.W.Frag) (C:Addr) (m:Str) (f:Addr):Prop where
  at_:PySem.W.findIn K (.ref C) m = some (some (.ref f))
  fn:PySem.W.isFn K (.ref f) = true
  kp:PySem.W.keepIn K (.ref f) = true
section
variable {X:Cx} {pins:List (Addr×Obj)} {σ:St} {H:Hp} {s:Shared} {a C dx:Addr} {fs:List (Str×V)} {f:Str} {v:V} {A:Around} {E:Value→Shared→Prop}
theorem getattr_ok {b:Bool} {Q:Value→Shared→Prop} (I:Inv X pins σ H s) (e:H a = some (.ins C dx fs)) (c:Cls X.K C) (n:NoAttr X.K C f) (l:fs.lookup f = some v)
    (h:∀ u s',Inv X pins σ H s'→RelV v u→Q u s'):wpAny (model X.prog X.w) A (getAttr (.ref a) f b) Q E s:=by
  obtain ⟨mA,O,r,_,_,_⟩:=ins_get I.hok e
  obtain ⟨u,hu,ru⟩:=RelO.some_of (v:=v) (o:=mA f) (by rw [← l]; exact r f)
  exact get_map I.kIn O (c.get f) c.hd n hu (handed_of ru) (h u _ (I.tok _) ru)
theorem getmeth_ok {m:Str} {g:Addr} {pl:Sem Bool} {Q:Value×List Value→Shared→Prop} (I:Inv X pins σ H s) (e:H a = some (.ins C dx fs)) (c:Cls X.K C) (k:Meth X.K C m g) (l:fs.lookup m = none)
    (h:Q (.ref g,[.ref a]) s):wpAny (model X.prog X.w) A (getMethod (.ref a) m pl) Q E s:=by
  obtain ⟨mA,O,r,_,_,_⟩:=ins_get I.hok e
  have hn:mA m = none:=RelO.none_of (by rw [← l]; exact r m)
  exact get_meth I.kIn O (c.get m) k.at_ k.fn hn h
theorem setattr_ok {y:V} {u:Value} {Q:Unit→Shared→Prop} (I:Inv X pins σ H s) (e:H a = some (.ins C dx fs)) (c:Cls X.K C) (n:NoAttr X.K C f) (hl:fs.length < 1000) (ry:RelV y u)
    (h:∀ s',Inv X pins σ (upd H a (.ins C dx (putF f y fs))) s'→Q () s'):wpAny (model X.prog X.w) A (setAttr (.ref a) f u) Q E s:=by
  obtain ⟨mA,O,r,wi,_,ho⟩:=ins_get I.hok e
  have hz:(fs.map (·.1)).length≤sizeLine:=by rw [List.length_map,sizeLine_eq]; omega
  refine set_map I.kIn O c.sa c.po n.taker c.hd wi hz fun h' O' sb=>h _ ?_
  have hd:∃ o,h'.get? dx = some o:=let ⟨o,_,_,e',_⟩:=O'.ns; ⟨o,e'⟩
  refine I.write (x:=a) (e:=dx) (by rw [e]; exact True.intro) (.inr ho) (fun b q hb z=>(sb.2 b hb).trans z) hd ?_
  refine ⟨by rw [upd_ne O.ne]; exact ho,?_,O.ne,O'.obj,_,O'.ns,fun g=>?_,fun g hg=>?_⟩
  · have:=length_putF f y fs; omega
  · show RelO ((putF f y fs).lookup g) (if g = f then some u else mA g)
    rw [lookup_putF]
    by_cases q:g = f
    · rw [if_pos q,if_pos q]; exact ry
    · rw [if_neg q,if_neg q]; exact r g
  · by_cases q:g = f
    · rw [q]; exact (keys_putF f y fs).1
    · refine (keys_putF f y fs).2 g (wi g fun z=>hg ?_)
      show (if g = f then some u else mA g) = none
      rw [if_neg q]; exact z
theorem Inv.made (I:Inv X pins σ H s):Inv X pins σ (upd (upd H s.heap.objs.size (.own (s.heap.objs.size + 1))) (s.heap.objs.size + 1) (.ins C s.heap.objs.size []))
    { s with heap:=(s.heap.push PySem.W.emptyDict).push (PySem.W.instObj C s.heap.objs.size) }:=by
  have e1:(s.heap.push PySem.W.emptyDict).get? s.heap.objs.size = some PySem.W.emptyDict:=Heap.get?_push_size s.heap rfl
  have e2:((s.heap.push PySem.W.emptyDict).push (PySem.W.instObj C s.heap.objs.size)).get? (s.heap.objs.size + 1) = some (PySem.W.instObj C s.heap.objs.size):=by
    have:=Heap.get?_push_size (s.heap.push PySem.W.emptyDict) (o:=PySem.W.instObj C s.heap.objs.size) rfl
    rwa [Heap.size_push] at this
  have e3:(s.heap.push PySem.W.emptyDict).Ns s.heap.objs.size (fun _=>none):=⟨PySem.W.emptyDict,#[],_,e1,rfl,(fun e he=>absurd he (by simp)),fun _=>rfl⟩
  have I1:=I.laid (a:=s.heap.objs.size) (o:=.own (s.heap.objs.size + 1)) (h':=s.heap.push PySem.W.emptyDict) (t':=s.toks) (fun b u q=>Heap.get?_push_of_some _ q) (Nat.le_refl _) ⟨_,e1⟩
  refine I1.laid (a:=s.heap.objs.size + 1) (o:=.ins C s.heap.objs.size []) (t':=s.toks) (fun b u q=>Heap.get?_push_of_some _ q) (Nat.le_of_eq (Heap.size_push _ _)) ?_
  have ne:s.heap.objs.size≠s.heap.objs.size + 1:=Nat.ne_of_lt (Nat.lt_succ_self _)
  refine ⟨by rw [upd_ne ne,upd_same],Nat.zero_le _,ne,e2,fun _=>none,(Heap.Ns1.of_empty e3).at fun o q=>Heap.get?_push_of_some _ q,fun _=>True.intro,fun y hy=>absurd rfl hy⟩
theorem attr_of {prog:Program} {w:World} {env:Env} {e:Expr} {f:Str} {pos:Pos} {s:Shared} {Q:Value→Shared→Prop} (hb:attributeBase e f env (eval e env) = eval e env)
    (h:wpAny (model prog w) A (eval e env) (fun o s₁=>wpAny (model prog w) A (getAttr o f true) Q E s₁) E s):wpAny (model prog w) A (eval (.Attribute e f pos) env) Q E s:=
  Attribute_any_ h (by rw [arm_eval_Attribute,hb])
end
def tFld (K:PySem.W.Frag) (ta:TE) (f:Str):TE:=fun σ H Q=>ta σ H fun x H1=>∃ a C dx fs v,x = .ref a∧H1 a = some (.ins C dx fs)∧Cls K C∧NoAttr K C f∧fs.lookup f = some v∧Q v H1
def sFld (K:PySem.W.Frag) (ta tv:TE) (f:Str):TS:=fun D σ H=>tv σ H fun y H1=>ta σ H1 fun x H2=>∃ a C dx fs,x = .ref a∧H2 a = some (.ins C dx fs)∧Cls K C∧NoAttr K C f∧fs.length < 1000∧
  D.nx σ (upd H2 a (.ins C dx (putF f y fs)))
def InOp (X:Cx) (op:Operator) (rd:V→V→Hp→VK→Prop):Prop:=
  ∀ (pins:List (Addr×Obj)) (s:Shared) (σ:St) (H:Hp) (x y:V) (u v:Value) (Q:VK),Inv X pins σ H s→RelV x u→RelV y v→rd x y H Q→wpAny (model X.prog X.w) X.A (inplaceOp op u v) (EP X pins σ Q) X.xe s
def sFldAug (K:PySem.W.Frag) (ta tv:TE) (rd:V→V→Hp→VK→Prop) (f:Str):TS:=fun D σ H=>ta σ H fun x H1=>∃ a C dx fs v,x = .ref a∧H1 a = some (.ins C dx fs)∧Cls K C∧NoAttr K C f∧fs.lookup f = some v∧
  tv σ H1 fun y H2=>rd v y H2 fun z H3=>∃ dx' fs',H3 a = some (.ins C dx' fs')∧fs'.length < 1000∧D.nx σ (upd H3 a (.ins C dx' (putF f z fs')))
section
variable {X:Cx} {o e value:Expr} {f:Str} {pos pos' tpos:Pos} {ta tv:TE}
theorem pe_fld (he:PE X e ta) (hb:attributeBase e f X.env (eval e X.env) = eval e X.env):PE X (.Attribute e f pos) (tFld X.K ta f):=by
  intro pins s σ H Q I h
  refine attr_of hb (thn (he pins s σ H _ I h) fun u s1 ⟨x,H1,I1,rx,a,C,dx,fs,v,ex,ea,c,n,l,q⟩=>?_)
  subst ex
  obtain rfl:u = Value.ref a:=rx
  exact getattr_ok I1 ea c n l fun u' s2 I2 ru=>⟨v,H1,I2,ru,q⟩
theorem ps_fld (ha:PE X o ta) (hv:PE X value tv) (hs:swapsWith value (some (.Attribute o f pos')) pos.line X.env = pure false):PS X (.Assign [.Attribute o f pos'] value pos) (sFld X.K ta tv f):=by
  intro pins s σ H D I h
  refine plainObj_wpAny_Assign_Attribute (thn (hv pins s σ H _ I h) fun u s1 ⟨y,H1,I1,ry,q⟩=>thn (ha pins s1 σ H1 _ I1 q) fun ov s2 ⟨x,H2,I2,rx,a,C,dx,fs,ex,ea,c,n,l,q2⟩=>?_) hs
  subst ex
  obtain rfl:ov = Value.ref a:=rx
  exact setattr_ok I2 ea c n l ry fun s3 I3=>⟨σ,_,I3,q2⟩
theorem ps_fldaug {op:Operator} {rd:V→V→Hp→VK→Prop} (ha:PE X o ta) (hv:PE X value tv) (hop:InOp X op rd):PS X (.AugAssign (.Attribute o f tpos) op value pos) (sFldAug X.K ta tv rd f):=by
  intro pins s σ H D I h
  refine wpAny_AugAssign_AttributeAny (thn (ha pins s σ H _ I h) fun ov s1 ⟨x,H1,I1,rx,a,C,dx,fs,v,ex,ea,c,n,l,q⟩=>?_)
  subst ex
  obtain rfl:ov = Value.ref a:=rx
  refine getattr_ok I1 ea c n l fun u s2 I2 ru=>thn (hv pins s2 σ H1 _ I2 q) fun w3 s3 ⟨y,H2,I3,ry,q3⟩=>thn (hop pins s3 σ H2 v y u w3 _ I3 ru ry q3) fun w4 s4 ⟨z,H3,I4,rz,dx',fs',ea',l',q4⟩=>?_
  exact setattr_ok I4 ea' c n l' rz fun s5 I5=>⟨σ,_,I5,q4⟩
end
section
variable {X:Cx} {pins:List (Addr×Obj)} {σ:St} {H:Hp} {s:Shared} {A:Around} {E:Value→Shared→Prop} {Q:Value→Shared→Prop} {c:Value} {b:Bool}
inductive TyOf (K:PySem.W.Frag) (H:Hp):V→Value→Prop where
  | non:TyOf K H .non (.type "NoneType")
  | bl (x:Bool):TyOf K H (.bl x) (.type "bool")
  | int (i:Int):TyOf K H (.int i) (.type "int")
  | str (x:Str):TyOf K H (.str x) (.type "str")
  | flt (x:UInt64):TyOf K H (.flt x) (.type "float")
  | lst {a:Addr} {xs:List V} (e:H a = some (.lst xs)):TyOf K H (.ref a) (.type "list")
  | frz {a:Addr} {o:Obj} {xs:List V} (e:H a = some (.frz o (.lst xs))):TyOf K H (.ref a) (.type "list")
  | tup {a:Addr} {xs:List V} (e:H a = some (.tup xs)):TyOf K H (.ref a) (.type "tuple")
  | dK {a:Addr} {kvs:List (Key×V)} (e:H a = some (.dK kvs)):TyOf K H (.ref a) (.type "dict")
  | dT {a:Addr} {kvs:List (List Key×V)} (e:H a = some (.dT kvs)):TyOf K H (.ref a) (.type "dict")
  | ins {a C dx:Addr} {fs:List (Str×V)} (e:H a = some (.ins C dx fs)) (cl:Cls K C) (ha:PySem.W.findIn K (.ref C) "__class__" = some (some (.builtin "object.__class__")))
      (hn:PySem.W.specialIn K (.builtin "object.__class__") "__get__" = some (some (.builtin "getset_descriptor.__get__"))) (htk:PySem.W.takesIn K (.builtin "object.__class__") = some true)
      (hm:PySem.W.mroIn K C (.type "object") = some true):TyOf K H (.ref a) (.ref C)
theorem isinst_ok {x:V} {u t:Value} (I:Inv X pins σ H s) (rx:RelV x u) (ty:TyOf X.K H x t) (e:PySem.W.kitOne X.K t c = some b) (h:∀ tk,Q (.bool b) { s with toks:=tk }) :
    wpAny (model X.prog X.w) A (call (.builtin "isinstance") [u,c]) Q E s:=by
  cases ty with
  | non=>cases (show u = Value.none from rx); exact PySem.W.kia_one PySem.W.kitx_none I.kIn True.intro e (fun z=>nomatch z) h
  | bl y=>cases (show u = Value.bool y from rx); exact PySem.W.kia_one PySem.W.kitx_bool I.kIn True.intro e (fun z=>nomatch z) h
  | int i=>obtain ⟨t,q⟩:=(show ∃ t,u = Value.int i t from rx); cases q; exact PySem.W.kia_one PySem.W.kitx_int I.kIn True.intro e (fun z=>nomatch z) h
  | str y=>obtain ⟨t,q⟩:=(show ∃ t,u = Value.str y t from rx); cases q; exact PySem.W.kia_one PySem.W.kitx_str I.kIn True.intro e (fun z=>nomatch z) h
  | flt y=>obtain ⟨t,q⟩:=(show ∃ t,u = Value.float y t from rx); cases q; exact PySem.W.kia_one PySem.W.kitx_float I.kIn True.intro e (fun z=>nomatch z) h
  | @lst a xs ea=>
    cases (show u = Value.ref a from rx)
    obtain ⟨_,_,n,_,h1⟩:=(show ObjOk X.prog X.w H s.heap a (.lst xs) from I.hok a _ ea)
    exact PySem.W.kia_one PySem.W.kitx_list I.kIn ⟨_,h1,rfl⟩ e (fun z=>nomatch z) h
  | @frz a ob xs ea=>
    cases (show u = Value.ref a from rx)
    obtain ⟨_,_,_,n,_,h1⟩:=(show ObjOk X.prog X.w H s.heap a (.frz ob (.lst xs)) from I.hok a _ ea)
    exact PySem.W.kia_one PySem.W.kitx_list I.kIn ⟨_,h1,rfl⟩ e (fun z=>nomatch z) h
  | @tup a xs ea=>
    cases (show u = Value.ref a from rx)
    obtain ⟨_,_,_,p⟩:=(show ObjOk X.prog X.w H s.heap a (.tup xs) from I.hok a _ ea)
    obtain ⟨o,h1,h2,_⟩:=p
    exact PySem.W.kia_one PySem.W.kitx_tuple I.kIn ⟨o,h1,h2⟩ e (fun z=>nomatch z) h
  | @dK a kvs ea=>
    cases (show u = Value.ref a from rx)
    obtain ⟨_,_,vs,_,p⟩:=(show ObjOk X.prog X.w H s.heap a (.dK kvs) from I.hok a _ ea)
    obtain ⟨o,es,ep,h1,h2,_⟩:=p
    exact PySem.W.kia_one PySem.W.kitx_dict I.kIn ⟨o,h1,h2.1⟩ e (fun z=>nomatch z) h
  | @dT a kvs ea=>
    cases (show u = Value.ref a from rx)
    obtain ⟨_,_,xs,_,o,es,ep,h1,h2,_⟩:=(show ObjOk X.prog X.w H s.heap a (.dT kvs) from I.hok a _ ea)
    exact PySem.W.kia_one PySem.W.kitx_dict I.kIn ⟨o,h1,h2.1⟩ e (fun z=>nomatch z) h
  | @ins a C dx fs ea cl ha hn htk hm=>
    cases (show u = Value.ref a from rx)
    obtain ⟨mA,O,_⟩:=ins_get I.hok ea
    obtain ⟨od,J,_⟩:=O.look
    exact PySem.W.kia_one (PySem.W.kitx_own (cl.get _) cl.hd ha hn htk hm) I.kIn J e (fun z=>nomatch z) h
end
end L2
namespace L2
open PySem PySem.Spec PyProof.Rows
structure Room (k:Nat) (A:Around):Prop where
  hd:A.handled = none
  dp:A.depth + 3 * k + 5 < recursionLimit
  un:A.units + 16 * k + 200 < cLine
theorem Room.mono {j k:Nat} {A:Around} (r:Room k A) (h:j≤k):Room j A:=⟨r.hd,by have:=r.dp; omega,by have:=r.un; omega⟩
theorem Room.deeper {k:Nat} {A:Around} (r:Room (k + 1) A) (env:Env):Room k (A.deeper env):=
  ⟨r.hd,by have:=r.dp; show A.depth + 1 + 3 * k + 5 < _; omega,by have:=r.un; show A.units + 3 + 16 * k + 200 < _; omega⟩
theorem Room.in1 {k:Nat} {A:Around} (r:Room (k + 1) A):Room k A.in1:=
  ⟨r.hd,by have:=r.dp; show A.depth + 3 * k + 5 < _; omega,by have:=r.un; show A.units + 1 + 16 * k + 200 < _; omega⟩
theorem make_depth {A:Around} {C:Addr} {us:List Value} {kw:List (Str×Value)}:(A.under (.builtin "type.__call__" ⟨.ref C :: us,kw⟩)).depth = A.depth + 1:=by
  first | rfl | simp [Around.under,Code.weight,Code.isCreation,Code.isGuard,Code.isCaller,Code.frames,Code.isFrame,guardIds]
theorem make_units {A:Around} {C:Addr} {us:List Value} {kw:List (Str×Value)}:(A.under (.builtin "type.__call__" ⟨.ref C :: us,kw⟩)).units = A.units + 1:=by
  first | rfl | simp [Around.under,Code.cUnits,Code.frames,Code.isFrame]
theorem Room.make {k:Nat} {A:Around} (r:Room (k + 1) A) (C:Addr) (us:List Value) (kw:List (Str×Value)):Room k (A.under (.builtin "type.__call__" ⟨.ref C :: us,kw⟩)):=
  ⟨r.hd,by have:=r.dp; rw [make_depth]; omega,by have:=r.un; rw [make_units]; omega⟩
theorem Room.depth {k:Nat} {A:Around} (r:Room k A):A.depth < recursionLimit:=by have:=r.dp; omega
theorem Room.units {k:Nat} {A:Around} (r:Room k A):A.units + 64 < cLine:=by have:=r.un; omega
def tNil:TA:=fun _ H Q=>Q [] H
def tCons (ta:TE) (tr:TA):TA:=fun σ H Q=>ta σ H fun x H1=>tr σ H1 fun xs H2=>Q (x :: xs) H2
section
variable {X:Cx} {e:Expr} {es:List Expr} {te:TE} {t:TA} {pos:Pos}
theorem pa_nil:PA X [] tNil:=fun _ _ _ _ H Q I h=>Calls.spliced_nil ⟨[],H,I,.nil,h⟩
theorem pa_cons (ha:PE X e te) (hr:PA X es t) (hs:starEach (e :: es) X.env = (false,eval e X.env) :: starEach es X.env:=by rfl):PA X (e :: es) (tCons te t):=by
  intro pos pins s σ H Q I h
  rw [hs]
  show wpAny _ _ (spliced ((false,eval e X.env) :: backTo pos (starEach es X.env))) _ _ s
  refine Calls.spliced_cons (thn (ha pins s σ H _ I h) fun u s1 ⟨x,H1,I1,r1,q1⟩=>?_)
  exact thn (hr pos pins s1 σ H1 _ I1 q1) fun us s2 ⟨xs,H2,I2,r2,q2⟩=>⟨x :: xs,H2,I2,.cons r1 r2,q2⟩
def tTup (t:TA):TE:=fun σ H Q=>t σ H fun xs H1=>xs.length≤sizeLine∧∀ p,H1 p = none→Q (.ref p) (upd H1 p (.tup xs))
def tLst (t:TA):TE:=fun σ H Q=>t σ H fun xs H1=>xs.length≤sizeLine∧∀ p,H1 p = none→Q (.ref p) (upd H1 p (.lst xs))
theorem pe_tup {x1} (h:PA X es t):PE X (.Tuple es x1 pos) (tTup t):=by
  intro pins s σ H Q I hq
  refine wpAny_Tuple_spliced (thn (h pos pins s σ H _ I hq) fun us s1 ⟨xs,H1,I1,r,z,q⟩=>⟨by rw [← r.length]; exact z,?_⟩)
  have hf:H1 s1.heap.objs.size = none:=I1.hok.fresh (Nat.le_refl _)
  refine ⟨.ref s1.heap.objs.size,upd H1 s1.heap.objs.size (.tup xs),I1.laid (t':=s1.toks) (fun b u e=>Heap.get?_push_of_some _ e) (Nat.le_refl _) ?_,rfl,q _ hf⟩
  exact ⟨z,us,r,⟨_,Heap.get?_push_size _ rfl,rfl,_,rfl⟩⟩
theorem pe_lst (h:PA X es t):PE X (.List es pos) (tLst t):=by
  intro pins s σ H Q I hq
  refine wpAny_List_spliced (thn (h pos pins s σ H _ I hq) fun us s1 ⟨xs,H1,I1,r,z,q⟩=>⟨by rw [← r.length]; exact z,?_⟩)
  have hf:H1 s1.heap.objs.size = none:=I1.hok.fresh (Nat.le_refl _)
  refine ⟨.ref s1.heap.objs.size,upd H1 s1.heap.objs.size (.lst xs),I1.laid (t':=s1.toks) (fun b u e=>Heap.get?_push_of_some _ e) (Nat.le_refl _) ?_,rfl,q _ hf⟩
  exact ⟨z,us,0,r,Heap.get?_push_size _ rfl⟩
end
abbrev Sp:=List V→Hp→VK→XK→Prop
abbrev CXT:=List Env→Hp→Shared→XK→Value→Shared→Prop
structure Env0 (P:Program) (w:World) (K:PySem.W.Frag) (mg:Str→Option Value) (base:Heap) (A:Around) (outer:List Env) (s:Shared) (H:Hp):Prop where
  frames:A.frames = some outer
  mod:Mod K mg base
  bs:∀ b o,base.get? b = some o→s.heap.get? b = some o∧H b = none
  bsz:base.objs.size≤s.heap.objs.size
  funs:s.heap.FunFrames base outer
  frf:∀ b∈frs outer,H b = none
  hok:HOk P w H s.heap
  bare:AllBare s.gens
def CE (outer:List Env) (P:Program) (w:World) (H:Hp) (s:Shared) (Q:VK) (u:Value) (s':Shared):Prop:=
  ∃ v H',s'.os = s.os∧AllBare s'.gens∧Un (frs outer) [] H H' s.heap s'.heap∧HOk P w H' s'.heap∧RelV v u∧Q v H'
def CR (CX:CXT) (outer:List Env) (P:Program) (w:World) (H:Hp) (s:Shared) (Q:VK) (E:XK) (r:Result) (s':Shared):Prop:=
  match r with
  | .ok (.ret u)=>CE outer P w H s Q u s'
  | .ok _=>False
  | .error e=>CX outer H s E e s'
structure FnOk (P:Program) (w:World) (K:PySem.W.Frag) (mg:Str→Option Value) (base:Heap) (CX:CXT) (k:Nat) (f:Addr) (fd:FuncData) (ps:List Str) (sp:Sp):Prop where
  len:∀ vs H Q E,sp vs H Q E→vs.length = ps.length
  run:∀ (A:Around) (outer:List Env) (s:Shared) (H:Hp) (args:Args) (us:List Value) (vs:List V) (Q:VK) (E:XK),Room k A→Env0 P w K mg base A outer s H→BindsTo s fd args (ps.zip us)→Vals vs us→sp vs H Q E→
    codeAny (model P w) A (.call (.ref f) args) (CR CX outer P w H s Q E) s
theorem FnOk.mono {P:Program} {w:World} {K:PySem.W.Frag} {mg:Str→Option Value} {base:Heap} {CX:CXT} {j k:Nat} {f:Addr} {fd:FuncData} {ps:List Str} {sp:Sp} (F:FnOk P w K mg base CX j f fd ps sp) (h:j≤k) :
    FnOk P w K mg base CX k f fd ps sp:=⟨F.len,fun A outer s H args us vs Q E hr=>F.run A outer s H args us vs Q E (hr.mono h)⟩
theorem Env0.make {P:Program} {w:World} {K:PySem.W.Frag} {mg:Str→Option Value} {base:Heap} {A:Around} {outer:List Env} {s:Shared} {H:Hp} (e:Env0 P w K mg base A outer s H) (C:Addr) (us:List Value) (kw:List (Str×Value)) :
    Env0 P w K mg base (A.under (.builtin "type.__call__" ⟨.ref C :: us,kw⟩)) outer s H:=⟨by first | exact e.frames | (simpa [Around.under,Code.envs,Code.isFrame,pushEnvs] using e.frames),e.mod,e.bs,e.bsz,e.funs,e.frf,e.hok,e.bare⟩
theorem Env0.in1 {P:Program} {w:World} {K:PySem.W.Frag} {mg:Str→Option Value} {base:Heap} {A:Around} {outer:List Env} {s:Shared} {H:Hp} (e:Env0 P w K mg base A outer s H) :
    Env0 P w K mg base A.in1 outer s H:=⟨e.frames,e.mod,e.bs,e.bsz,e.funs,e.frf,e.hok,e.bare⟩
section
variable {X:Cx} {pins:List (Addr×Obj)} {σ:St} {H:Hp} {s s':Shared}
theorem Inv.env0 (I:Inv X pins σ H s):Env0 X.prog X.w X.K X.mg X.base X.A X.stack s H:=
  ⟨I.ok.frames,I.ok.mod,I.bs,Nat.le_trans I.ok.bsz I.sz,I.stack,I.stkFree,I.hok,I.bare⟩
theorem Inv.after {Q:VK} {u:Value} (I:Inv X pins σ H s) (h:CE X.stack X.prog X.w H s Q u s'):EP X pins σ Q u s':=by
  obtain ⟨v,H',os,bare,un,hok,r,q⟩:=h
  obtain ⟨hh,g,d,t,os'⟩:=s'
  obtain rfl:os' = s.os:=os
  exact ⟨v,H',I.call (h':=hh) (g':=g) (d':=d) (t':=t) (ch:=[]) un hok bare (fun b z=>absurd z (by simp)),r,q⟩
end
def tCall (sp:Sp) (dvs:List V) (E:XK) (t:TA):TE:=fun σ H Q=>t σ H fun vs H1=>sp (vs ++ dvs) H1 Q E
def tMeth (C:Addr) (m:Str) (sp:Sp) (dvs:List V) (E:XK) (ta:TE) (t:TA):TE:=fun σ H Q=>ta σ H fun x H1=>∃ a dx fs,x = .ref a∧H1 a = some (.ins C dx fs)∧fs.lookup m = none∧
  t σ H1 fun vs H2=>sp (x :: (vs ++ dvs)) H2 Q E
def tMake (C:Addr) (sp:Sp) (dvs:List V) (E:XK) (t:TA):TE:=fun σ H Q=>t σ H fun vs H1=>∀ x dx,H1 x = none→H1 dx = none→dx≠x→
  sp (.ref x :: (vs ++ dvs)) (upd (upd H1 dx (.own x)) x (.ins C dx [])) (fun v H2=>v = .non∧Q (.ref x) H2) E
def Binds (K:PySem.W.Frag) (fd:FuncData) (ps:List Str) (ds:List Value):Prop:=
  ∀ (s:Shared) (us:List Value),K.In s.heap→(us ++ ds).length = ps.length→BindsTo s fd ⟨us,[]⟩ (ps.zip (us ++ ds))
theorem Binds.all {K:PySem.W.Frag} {fd:FuncData} {ps:List Str} (h:∀ us:List Value,us.length = ps.length→bindArgs fd ⟨us,[]⟩ = pure (ps.zip us)):Binds K fd ps []:=fun s us _ hl=>by
  rw [List.append_nil] at hl ⊢
  exact .of_eq (h us hl)
def Passes (CX:CXT) (X:Cx) (E:XK):Prop:=∀ (pins:List (Addr×Obj)) (σ:St) (H:Hp) (s:Shared) (e:Value) (s':Shared),Inv X pins σ H s→CX X.stack H s E e s'→X.xe e s'
section
variable {X:Cx} {CX:CXT} {k:Nat} {f C:Addr} {fd:FuncData} {ps:List Str} {sp:Sp} {dvs:List V} {ds:List Value} {E:XK} {x m:Str} {p pos apos:Pos} {e o:Expr} {es:List Expr} {ta:TE} {t:TA}
theorem run_fn {pins:List (Addr×Obj)} {σ:St} {H:Hp} {s:Shared} {Q:VK} {us:List Value} {vs:List V} (F:FnOk X.prog X.w X.K X.mg X.base CX k f fd ps sp) (hr:Room k X.A) (hb:Binds X.K fd ps ds) (hd:Vals dvs ds) (hx:Passes CX X E)
    (I:Inv X pins σ H s) (r:Vals vs us) (h:sp (vs ++ dvs) H Q E):wpAny (model X.prog X.w) X.A (call (.ref f) us) (EP X pins σ Q) X.xe s:=by
  have r2:Vals (vs ++ dvs) (us ++ ds):=r.append hd
  have hl:(us ++ ds).length = ps.length:=by rw [← r2.length]; exact F.len _ _ _ _ h
  refine wpAny_call (codeAny_mono (F.run X.A X.stack s H ⟨us,[]⟩ (us ++ ds) (vs ++ dvs) Q E hr I.env0 (hb s us I.kIn hl) r2 h) fun r s' hq=>?_)
  cases r with
  | error e=>exact hx pins σ H s e s' I hq
  | ok fl=>
    cases fl with
    | ret u=>exact I.after hq
    | next=>exact False.elim hq
    | brk=>exact False.elim hq
    | cont=>exact False.elim hq
theorem pe_call (F:FnOk X.prog X.w X.K X.mg X.base CX k f fd ps sp) (hr:Room k X.A) (hg:Gl X x) (hm:X.mg x = some (.ref f)) (hk:PySem.W.keepIn X.K (.ref f) = true) (hb:Binds X.K fd ps ds) (hd:Vals dvs ds) (hx:Passes CX X E)
    (ha:PA X (e :: es) t) (hdb:(x == ("__debug__":Str)) = false:=by decide) (he:starEach (e :: es) X.env = (false,eval e X.env) :: starEach es X.env:=by rfl) (hpl:(backTo pos (starEach es X.env)).any (·.1) = false:=by rfl) :
    PE X (.Call (.Name x p) (e :: es) [] pos) (tCall sp dvs E t):=by
  intro pins s σ H Q I h
  refine wpAny_Call_Name_kw (ld_glob I hg hm ?_ hdb)
  refine PySem.W.callWith_K (h₀:=X.base) I.ok.mod.kin hk (thn (ha pos pins s σ H _ I h) fun us s1 ⟨vs,H1,I1,r,q⟩=>⟨I1.kIn,?_⟩) he hpl
  exact run_fn F hr hb hd hx I1 r q
theorem pe_call0 (F:FnOk X.prog X.w X.K X.mg X.base CX k f fd ps sp) (hr:Room k X.A) (hg:Gl X x) (hm:X.mg x = some (.ref f)) (hk:PySem.W.keepIn X.K (.ref f) = true) (hb:Binds X.K fd ps ds) (hd:Vals dvs ds) (hx:Passes CX X E)
    (hdb:(x == ("__debug__":Str)) = false:=by decide):PE X (.Call (.Name x p) [] [] pos) (tCall sp dvs E tNil):=by
  intro pins s σ H Q I h
  refine wpAny_Call_Name_kw (ld_glob I hg hm ?_ hdb)
  exact PySem.W.callWith_K0 I.kIn hk (run_fn (us:=[]) F hr hb hd hx I .nil h)
theorem pe_meth {pl:Sem Bool} (he:PE X o ta) (c:Cls X.K C) (hm:Meth X.K C m f) (F:FnOk X.prog X.w X.K X.mg X.base CX k f fd ps sp) (hr:Room k X.A) (hb:Binds X.K fd ps ds) (hd:Vals dvs ds) (hx:Passes CX X E) (ha:PA X (e :: es) t)
    (hst:starEach (e :: es) X.env = (false,eval e X.env) :: starEach es X.env:=by rfl) (hpl:(backTo pos (starEach es X.env)).any (·.1) = false:=by rfl)
    (ht:eval (.Call (.Attribute o m apos) (e :: es) [] pos) X.env = (do
      let ov ← eval o X.env
      standAt apos.atName
      let (f,first) ← holding [ov] (getMethod ov m pl)
      callWith pos f first (backTo pos (starEach (e :: es) X.env)) (backToKw pos (keywordEach [] X.env))):=by rfl) :
    PE X (.Call (.Attribute o m apos) (e :: es) [] pos) (tMeth C m sp dvs E ta t):=by
  intro pins s σ H Q I h
  refine PySem.W.methodCall_KW (pl:=pl) (thn (he pins s σ H _ I h) fun u s1 ⟨x,H1,I1,rx,a,dx,fs,ex,ea,l,q⟩=>?_) ht
  subst ex
  obtain rfl:u = Value.ref a:=rx
  refine getmeth_ok I1 ea c hm l ?_
  refine PySem.W.callWith_K (first:=[.ref a]) (h₀:=X.base) I.ok.mod.kin hm.kp (thn (ha pos pins s1 σ H1 _ I1 q) fun us s2 ⟨vs,H2,I2,r,q2⟩=>⟨I2.kIn,?_⟩) hst hpl
  exact run_fn (us:=.ref a :: us) (vs:=.ref a :: vs) F hr hb hd hx I2 (.cons rfl r) q2
theorem pe_meth0 {pl:Sem Bool} (he:PE X o ta) (c:Cls X.K C) (hm:Meth X.K C m f) (F:FnOk X.prog X.w X.K X.mg X.base CX k f fd ps sp) (hr:Room k X.A) (hb:Binds X.K fd ps ds) (hd:Vals dvs ds) (hx:Passes CX X E)
    (ht:eval (.Call (.Attribute o m apos) [] [] pos) X.env = (do
      let ov ← eval o X.env
      standAt apos.atName
      let (f,first) ← holding [ov] (getMethod ov m pl)
      callWith pos f first (backTo pos (starEach [] X.env)) (backToKw pos (keywordEach [] X.env))):=by rfl) :
    PE X (.Call (.Attribute o m apos) [] [] pos) (tMeth C m sp dvs E ta tNil):=by
  intro pins s σ H Q I h
  refine PySem.W.methodCall_KW (pl:=pl) (thn (he pins s σ H _ I h) fun u s1 ⟨x,H1,I1,rx,a,dx,fs,ex,ea,l,q⟩=>?_) ht
  subst ex
  obtain rfl:u = Value.ref a:=rx
  refine getmeth_ok I1 ea c hm l ?_
  exact PySem.W.callWith_K0 (first:=[.ref a]) I1.kIn hm.kp (run_fn (us:=[.ref a]) (vs:=[.ref a]) F hr hb hd hx I1 (.cons rfl .nil) q)
structure Mk (K:PySem.W.Frag) (C f:Addr):Prop where
  makes:PySem.W.makesIn K C = true
  init:PySem.W.findIn K (.ref C) "__init__" = some (some (.ref f))
  fn:PySem.W.isFn K (.ref f) = true
  kp:PySem.W.keepIn K (.ref C) = true
theorem run_make {pins:List (Addr×Obj)} {σ:St} {H:Hp} {s:Shared} {Q:VK} {us:List Value} {vs:List V} (M:Mk X.K C f) (F:FnOk X.prog X.w X.K X.mg X.base CX k f fd ps sp) (hr:Room (k + 1) X.A) (hb:Binds X.K fd ps ds) (hd:Vals dvs ds)
    (hx:Passes CX X E) (I:Inv X pins σ H s) (r:Vals vs us)
    (h:∀ x dx,H x = none→H dx = none→dx≠x→sp (.ref x :: (vs ++ dvs)) (upd (upd H dx (.own x)) x (.ins C dx [])) (fun v H2=>v = .non∧Q (.ref x) H2) E) :
    wpAny (model X.prog X.w) X.A (call (.ref C) us) (EP X pins σ Q) X.xe s:=by
  have hq:=h (s.heap.objs.size + 1) s.heap.objs.size (I.hok.fresh (Nat.le_succ _)) (I.hok.fresh (Nat.le_refl _)) (Nat.ne_of_lt (Nat.lt_succ_self _))
  have I2:=Inv.made (C:=C) I
  have r2:Vals (V.ref (s.heap.objs.size + 1) :: (vs ++ dvs)) (Value.ref (s.heap.objs.size + 1) :: (us ++ ds)):=.cons rfl (r.append hd)
  have hl:(Value.ref (s.heap.objs.size + 1) :: us ++ ds).length = ps.length:=by
    have e:=r2.length
    rw [F.len _ _ _ _ hq] at e
    exact e.symm
  refine wpAny_call (make_map (f:=f) I.kIn M.makes M.init (beq_iff_eq.mp M.fn) (codeAny_mono (F.run _ X.stack _ _ ⟨Value.ref (s.heap.objs.size + 1) :: us,[]⟩ (Value.ref (s.heap.objs.size + 1) :: (us ++ ds)) _ _ E (hr.make C us [])
    (I2.env0.make C us []) (hb _ (Value.ref (s.heap.objs.size + 1) :: us) I2.kIn hl) r2 hq) fun r s' hq'=>?_))
  cases r with
  | error e=>exact hx pins σ _ _ e s' I2 hq'
  | ok fl=>
    cases fl with
    | ret u=>
      obtain ⟨v,H',I3,rv,ev,q3⟩:=I2.after hq'
      subst ev
      exact ⟨rv,⟨V.ref (s.heap.objs.size + 1),H',I3,rfl,q3⟩⟩
    | next=>exact False.elim hq'
    | brk=>exact False.elim hq'
    | cont=>exact False.elim hq'
theorem pe_make (M:Mk X.K C f) (F:FnOk X.prog X.w X.K X.mg X.base CX k f fd ps sp) (hr:Room (k + 1) X.A) (hg:Gl X x) (hm:X.mg x = some (.ref C)) (hb:Binds X.K fd ps ds) (hd:Vals dvs ds) (hx:Passes CX X E)
    (ha:PA X (e :: es) t) (hdb:(x == ("__debug__":Str)) = false:=by decide) (he:starEach (e :: es) X.env = (false,eval e X.env) :: starEach es X.env:=by rfl) (hpl:(backTo pos (starEach es X.env)).any (·.1) = false:=by rfl) :
    PE X (.Call (.Name x p) (e :: es) [] pos) (tMake C sp dvs E t):=by
  intro pins s σ H Q I h
  refine wpAny_Call_Name_kw (ld_glob I hg hm ?_ hdb)
  refine PySem.W.callWith_K (h₀:=X.base) I.ok.mod.kin M.kp (thn (ha pos pins s σ H _ I h) fun us s1 ⟨vs,H1,I1,r,q⟩=>⟨I1.kIn,?_⟩) he hpl
  exact run_make M F hr hb hd hx I1 r q
end
section
variable {X:Cx} {CX:CXT} {k:Nat} {f C:Addr} {fd:FuncData} {ps ks:List Str} {sp:Sp} {E:XK} {x m:Str} {p pos apos kpos:Pos} {e o:Expr} {es:List Expr} {kws:List Keyword} {te ta:TE} {t tk:TA} {nm:Option Str}
structure KBinds (K:PySem.W.Frag) (fd:FuncData) (ps ks:List Str) (g:List Value→List Value→List Value) (gV:List V→List V→List V):Prop where
  to:∀ (s:Shared) (us ws:List Value),K.In s.heap→(g us ws).length = ps.length→BindsTo s fd ⟨us,ks.zip ws⟩ (ps.zip (g us ws))
  rel:∀ {vs:List V} {us:List Value} {zs:List V} {ws:List Value},Vals vs us→Vals zs ws→Vals (gV vs zs) (g us ws)
variable {g:List Value→List Value→List Value} {gV:List V→List V→List V}
end
structure FnScope (N P:List Str) (sc:Scope):Prop where
  kind:sc.kind = .function
  co:sc.isCoroutine = false
  gen:sc.isGenerator = false
  nd:N.Nodup
  pre:N.take P.length = P
  par:∀ x∈P,sc.names.lookup x = some .local∨sc.names.lookup x = some .cell
  nofree:∀ y∈sc.names,y.2≠.free
theorem bindL_out {kindOf:Str→Option NameKind} {x:Str}:∀ {binds:List (Str×Value)} {m:Str→Option Value},(∀ v,(x,v) ∉ binds)→bindL kindOf binds m x = m x
  | [],_,_=>rfl
  | (n,v) :: r,m,h=>by
    unfold bindL
    rw [bindL_out fun w hw=>h w (List.mem_cons_of_mem _ hw)]
    split
    · have:x≠n:=by rintro rfl; exact h v List.mem_cons_self
      simp [this]
    · rfl
theorem bindC_out {kindOf:Str→Option NameKind} {x:Str}:∀ {binds:List (Str×Value)} {m:Str→Option Value},(∀ v,(x,v) ∉ binds)→bindC kindOf binds m x = m x
  | [],_,_=>rfl
  | (n,v) :: r,m,h=>by
    unfold bindC
    rw [bindC_out fun w hw=>h w (List.mem_cons_of_mem _ hw)]
    split
    · rfl
    · have:x≠n:=by rintro rfl; exact h v List.mem_cons_self
      simp [this]
theorem bindL_get {kindOf:Str→Option NameKind} {x:Str} {v:Value}:∀ {P:List Str} {vs:List Value} {i:Nat} {m:Str→Option Value},P.Nodup→P[i]? = some x→vs[i]? = some v→kindOf x = some .local→
    bindL kindOf (P.zip vs) m x = some v
  | [],_,_,_,_,h,_,_=>by simp at h
  | _ :: _,[],_,_,_,_,h,_=>by simp at h
  | p :: P,w :: vs,0,m,nd,h1,h2,hk=>by
    simp at h1 h2; subst h1; subst h2
    show bindL kindOf ((p,w) :: P.zip vs) m p = _
    unfold bindL
    rw [bindL_out fun v hv=>(List.nodup_cons.mp nd).1 (List.of_mem_zip hv).1,if_pos hk]
    simp
  | p :: P,w :: vs,i + 1,m,nd,h1,h2,hk=>by
    show bindL kindOf ((p,w) :: P.zip vs) m x = _
    unfold bindL
    exact bindL_get (i:=i) (List.nodup_cons.mp nd).2 (by simpa using h1) (by simpa using h2) hk
theorem bindC_get {kindOf:Str→Option NameKind} {x:Str} {v:Value}:∀ {P:List Str} {vs:List Value} {i:Nat} {m:Str→Option Value},P.Nodup→P[i]? = some x→vs[i]? = some v→kindOf x≠some .local→
    bindC kindOf (P.zip vs) m x = some v
  | [],_,_,_,_,h,_,_=>by simp at h
  | _ :: _,[],_,_,_,_,h,_=>by simp at h
  | p :: P,w :: vs,0,m,nd,h1,h2,hk=>by
    simp at h1 h2; subst h1; subst h2
    show bindC kindOf ((p,w) :: P.zip vs) m p = _
    unfold bindC
    rw [bindC_out fun v hv=>(List.nodup_cons.mp nd).1 (List.of_mem_zip hv).1,if_neg hk]
    simp
  | p :: P,w :: vs,i + 1,m,nd,h1,h2,hk=>by
    show bindC kindOf ((p,w) :: P.zip vs) m x = _
    unfold bindC
    exact bindC_get (i:=i) (List.nodup_cons.mp nd).2 (by simpa using h1) (by simpa using h2) hk
def start (N:List Str) (vs:List V):St:=vs.map some ++ List.replicate (N.length - vs.length) none
def cxOf (CX:CXT) (P:Program) (w:World) (K:PySem.W.Frag) (mg:Str→Option Value) (base:Heap) (N:List Str) (qual:Str) (scope:Scope) (f:Addr) (cd:Value) (A:Around) (outer:List Env) (s:Shared) (H:Hp) (E:XK):Cx where
  prog:=P
  w:=w
  K:=K
  mg:=mg
  base:=base
  A:=A.deeper (envOfC qual scope s.heap.objs.size f cd)
  N:=N
  s₀:=s
  H₀:=H
  env:=envOfC qual scope s.heap.objs.size f cd
  outer:=outer
  stack:=envOfC qual scope s.heap.objs.size f cd :: outer
  ex:=[]
  calm:=true
  fn:=fun _=>true
  pn:=[]
  xe:=fun e s'=>wpAny (model P w) (A.deeper (envOfC qual scope s.heap.objs.size f cd)) (leaving (envOfC qual scope s.heap.objs.size f cd) e) (fun _ s''=>CX outer H s E e s'') (fun e' s''=>CX outer H s E e' s'') s'
theorem cell_has {sc:Scope} {n:Nat} {x:Str} (h:sc.names.lookup x = some .cell):∃ c,(cellsFrom n sc.names []).lookup x = some c:=by
  have q:=PySem.W.cellsFrom_some sc.names n [] (.inl h)
  exact Option.isSome_iff_exists.mp q
theorem inv_start {CX:CXT} {P:Program} {w:World} {K:PySem.W.Frag} {mg:Str→Option Value} {base:Heap} {N ps:List Str} {qual:Str} {scope:Scope} {f:Addr} {cd:Value} {A:Around} {outer:List Env} {s s1:Shared} {H:Hp} {E:XK} {us:List Value} {vs:List V}
    (S:FnScope N ps scope) (hd:A.handled = none) (e0:Env0 P w K mg base A outer s H) (hl:vs.length = ps.length) (r:Vals vs us)
    (x:InCallC s s.heap.objs.size (bindL (envOfC qual scope s.heap.objs.size f cd).kindOf (ps.zip us) fun _=>none) (cellsFrom (s.heap.objs.size + 1) scope.names []) (bindC (envOfC qual scope s.heap.objs.size f cd).kindOf (ps.zip us) fun _=>none) s1) :
    Inv (cxOf CX P w K mg base N qual scope f cd A outer s H E) [] (start N vs) H s1:=by
  have hpl:ps.length≤N.length:=by have:=congrArg List.length S.pre; rw [List.length_take] at this; omega
  obtain ⟨h1,tk,rfl,hk⟩:=x.done
  have noA:∀ b:Addr,b ∉ (cxOf CX P w K mg base N qual scope f cd A outer s H E).ex:=fun b z=>absurd (show b∈([]:List Addr) from z) (by simp)
  refine ⟨⟨e0.mod,S.kind,rfl,rfl,Nat.le_refl _,fun y z c h1 h2=>?_,fun y hy=>?_,fun y c _ h=>?_,fun _=>hd,Around.frames_deeper e0.frames,.inr ⟨rfl,rfl⟩,fun b z=>absurd z (noA b),e0.bs,e0.bsz,fun b _ _=>noA b,fun b z=>absurd z (noA b),e0.funs,e0.frf⟩,
    rfl,e0.bare,Un.kept hk,⟨_,x.toInCall.ns,fun i y v h1 h2 h3=>?_⟩,fun y c h=>⟨_,x.cell y c h⟩,e0.hok.fresh (Nat.le_refl _),fun y c h=>?_,fun p hp=>absurd (show p∈([]:List (Addr×Obj)) from hp) (by simp),e0.hok.kept hk,?_⟩
  · exact name_of_addr x.apart (PySem.mem_of_lookup h1) (PySem.mem_of_lookup h2)
  · have hy:scope.names.lookup y = some .cell∨scope.names.lookup y = some .free:=hy
    rcases hy with hy | hy
    · exact cell_has hy
    · exact absurd rfl (S.nofree _ (PySem.mem_of_lookup hy))
  · exact Nat.le_of_lt (x.above y c (PySem.mem_of_lookup h))
  · have hi:i < vs.length:=by
      unfold start at h2
      by_cases hi:i < vs.length
      · exact hi
      · rw [List.getElem?_append_right (by simpa using hi)] at h2
        rw [List.getElem?_replicate] at h2
        split at h2 <;> cases h2
    have ha:vs[i]? = some v:=by
      unfold start at h2
      rw [List.getElem?_append_left (by simpa using hi),List.getElem?_map] at h2
      cases e:vs[i]? with
      | none=>rw [e] at h2; cases h2
      | some a=>rw [e] at h2; cases h2; rfl
    obtain ⟨u,hu,rv⟩:=r.get ha
    have hp:ps[i]? = some y:=by
      rw [← S.pre,List.getElem?_take_of_lt (by omega)]; exact h1
    have ndP:ps.Nodup:=by rw [← S.pre]; exact S.nd.sublist (List.take_sublist _ _)
    refine ⟨u,rv,?_⟩
    rcases S.par y (List.mem_of_getElem? hp) with k | k
    · exact .inl ⟨k,bindL_get ndP hp hu k⟩
    · obtain ⟨c,e⟩:=cell_has (n:=s.heap.objs.size + 1) k
      refine .inr ⟨.inl k,c,e,?_⟩
      have q:=x.cell y c e
      rw [bindC_get ndP hp hu (by show scope.names.lookup y≠_; rw [k]; decide)] at q
      exact q
  · exact e0.hok.fresh (Nat.le_of_lt (x.above y c (PySem.mem_of_lookup h)))
  · unfold start
    show _ = N.length
    rw [List.length_append,List.length_map,List.length_replicate]
    omega
theorem fn_of {CX:CXT} {P:Program} {w:World} {K:PySem.W.Frag} {mg:Str→Option Value} {base:Heap} {k:Nat} {f:Addr} {name qual:Str} {params:Arguments} {body:List Stmt} {scope:Scope} {dV kV doc pm cdv ct oc:Value} {an od:Option Addr}
    {osl:Array (Option Value)} {N ps:List Str} {sp:Sp} (lk:K.lookup f = some ⟨oc,od,.func (PySem.W.fnOf name qual params body scope dV kV doc pm an cdv ct),osl⟩) (hcd:PySem.W.codeIn K cdv qual = true) (S:FnScope N ps scope)
    (len:∀ vs H Q E,sp vs H Q E→vs.length = ps.length)
    (hbody:∀ (A:Around) (outer:List Env) (s:Shared) (H:Hp) (vs:List V) (Q:VK) (E:XK),Room k (A.deeper (envOfC qual scope s.heap.objs.size f cdv))→sp vs H Q E→
      ∃ t,PSs (cxOf CX P w K mg base N qual scope f cdv A outer s H E) body t∧t { nx:=fun _ H'=>Q .non H',rt:=Q } (start N vs) H) :
    FnOk P w K mg base CX (k + 1) f (PySem.W.fnOf name qual params body scope dV kV doc pm an cdv ct) ps sp:=by
  refine ⟨len,fun A outer s H args us vs Q E hr e0 hb r hsp=>?_⟩
  have hl:=len _ _ _ _ hsp
  have KX:K.In s.heap:=e0.mod.kin.keeps fun b o e=>(e0.bs b o e).1
  have lim:s.heap.NoLimit:=e0.mod.nolimit.keeps fun b o e=>(e0.bs b o e).1
  have hkind:∀ y∈ps.zip us,scope.names.lookup y.1 = some .local∨(scope.names.lookup y.1 = some .cell∧((cellsFrom (s.heap.objs.size + 1) scope.names []).lookup y.1).isSome = true):=fun ⟨n,v⟩ hy=>by
    rcases S.par n (List.of_mem_zip hy).1 with q | q
    · exact .inl q
    · exact .inr ⟨q,PySem.W.cellsFrom_some _ _ _ (.inl q)⟩
  refine codeAny_call_function hr.depth (KX _ _ lk) rfl S.co S.gen rfl (PySem.W.codeRec_of KX hcd) (hb _ _ _ _ ?_)
  refine wpAny_newFunctionEnv_cells S.kind hkind fun env he s1 x=>?_
  subst he
  refine ⟨lim.keeps x.toInCall.keep,codeAny_func ?_⟩
  obtain ⟨t,ht,hq⟩:=hbody A outer s H vs Q E (hr.deeper _) hsp
  have I:Inv (cxOf CX P w K mg base N qual scope f cdv A outer s H E) [] (start N vs) H s1:=inv_start S hr.hd e0 hl r x
  refine wpAny_mono (ht [] s1 (start N vs) H _ I hq) (fun fl s' hs=>?_) fun e s' hs=>hs
  have fin:∀ {σ':St} {H':Hp} {v:V} {u:Value},Inv (cxOf CX P w K mg base N qual scope f cdv A outer s H E) [] σ' H' s'→RelV v u→Q v H'→CE outer P w H s Q u s':=
    fun {σ' H' v u} J rv q=>⟨v,H',J.os,J.bare,J.base,J.hok,rv,q⟩
  cases fl with
  | ret u=>
    obtain ⟨v,σ',H',J,rv,q⟩:=hs
    exact fin J rv q
  | next=>
    obtain ⟨σ',H',J,q⟩:=hs
    exact fin (v:=V.non) (u:=Value.none) J rfl q
  | brk=>
    obtain ⟨_,_,_,q⟩:=hs
    exact False.elim q
  | cont=>
    obtain ⟨_,_,_,q⟩:=hs
    exact False.elim q
end L2
namespace L2
open PySem PySem.Spec PyProof.Rows
section
variable {X:Cx} {x:Str} {p pos:Pos} {e:Expr} {es:List Expr} {t:TA} {id T:String} {r:List V→Hp→VK→Prop}
def tCB (r:List V→Hp→VK→Prop) (t:TA):TE:=fun σ H Q=>t σ H fun vs H1=>r vs H1 Q
theorem pe_callB (hc:CallR X (.builtin id) r) (hg:Gl X x) (hm:X.mg x = none) (hv:bootBuiltins x = some (.builtin id)) (ha:PA X (e :: es) t) (hn:x≠"__name__":=by decide) (hdb:(x == ("__debug__":Str)) = false:=by decide)
    (he:starEach (e :: es) X.env = (false,eval e X.env) :: starEach es X.env:=by rfl) (hpl:(backTo pos (starEach es X.env)).any (·.1) = false:=by rfl):PE X (.Call (.Name x p) (e :: es) [] pos) (tCB r t):=by
  intro pins s σ H Q I h
  refine wpAny_Call_Name_kw (ld_blt I hg hm hv ?_ hn hdb)
  exact PyProof.Rows.callWith_builtin1 (thn (ha pos pins s σ H _ I h) fun us s1 ⟨vs,H1,I1,r1,q1⟩=>hc pins s1 σ H1 vs us Q I1 r1 q1) he hpl
theorem pe_callTy (hc:CallR X (.type T) r) (hg:Gl X x) (hm:X.mg x = none) (hv:bootBuiltins x = some (.type T)) (ha:PA X (e :: es) t) (hn:x≠"__name__":=by decide) (hdb:(x == ("__debug__":Str)) = false:=by decide)
    (he:starEach (e :: es) X.env = (false,eval e X.env) :: starEach es X.env:=by rfl) (hpl:(backTo pos (starEach es X.env)).any (·.1) = false:=by rfl):PE X (.Call (.Name x p) (e :: es) [] pos) (tCB r t):=by
  intro pins s σ H Q I h
  refine wpAny_Call_Name_kw (ld_blt I hg hm hv ?_ hn hdb)
  exact PyProof.Rows.callWith_type1 (thn (ha pos pins s σ H _ I h) fun us s1 ⟨vs,H1,I1,r1,q1⟩=>hc pins s1 σ H1 vs us Q I1 r1 q1) he hpl
end
end L2
namespace HT
open PySem PyProof.Rows
section
open PySem.SeqAt
open PySem.AutoSeq1 (wpAny_loadPart')
open PySem.MeetsSeq PySem.MeetsSeq2 PySem.MeetsSeq3
end
section
variable {prog:Program} {w:World} {A:Around} {E:Value→Shared→Prop} {s:Shared}
theorem cat_tup {t b:Addr} {vs ws:List Value} {Q:Value→Shared→Prop} (ht:IsTup s.heap t vs.toArray) (hb:IsTup s.heap b ws.toArray) (hv:vs≠[])
    (h1:ws = []→Q (.ref t) s) (h2:ws≠[]→Q (.ref s.heap.objs.size) { s with heap:=s.heap.push { cls:=.type "tuple",data:=.seq (vs ++ ws).toArray } })
    (hsz:vs.length + ws.length≤sizeLine):wpAny (model prog w) A (binaryOp .Add (.ref t) (.ref b)) Q E s:=by
  obtain ⟨⟨cls,dd,data,sl⟩,ho,hc,n,hd⟩:=id ht
  obtain ⟨⟨cls2,dd2,data2,sl2⟩,ho2,hc2,n2,hd2⟩:=id hb
  simp only at hc hd hc2 hd2
  subst hc hd hc2 hd2
  have e:vs.toArray ++ ws.toArray = (vs ++ ws).toArray:=by simp
  by_cases hw:ws = []
  · exact concat_meets ⟨_,ho,rfl⟩ ⟨_,ho2,rfl⟩ noFill_tuple_add seq_tuple_add PySem.F.slot_tuple_add PySem.F.entry_tuple_add (PySem.F.args_tuple_add_2 _ _)
      (tuple_addW1 t b vs.toArray ws.toArray n n2 dd dd2 sl sl2 (by simpa using hv) (by simp [hw])) ⟨ho,ho2,h1 hw⟩
  · refine concat_meets ⟨_,ho,rfl⟩ ⟨_,ho2,rfl⟩ noFill_tuple_add seq_tuple_add PySem.F.slot_tuple_add PySem.F.entry_tuple_add (PySem.F.args_tuple_add_2 _ _)
      (tuple_addW2 t b vs.toArray ws.toArray n n2 dd dd2 sl sl2 (by simpa using hv) (by simpa using hw) (by rw [List.size_toArray,List.size_toArray]; exact hsz)) ⟨ho,ho2,?_⟩
    rw [e]
    exact h2 hw
def sIx (n d:Nat):Option Int→Nat
  | none=>d
  | some v=>if v < 0 then (v + (n:Int)).toNat else min v.toNat n
theorem sIx_none (n d:Nat):sIx n d none = d:=rfl
theorem sIx_nat (n d k:Nat):sIx n d (some (k:Int)) = min k n:=by
  show (if (k:Int) < 0 then ((k:Int) + (n:Int)).toNat else min (k:Int).toNat n) = min k n
  rw [if_neg (by omega),Int.toNat_natCast]
theorem sIx_le (n d:Nat) (hd:d≤n) (o:Option Int):sIx n d o≤n:=by
  cases o with
  | none=>exact hd
  | some v=>
    show (if v < 0 then (v + (n:Int)).toNat else min v.toNat n)≤n
    by_cases hv:v < 0
    · rw [if_pos hv]; omega
    · rw [if_neg hv]; exact Nat.min_le_right _ _
theorem clip_eq (v:Int) (n d:Nat):(if v < 0 then max (v + (n:Int)) 0 else min v (n:Int)) = ((sIx n d (some v):Nat):Int):=by
  show (if v < 0 then max (v + (n:Int)) 0 else min v (n:Int)) = (((if v < 0 then (v + (n:Int)).toNat else min v.toNat n):Nat):Int)
  by_cases hv:v < 0
  · simp only [if_pos hv]; omega
  · simp only [if_neg hv]; omega
theorem adjust_gen (lo hi:Option Int) (n:Nat):Builtin.Slice.sliceAdjust lo hi 1 (n:Int) = (((sIx n 0 lo:Nat):Int),((sIx n n hi:Nat):Int)):=by
  have h1:¬ ((1:Int) < 0):=by omega
  unfold Builtin.Slice.sliceAdjust
  simp only [h1,if_false]
  refine Prod.ext ?_ ?_
  · cases lo with
    | none=>rfl
    | some v=>exact clip_eq v n 0
  · cases hi with
    | none=>rfl
    | some v=>exact clip_eq v n n
theorem places_gen (i j:Nat):Builtin.Slice.slicePlaces (i:Int) (j:Int) 1 = j - i:=by
  unfold Builtin.Slice.slicePlaces
  have h1:(1:Int) > 0:=by omega
  simp only [h1,if_true,Int.ediv_one]
  split <;> omega
theorem slicePart_ {v:Value} {o:Option Int} {Q:Option Int→Shared→Prop} (p:IsPart v o) (h:Q o s):wpAny (model prog w) A (Builtin.Slice.slicePartIndex v) Q E s:=by
  cases p with
  | none=>exact slicePart_none h
  | int i t=>exact slicePart_int h
theorem sliceApplied_gen {sl:Addr} {vl vu:Value} {lo hi:Option Int} {n:Nat} {Q:Int×Int×Nat→Shared→Prop} (hs:s.heap.IsSliceOf sl vl vu .none) (pl:IsPart vl lo) (pu:IsPart vu hi)
    (h:Q (((sIx n 0 lo:Nat):Int),1,sIx n n hi - sIx n 0 lo) s):wpAny (model prog w) A (Builtin.Slice.sliceApplied (.ref sl) (pure (n:Int))) Q E s:=by
  obtain ⟨os,hos,hcs,hds⟩:=id hs
  unfold Builtin.Slice.sliceApplied Builtin.Slice.sliceFields
  refine wpAny_bind (wpAny_bind (wpAny_field hos hds (x:=vl) rfl (wpAny_bind (wpAny_field hos hds (x:=vu) rfl (wpAny_bind (wpAny_field hos hds (x:=.none) rfl (wpAny_pure ?_)))))))
  refine wpAny_bind (slicePart_none ?_)
  show wpAny _ _ (if ((1:Int) == 0) = true then _ else _) _ _ s
  rw [if_neg (by decide)]
  refine wpAny_bind (slicePart_ pl (wpAny_bind (slicePart_ pu (wpAny_bind (wpAny_pure ?_)))))
  show wpAny _ _ (match Builtin.Slice.sliceAdjust lo hi 1 (n:Int) with | (lo,hi)=>pure (lo,(1:Int),Builtin.Slice.slicePlaces lo hi 1)) _ _ s
  rw [adjust_gen lo hi n]
  show wpAny _ _ (pure (((sIx n 0 lo:Nat):Int),(1:Int),Builtin.Slice.slicePlaces ((sIx n 0 lo:Nat):Int) ((sIx n n hi:Nat):Int) 1)) _ _ s
  rw [places_gen]
  exact wpAny_pure h
theorem pick_gen (xs:Array Value) (i k:Nat):((List.range k).filterMap fun (m:Nat)=>xs[((i:Int) + (m:Int) * 1).toNat]?).toArray = ((xs.toList.drop i).take k).toArray:=by
  have e:(fun (m:Nat)=>xs[((i:Int) + (m:Int) * 1).toNat]?) = fun m=>xs[i + m]?:=by
    funext m
    have:((i:Int) + (m:Int) * 1).toNat = i + m:=by omega
    rw [this]
  rw [e]
  have:=pick_run xs i k
  rw [List.filterMap_map] at this
  have e2:((fun x=>xs[x]?)∘fun x=>i + x) = fun m=>xs[i + m]?:=rfl
  rw [e2] at this
  rw [this]
theorem getItem_tuple_cut {t sl:Addr} {items:Array Value} {vl vu:Value} {lo hi:Option Int} {Q:Value→Shared→Prop} (ht:IsTup s.heap t items) (hs:s.heap.IsSliceOf sl vl vu .none) (pl:IsPart vl lo) (pu:IsPart vu hi)
    (hw:¬ (sIx items.size 0 lo = 0∧sIx items.size items.size hi = items.size))
    (h:Q (.ref s.heap.objs.size) { s with heap:=s.heap.push { cls:=.type "tuple",data:=.seq ((items.toList.drop (sIx items.size 0 lo)).take (sIx items.size items.size hi - sIx items.size 0 lo)).toArray } })
    (hsz:items.size≤sizeLine):wpAny (model prog w) A (getItem (.ref t) (.ref sl)) Q E s:=by
  have htake:sizeOk (.seq ((items.toList.drop (sIx items.size 0 lo)).take (sIx items.size items.size hi - sIx items.size 0 lo)).toArray):=by
    show ((items.toList.drop (sIx items.size 0 lo)).take (sIx items.size items.size hi - sIx items.size 0 lo)).toArray.size≤sizeLine
    rw [List.size_toArray,List.length_take,List.length_drop,Array.length_toList]
    omega
  have hj:sIx items.size items.size hi≤items.size:=sIx_le _ _ (Nat.le_refl _) hi
  obtain ⟨os,hos,hcs,hds⟩:=id hs
  have hTs:s.TypeIs (.ref sl) "slice":=⟨os,hos,hcs⟩
  unfold getItem
  try with_reducible refine wpAny_holding ?_
  first | refine wpAny_bind (wpAny_pure ?_) | skip
  refine wpAny_bind (wpAny_sequenceKey ht.typeIs (by decide) ?_)
  refine wpAny_bind (wpAny_callSpecial?_slot (name:=Str.ofString "__getitem__") ht.typeIs PyProof.Rows.slot_tuple_getitem
    (wpAny_call_entry PyProof.Rows.slot_tuple_getitem ht.typeIs entry_tuple_getitem ?_ (args_tuple_getitem _ _)))
  show wpAny _ _ (Builtin.Tuple.tupleItemsOf (.ref t) >>= _) _ _ s
  refine wpAny_bind (tupleItemsOf_ ht ?_)
  refine wpAny_bind (wpAny_typeOf hTs ?_)
  rw [if_pos (by decide)]
  refine wpAny_bind (sliceApplied_gen hs pl pu ?_)
  have hno:¬ ((((sIx items.size 0 lo:Nat):Int) == 0 && (1:Int) == 1 && (sIx items.size items.size hi - sIx items.size 0 lo) == items.size) = true):=by
    intro q
    rw [Bool.and_eq_true,Bool.and_eq_true] at q
    have q1:((sIx items.size 0 lo:Nat):Int) = 0:=eq_of_beq q.1.1
    have q2:sIx items.size items.size hi - sIx items.size 0 lo = items.size:=eq_of_beq q.2
    exact hw ⟨by omega,by omega⟩
  show wpAny _ _ (if (((sIx items.size 0 lo:Nat):Int) == 0 && (1:Int) == 1 && (sIx items.size items.size hi - sIx items.size 0 lo) == items.size) = true then _ else _) _ _ s
  rw [if_neg hno,pick_gen]
  first
    | exact wpAny_bind (m:=Builtin.Tuple.tupleExact _) (wpAny_newObj_type (wpAny_pure ⟨_,rfl,wpAny_pure h⟩) htake)
    | exact wpAny_bind (m:=Builtin.Tuple.tupleExact _) (wpAny_newObj_type (wpAny_bind (wpAny_pure (wpAny_pure ⟨_,rfl,wpAny_pure h⟩))) htake)
    | exact wpAny_bind (wpAny_bind (m:=Builtin.Tuple.tupleExact _) (wpAny_newObj_type (wpAny_pure (wpAny_pure ⟨_,rfl,wpAny_pure h⟩)) htake))
    | exact wpAny_bind (wpAny_bind (m:=Builtin.Tuple.tupleExact _) (wpAny_newObj_type (wpAny_pure ⟨_,rfl,wpAny_pure h⟩) htake))
end
end HT
namespace L2
open PySem PySem.Spec PyProof.Rows
abbrev TO:=St→Hp→(Option Int→Hp→Prop)→Prop
def PO (X:Cx) (e:Option Expr) (t:TO):Prop:=
  ∀ (pins:List (Addr×Obj)) (s:Shared) (σ:St) (H:Hp) (Q:Option Int→Hp→Prop),Inv X pins σ H s→t σ H Q→
    wpAny (model X.prog X.w) X.A (evalPart e X.env) (fun u s'=>∃ o H',Inv X pins σ H' s'∧IsPart u o∧Q o H') X.xe s
def tNoPart:TO:=fun _ H Q=>Q none H
def tPart (t:TE):TO:=fun σ H Q=>t σ H fun x H1=>∃ i,x = .int i∧Q (some i) H1
theorem intsAre_of {ns:List Int}:∀ {us:List Value},Vals (ns.map V.int) us→IntsAre us ns:=by
  induction ns with
  | nil=>intro us r; rw [List.map_nil] at r; cases r; exact .nil
  | cons n ns ih=>
    intro us r
    rw [List.map_cons] at r
    cases r with
    | cons r1 r2=>
      obtain ⟨t,e⟩:=r1
      subst e
      exact .cons n t (ih r2)
section
variable {X:Cx} {e:Expr} {te:TE} {lo hi:Option Expr} {tl th:TO} {pos p2:Pos}
theorem po_none:PO X none tNoPart:=by
  intro pins s σ H Q I h
  rw [evalPart_none]
  exact wpAny_pure ⟨none,H,I,.none,h⟩
theorem po_some (h:PE X e te):PO X (some e) (tPart te):=by
  intro pins s σ H Q I hw
  rw [evalPart_some]
  refine thn (h pins s σ H _ I hw) fun u s1 ⟨x,H1,I1,r1,q1⟩=>?_
  obtain ⟨i,rfl,q⟩:=q1
  obtain ⟨t,rfl⟩:=r1
  exact ⟨some i,H1,I1,.int i t,q⟩
def SlR (X:Cx) (r:V→Option Int→Option Int→Hp→VK→Prop):Prop:=
  ∀ (pins:List (Addr×Obj)) (s:Shared) (σ:St) (H:Hp) (x:V) (v vl vu:Value) (lo hi:Option Int) (sl:Addr) (Q:VK),Inv X pins σ H s→RelV x v→s.heap.IsSliceOf sl vl vu .none→IsPart vl lo→IsPart vu hi→r x lo hi H Q→
    ∃ T id,typeLookup (.type T) "__getitem__" = pure (some (.builtin id))∧s.TypeIs v T∧wpAny (model X.prog X.w) X.A (getItem v (.ref sl)) (EP X pins σ Q) X.xe s
def tSl (r:V→Option Int→Option Int→Hp→VK→Prop) (te:TE) (tl th:TO):TE:=fun σ H Q=>te σ H fun x H1=>tl σ H1 fun l H2=>th σ H2 fun u H3=>r x l u H3 Q
theorem pe_slice {r:V→Option Int→Option Int→Hp→VK→Prop} (hr:SlR X r) (he:PE X e te) (hl:PO X lo tl) (hu:PO X hi th):PE X (.Subscript e (.Slice lo hi none p2) pos) (tSl r te tl th):=by
  intro pins s σ H Q I h
  refine Subscript_ (thn (he pins s σ H _ I h) fun v s1 ⟨x,H1,I1,r1,q1⟩=>?_)
  refine wpAny_Slice (thn (hl pins s1 σ H1 _ I1 q1) fun vl s2 ⟨l,H2,I2,pl,q2⟩=>thn (hu pins s2 σ H2 _ I2 q2) fun vu s3 ⟨u,H3,I3,pu,q3⟩=>?_)
  rw [evalPart_none]
  refine wpAny_pure ?_
  have I4:Inv X pins σ H3 { s3 with heap:=s3.heap.push { cls:=.type "slice",data:=.fields #[vl,vu,.none] } }:=I3.kept (t':=s3.toks) fun b ob q=>Heap.get?_push_of_some _ q
  obtain ⟨T,id,hT,ht,hg⟩:=hr pins { s3 with heap:=s3.heap.push { cls:=.type "slice",data:=.fields #[vl,vu,.none] } } σ H3 x v vl vu l u s3.heap.objs.size Q I4 r1 (Heap.IsSliceOf.new ..) pl pu q3
  show wpAny (model X.prog X.w) X.A (subscriptTail e (.Slice lo hi none p2) v (.ref s3.heap.objs.size)) (EP X pins σ Q) X.xe { s3 with heap:=s3.heap.push { cls:=.type "slice",data:=.fields #[vl,vu,.none] } }
  exact tail_any (ops:=[.ref s3.heap.objs.size,v]) ht hT hg (by with_unfolding_all rfl)
def cutV (xs:List V) (lo hi:Option Int):List V:=(xs.drop (HT.sIx xs.length 0 lo)).take (HT.sIx xs.length xs.length hi - HT.sIx xs.length 0 lo)
theorem cutV_length (xs:List V) (lo hi:Option Int):(cutV xs lo hi).length≤xs.length:=by
  unfold cutV
  rw [List.length_take,List.length_drop]
  omega
def rSlT (K:PySem.W.Frag):V→Option Int→Option Int→Hp→VK→Prop:=fun x lo hi H Q=>∃ a xs,x = .ref a∧SqT K H a xs∧
  ¬ (HT.sIx xs.length 0 lo = 0∧HT.sIx xs.length xs.length hi = xs.length)∧∀ p,H p = none→Q (.ref p) (upd H p (.tup (cutV xs lo hi)))
theorem sl_tup:SlR X (rSlT X.K):=by
  intro pins s σ H x v vl vu lo hi sl Q I rx hs pl pu h
  obtain ⟨a,xs,rfl,hx,hw,q⟩:=h
  cases rx
  obtain ⟨its,r,ht,hz⟩:=I.tuple hx
  have hlen:its.toArray.size = xs.length:=by rw [List.size_toArray]; exact r.length.symm
  refine ⟨"tuple",_,PyProof.Rows.slot_tuple_getitem.lookup,ht.typeIs,?_⟩
  refine HT.getItem_tuple_cut ht hs pl pu (by rw [hlen]; exact hw) ?_ (by rw [hlen]; exact hz)
  rw [hlen]
  refine ⟨.ref s.heap.objs.size,_,I.laid (t':=s.toks) (o:=.tup (cutV xs lo hi)) (fun b ob q=>Heap.get?_push_of_some _ q) (Nat.le_refl _) ?_,rfl,q _ (I.hok.fresh (Nat.le_refl _))⟩
  exact ⟨Nat.le_trans (cutV_length xs lo hi) hz,_,(r.drop (HT.sIx xs.length 0 lo)).take (HT.sIx xs.length xs.length hi - HT.sIx xs.length 0 lo),IsTup.new _ _⟩
def rCatT (K:PySem.W.Frag):R2:=fun x y H Q=>∃ a b xs ys,x = .ref a∧y = .ref b∧SqT K H a xs∧SqT K H b ys∧xs≠[]∧xs.length + ys.length≤sizeLine∧
  (ys = []→Q (.ref a) H)∧(ys≠[]→∀ p,H p = none→Q (.ref p) (upd H p (.tup (xs ++ ys))))
theorem Vals.nil_iff {xs:List V} {us:List Value} (r:Vals xs us):us = []↔xs = []:=by
  cases r with
  | nil=>simp
  | cons _ _=>simp
theorem op_catT:OpR X (binaryOp .Add) (rCatT X.K):=by
  intro pins s σ H x y v u Q I rx ry h
  obtain ⟨a,b,xs,ys,rfl,rfl,ha,hb,hx,hz,q1,q2⟩:=h
  cases rx
  cases ry
  obtain ⟨its,r1,p1,_⟩:=I.tuple ha
  obtain ⟨its2,r2,p2,_⟩:=I.tuple hb
  refine HT.cat_tup p1 p2 (fun z=>hx (r1.nil_iff.mp z)) (fun z=>⟨.ref a,H,I,rfl,q1 (r2.nil_iff.mp z)⟩) (fun z=>?_) (by rw [← r1.length,← r2.length]; exact hz)
  refine ⟨.ref s.heap.objs.size,_,I.laid (t':=s.toks) (o:=.tup (xs ++ ys)) (fun b ob q=>Heap.get?_push_of_some _ q) (Nat.le_refl _) ?_,rfl,q2 (fun w=>z (r2.nil_iff.mpr w)) _ (I.hok.fresh (Nat.le_refl _))⟩
  exact ⟨by rw [List.length_append]; exact hz,_,r1.append r2,IsTup.new _ _⟩
end
end L2
namespace L2
open PySem PySem.Spec PyProof.Rows
def ixN (n:Nat) (i:Int):Option Nat:=if 0≤i then (if i < n then some i.toNat else none) else if -(n:Int)≤i then some (i + n).toNat else none
def atI {α:Type} (xs:List α) (i:Int):Option α:=(ixN xs.length i).bind fun j=>xs[j]?
theorem ixN_seq {n:Nat} {i:Int} {j:Nat} (h:ixN n i = some j):seqIndex? i n = some j∧j < n∧-(n:Int)≤i∧i < n:=by
  unfold ixN at h
  by_cases h0:0≤i
  · rw [if_pos h0] at h
    by_cases h1:i < n
    · rw [if_pos h1] at h
      have e:i.toNat = j:=Option.some.inj h
      exact ⟨by rw [seqIndex_of h0 h1,e],by omega,by omega,h1⟩
    · rw [if_neg h1] at h; cases h
  · rw [if_neg h0] at h
    by_cases h1:-(n:Int)≤i
    · rw [if_pos h1] at h
      have e:(i + n).toNat = j:=Option.some.inj h
      exact ⟨by rw [seqIndex_neg (by omega) h1,e],by omega,h1,by omega⟩
    · rw [if_neg h1] at h; cases h
theorem atI_get {α:Type} {xs:List α} {i:Int} {v:α} (h:atI xs i = some v):∃ j,seqIndex? i xs.length = some j∧xs[j]? = some v∧j < xs.length∧-(xs.length:Int)≤i∧i < xs.length:=by
  unfold atI at h
  cases e:ixN xs.length i with
  | none=>rw [e] at h; cases h
  | some j=>
    rw [e] at h
    obtain ⟨h1,h2,h3,h4⟩:=ixN_seq e
    exact ⟨j,h1,h,h2,h3,h4⟩
theorem atI_nat {α:Type} {xs:List α} {j:Nat} {v:α} (h:xs[j]? = some v):atI xs (j:Int) = some v:=by
  have hj:j < xs.length:=(List.getElem?_eq_some_iff.mp h).1
  have e:ixN xs.length (j:Int) = some j:=by
    unfold ixN
    rw [if_pos (by omega),if_pos (by omega)]; simp
  unfold atI; rw [e]; exact h
theorem atI_last {α:Type} (xs:List α) (v:α):atI (xs ++ [v]) (-1) = some v:=by
  have hl:(xs ++ [v]).length = xs.length + 1:=by simp
  have e:ixN (xs ++ [v]).length (-1) = some xs.length:=by
    unfold ixN
    rw [hl,if_neg (by decide),if_pos (by omega)]
    congr 1
    omega
  unfold atI
  rw [e]
  show (xs ++ [v])[xs.length]? = some v
  simp
def PlainIx (b:Expr):Prop:=∀ o i,subscripted b false o i = operate [o,i] (getItem o i)
def IxR (X:Cx) (r:R2):Prop:=
  ∀ (value slice:Expr) (pins:List (Addr×Obj)) (s:Shared) (σ:St) (H:Hp) (x y:V) (v u:Value) (Q:VK),Inv X pins σ H s→RelV x v→RelV y u→r x y H Q→
    subscripted slice false v u = operate [v,u] (getItem v u)→wpAny (model X.prog X.w) X.A (subscriptTail value slice v u) (EP X pins σ Q) X.xe s
def MtR (X:Cx) (id:String) (r:V→List V→Hp→VK→Prop):Prop:=
  ∀ (pins:List (Addr×Obj)) (s:Shared) (σ:St) (H:Hp) (x:V) (xs:List V) (v:Value) (us:List Value) (Q:VK),Inv X pins σ H s→RelV x v→Vals xs us→r x xs H Q→
    wpAny (model X.prog X.w) X.A (call (.builtin id) (v :: us)) (EP X pins σ Q) X.xe s
section
variable {X:Cx} {a b:Expr} {ta tb:TE} {pos:Pos}
theorem pe_ix {r:R2} (hr:IxR X r) (ha:PE X a ta) (hb:PE X b tb) (hs:PlainIx b):PE X (.Subscript a b pos) (tOp r ta tb):=by
  intro pins s σ H Q I h
  exact Subscript_ (binT ha hb I h fun v u s2 x y H2 I2 rx ry q=>hr a b pins s2 σ H2 x y v u Q I2 rx ry q (hs _ _))
def rIxL (K:PySem.W.Frag):R2:=fun x y H Q=>∃ p xs i v,x = .ref p∧y = .int i∧SqL K H p xs∧atI xs i = some v∧Q v H
def rIxT (K:PySem.W.Frag):R2:=fun x y H Q=>∃ p xs i v,x = .ref p∧y = .int i∧SqT K H p xs∧atI xs i = some v∧Q v H
def rIxS:R2:=fun x y H Q=>∃ z i c,x = .str z∧y = .int i∧z.length≤sizeLine∧atI z.cps.toList i = some c∧Q (.str ⟨#[c]⟩) H
theorem ix_list:IxR X (rIxL X.K):=by
  intro value slice pins s σ H x y v u Q I rx ry h hs
  obtain ⟨p,xs,i,z,rfl,rfl,hq,he,q⟩:=h
  cases rx
  obtain ⟨t,rfl⟩:=ry
  obtain ⟨its,r,pl,hz⟩:=I.list hq
  obtain ⟨j,h1,h2,h3,h4,h5⟩:=atI_get he
  obtain ⟨w,ew,rw'⟩:=r.get h2
  have hl:=r.length
  have hn:=line63
  have fin:EP X pins σ Q w s:=⟨z,H,I,rw',q⟩
  by_cases h0:0≤i
  · have hj:i.toNat = j:=by
      rw [seqIndex_of h0 h5] at h1
      exact Option.some.inj h1
    exact item_listR pl.isList h0 (by omega) (by rw [hj]; simpa using ew) fin hs
  · have hj:(i + (its.toArray.size:Int)).toNat = j:=by
      rw [seqIndex_neg (by omega) h4] at h1
      rw [List.size_toArray,← hl]
      exact Option.some.inj h1
    exact subscriptTail_builtinR (x:=w) pl.isList.typeIs slot_list_getitem.lookup
      (wpAny_getItem_list_neg (Q:=fun r s'=>r = w∧EP X pins σ Q r s') pl.isList (by omega) (by rw [List.size_toArray] <;> omega) (by omega) (by rw [hj]; simpa using ew) ⟨rfl,fin⟩) hs
theorem ix_tup:IxR X (rIxT X.K):=by
  intro value slice pins s σ H x y v u Q I rx ry h hs
  obtain ⟨p,xs,i,z,rfl,rfl,hq,he,q⟩:=h
  cases rx
  obtain ⟨t,rfl⟩:=ry
  obtain ⟨its,r,pl,hz⟩:=I.tuple hq
  obtain ⟨j,h1,h2,h3,h4,h5⟩:=atI_get he
  obtain ⟨w,ew,rw'⟩:=r.get h2
  have hl:=r.length
  have hn:=line63
  have fin:EP X pins σ Q w s:=⟨z,H,I,rw',q⟩
  exact subscriptTail_builtinR (x:=w) pl.typeIs slot_tuple_getitem.lookup
    (getItem_tuple (j:=j) (Q:=fun r s'=>r = w∧EP X pins σ Q r s') pl (by omega) (by omega) (by rw [List.size_toArray,← hl]; exact h1) (by simpa using ew) ⟨rfl,fin⟩) hs
theorem ix_str:IxR X rIxS:=by
  intro value slice pins s σ H x y v u Q I rx ry h hs
  obtain ⟨z,i,c,rfl,rfl,hz,he,q⟩:=h
  obtain ⟨t,rfl⟩:=rx
  obtain ⟨t',rfl⟩:=ry
  obtain ⟨j,h1,h2,h3,h4,h5⟩:=atI_get he
  have hl:z.cps.toList.length = z.length:=by simp [Str.length]
  rw [hl] at h1 h4 h5
  have hn:=line63
  exact tail_any (typeIs_str s z t) slot_str_getitem.lookup (getItem_str (c:=c) (by
    have e1:decide (i < -(2 ^ 63:Int)) = false:=decide_eq_false (by omega)
    have e2:decide (i ≥ 2 ^ 63) = false:=decide_eq_false (by omega)
    rw [e1,e2,Bool.or_false]) (by rw [h1]; simpa using h2) ⟨.str ⟨#[c]⟩,H,I.tok _,⟨_,rfl⟩,q⟩) hs
theorem Inv.lst {pins:List (Addr×Obj)} {σ:St} {H:Hp} {s:Shared} {p:Addr} {xs:List V} (I:Inv X pins σ H s) (h:H p = some (.lst xs)) :
    ∃ (its:List Value) (n:Nat),Vals xs its∧s.heap.get? p = some { cls:=.type "list",data:=.seq its.toArray n }∧xs.length≤sizeLine:=by
  obtain ⟨z,its,n,r,e⟩:=I.hok p _ h
  exact ⟨its,n,r,e,z⟩
theorem slice_bounds (lo hi:Option Int) (n:Nat):(sliceBounds lo hi none n).1 = ((HT.sIx n 0 lo:Nat):Int)∧(sliceBounds lo hi none n).2.1 = ((HT.sIx n n hi:Nat):Int)∧(sliceBounds lo hi none n).2.2 = 1:=by
  refine ⟨?_,?_,rfl⟩
  · cases lo with
    | none=>simp [sliceBounds,HT.sIx]
    | some i=>
      simp only [sliceBounds,HT.sIx,Option.getD_none,show (1:Int) > 0 by decide,if_true]
      by_cases h:i < 0
      · simp only [h,if_true] <;> omega
      · simp only [h,if_false] <;> omega
  · cases hi with
    | none=>simp [sliceBounds,HT.sIx]
    | some i=>
      simp only [sliceBounds,HT.sIx,Option.getD_none,show (1:Int) > 0 by decide,if_true]
      by_cases h:i < 0
      · simp only [h,if_true] <;> omega
      · simp only [h,if_false] <;> omega
theorem slicePick_cut (its:List Value) (lo hi:Option Int):slicePick its.toArray lo hi none = ((its.drop (HT.sIx its.length 0 lo)).take (HT.sIx its.length its.length hi - HT.sIx its.length 0 lo)).toArray:=by
  obtain ⟨h1,h2,h3⟩:=slice_bounds lo hi its.toArray.size
  unfold slicePick
  rw [h1,h2,h3]
  simp only [sliceRange_one,pick_run,List.size_toArray] <;> rfl
def rSlL (K:PySem.W.Frag):V→Option Int→Option Int→Hp→VK→Prop:=fun x lo hi H Q=>∃ a xs,x = .ref a∧SqL K H a xs∧∀ p,H p = none→Q (.ref p) (upd H p (.lst (cutV xs lo hi)))
theorem sl_list:SlR X (rSlL X.K):=by
  intro pins s σ H x v vl vu lo hi sl Q I rx hs pl pu h
  obtain ⟨a,xs,rfl,hx,q⟩:=h
  cases rx
  obtain ⟨its,r,ht,hz⟩:=I.list hx
  have hlen:=r.length
  refine ⟨"list",_,slot_list_getitem.lookup,ht.isList.typeIs,?_⟩
  refine wpAny_getItem_list_slice ht.isList hs pl pu .none (by simp) ?_ (by rw [List.size_toArray] <;> omega)
  rw [slicePick_cut,← hlen]
  refine ⟨.ref s.heap.objs.size,_,I.laid (t':=s.toks) (o:=.lst (cutV xs lo hi)) (fun b ob q=>Heap.get?_push_of_some _ q) (Nat.le_refl _) ?_,rfl,q _ (I.hok.fresh (Nat.le_refl _))⟩
  exact ⟨Nat.le_trans (cutV_length xs lo hi) hz,_,0,(r.drop (HT.sIx xs.length 0 lo)).take (HT.sIx xs.length xs.length hi - HT.sIx xs.length 0 lo),Heap.get?_push_size _ rfl⟩
def flatV:V→Bool
  | .non=>true
  | .bl _=>true
  | .int _=>true
  | .str _=>true
  | _=>false
def eqV:V→V→Bool
  | .non,.non=>true
  | .bl a,.bl b=>a == b
  | .bl a,.int b=>(if a then 1 else 0) == b
  | .int a,.bl b=>a == (if b then 1 else 0)
  | .int a,.int b=>a == b
  | .str a,.str b=>a == b
  | _,_=>false
theorem eqAt_V {A:Around} {s:Shared} {y x:V} {u v:Value} (ry:RelV y u) (rx:RelV x v) (fy:flatV y = true) (fx:flatV x = true):SeqAt.EqAt A s u v (eqV y x):=by
  cases y with
  | non=>
    cases ry
    cases x with
    | non=>cases rx; exact SeqAt.EqAt.same _
    | bl b=>cases rx; exact SeqAt.EqAt.none_bool b
    | int b=>obtain ⟨t,rfl⟩:=rx; exact SeqAt.EqAt.none_int b t
    | str b=>obtain ⟨t,rfl⟩:=rx; exact SeqAt.EqAt.none_str b t
    | _=>exact absurd (show false = true from fx) Bool.false_ne_true
  | bl a=>
    cases ry
    cases x with
    | non=>cases rx; exact SeqAt.EqAt.bool_none a
    | bl b=>cases rx; exact SeqAt.EqAt.bool_bool a b
    | int b=>obtain ⟨t,rfl⟩:=rx; exact SeqAt.EqAt.bool_int a b t
    | str b=>obtain ⟨t,rfl⟩:=rx; exact SeqAt.EqAt.bool_str a b t
    | _=>exact absurd (show false = true from fx) Bool.false_ne_true
  | int a=>
    obtain ⟨t',rfl⟩:=ry
    cases x with
    | non=>cases rx; exact SeqAt.EqAt.int_none a t'
    | bl b=>cases rx; exact SeqAt.EqAt.int_bool a t' b
    | int b=>obtain ⟨t,rfl⟩:=rx; exact SeqAt.EqAt.int_int a t' b t
    | str b=>obtain ⟨t,rfl⟩:=rx; exact SeqAt.EqAt.int_str a t' b t
    | _=>exact absurd (show false = true from fx) Bool.false_ne_true
  | str a=>
    obtain ⟨t',rfl⟩:=ry
    cases x with
    | non=>cases rx; exact SeqAt.EqAt.str_none a t'
    | bl b=>cases rx; exact SeqAt.EqAt.str_bool a t' b
    | int b=>obtain ⟨t,rfl⟩:=rx; exact SeqAt.EqAt.str_int a t' b t
    | str b=>obtain ⟨t,rfl⟩:=rx; exact SeqAt.EqAt.str_str a t' b t
    | _=>exact absurd (show false = true from fx) Bool.false_ne_true
  | _=>exact absurd (show false = true from fy) Bool.false_ne_true
def eqU (x:V) (u:Value):Bool:=match u with
  | .none=>eqV .non x
  | .bool b=>eqV (.bl b) x
  | .int i _=>eqV (.int i) x
  | .str z _=>eqV (.str z) x
  | _=>false
theorem eqU_of {x y:V} {u:Value} (r:RelV y u) (f:flatV y = true):eqU x u = eqV y x:=by
  cases y with
  | non=>cases r; rfl
  | bl b=>cases r; rfl
  | int i=>obtain ⟨t,rfl⟩:=r; rfl
  | str z=>obtain ⟨t,rfl⟩:=r; rfl
  | _=>exact absurd (show false = true from f) Bool.false_ne_true
theorem any_eqU {x:V}:∀ {xs:List V} {us:List Value},Vals xs us→xs.all flatV = true→us.any (eqU x) = xs.any fun y=>eqV y x
  | _,_,.nil,_=>rfl
  | y :: xs,u :: us,.cons r t,f=>by
    rw [List.all_cons,Bool.and_eq_true] at f
    rw [List.any_cons,List.any_cons,eqU_of r f.1,any_eqU t f.2]
theorem mem_eqAt {A:Around} {s:Shared} {x:V} {v:Value} (rx:RelV x v) (fx:flatV x = true):∀ {xs:List V} {us:List Value},Vals xs us→xs.all flatV = true→∀ u∈us,SeqAt.EqAt A s u v (eqU x u)
  | _,_,.nil,_=>fun u hu=>by cases hu
  | y :: xs,u :: us,.cons r t,f=>fun u' hu=>by
    rw [List.all_cons,Bool.and_eq_true] at f
    rcases List.mem_cons.mp hu with rfl | hu
    · rw [eqU_of r f.1]; exact eqAt_V r rx f.1 fx
    · exact mem_eqAt rx fx t f.2 u' hu
def inV (x:V) (xs:List V):Bool:=xs.any fun y=>eqV y x
def rIn (K:PySem.W.Frag) (neg:Bool):R2:=fun x y H Q=>∃ p xs,y = .ref p∧(SqL K H p xs∨SqT K H p xs)∧flatV x = true∧xs.all flatV = true∧Q (.bl (if neg then !inV x xs else inV x xs)) H
theorem op_in_seq:OpR X (compareOp .In) (rIn X.K false):=by
  intro pins s σ H x y v u Q I rx ry h
  obtain ⟨p,xs,rfl,hq,fx,fs,q⟩:=h
  cases ry
  rcases hq with hq | hq
  · obtain ⟨its,r,pl,hz⟩:=I.list hq
    refine SeqAt.in_listAt (eqU x) pl.isList (fun w hw=>mem_eqAt rx fx r fs w (by simpa using hw)) ⟨.bl _,H,I,rfl,?_⟩
    rw [show its.toArray.any (eqU x) = its.any (eqU x) by simp,any_eqU r fs]
    exact q
  · obtain ⟨its,r,pl,hz⟩:=I.tuple hq
    refine SeqAt.in_tupleAt (eqU x) pl (fun w hw=>mem_eqAt rx fx r fs w (by simpa using hw)) ⟨.bl _,H,I,rfl,?_⟩
    rw [show its.toArray.any (eqU x) = its.any (eqU x) by simp,any_eqU r fs]
    exact q
theorem call_len_seq:CallR X (.builtin "len") (fun xs H Q=>∃ p ys,xs = [.ref p]∧(SqL X.K H p ys∨SqT X.K H p ys)∧Q (.int ys.length) H):=by
  intro pins s σ H xs us Q I r h
  obtain ⟨p,ys,rfl,hq,q⟩:=h
  obtain ⟨u,rfl,rx⟩:=vals1 r
  cases rx
  have hn:=line63
  rcases hq with hq | hq
  · obtain ⟨its,r',pl,hz⟩:=I.list hq
    have hlen:=r'.length
    exact Calls.call_len_list pl.isList (by simp only [List.size_toArray] <;> omega) ⟨.int ys.length,H,I.tok _,⟨s.toks + 1,by rw [List.size_toArray,hlen]⟩,q⟩
  · obtain ⟨its,r',pl,hz⟩:=I.tuple hq
    have hlen:=r'.length
    exact len_tuple pl (by simp only [List.size_toArray] <;> omega) ⟨.int ys.length,H,I.tok _,⟨s.toks + 1,by rw [List.size_toArray,hlen]⟩,q⟩
theorem call_len_str:CallR X (.builtin "len") (fun xs H Q=>∃ z,xs = [.str z]∧z.length≤sizeLine∧Q (.int z.length) H):=by
  intro pins s σ H xs us Q I r h
  obtain ⟨z,rfl,hz,q⟩:=h
  obtain ⟨u,rfl,t,rfl⟩:=vals1 r
  have hn:=line63
  exact len_str (by omega) ⟨.int z.length,H,I.tok _,⟨_,rfl⟩,q⟩
theorem call_list_of:CallR X (.type "list") (fun xs H Q=>∃ p ys,xs = [.ref p]∧(SqL X.K H p ys∨SqT X.K H p ys)∧∀ l,H l = none→Q (.ref l) (upd H l (.lst ys))):=by
  intro pins s σ H xs us Q I r h
  obtain ⟨p,ys,rfl,hq,q⟩:=h
  obtain ⟨u,rfl,rx⟩:=vals1 r
  cases rx
  have fin:∀ (its:List Value),Vals ys its→ys.length≤sizeLine→∀ (h':Heap) (c':Nat),(∀ b o',s.heap.get? b = some o'→h'.get? b = some o')→
      h'.get? s.heap.objs.size = some { cls:=.type "list",dict:=none,data:=.seq its.toArray c',slots:=#[] }→EP X pins σ Q (.ref s.heap.objs.size) { s with heap:=h' }:=fun its r' hz h' c' kp e=>
    ⟨.ref s.heap.objs.size,_,I.laid (t':=s.toks) kp (Nat.le_refl _) (show ObjOk X.prog X.w _ h' _ (.lst ys) from ⟨hz,its,c',r',e⟩),rfl,q _ (I.hok.fresh (Nat.le_refl _))⟩
  rcases hq with hq | hq
  · obtain ⟨its,r',pl,hz⟩:=I.list hq
    have hlen:=r'.length
    obtain ⟨o,ho,hc,n,hd⟩:=pl.isList
    exact call_list_seq p (.inl rfl) ho hc hd (fun h' c' kp e=>fin its r' hz h' c' kp e) (by simp only [List.size_toArray] <;> omega)
  · obtain ⟨its,r',pl,hz⟩:=I.tuple hq
    have hlen:=r'.length
    obtain ⟨o,ho,hc,n,hd⟩:=pl
    exact call_list_seq p (.inr rfl) ho hc hd (fun h' c' kp e=>fin its r' hz h' c' kp e) (by simp only [List.size_toArray] <;> omega)
theorem call_tuple_of:CallR X (.type "tuple") (fun xs H Q=>∃ p ys,xs = [.ref p]∧((SqL X.K H p ys∧∀ l,H l = none→Q (.ref l) (upd H l (.tup ys)))∨(SqT X.K H p ys∧Q (.ref p) H))):=by
  intro pins s σ H xs us Q I r h
  obtain ⟨p,ys,rfl,h⟩:=h
  obtain ⟨u,rfl,rx⟩:=vals1 r
  cases rx
  rcases h with ⟨hq,q⟩ | ⟨hq,q⟩
  · obtain ⟨its,r',pl,hz⟩:=I.list hq
    have hlen:=r'.length
    refine call_tuple_list pl.isList (fun h' kp=>?_) (by simp only [List.size_toArray] <;> omega)
    have I1:Inv X pins σ H { s with heap:=h' }:=I.kept (t':=s.toks) kp
    have I2:Inv X pins σ (upd H h'.objs.size (.tup ys)) { s with heap:=h'.push { cls:=.type "tuple",data:=.seq its.toArray } }:=
      I1.laid (t':=s.toks) (fun b o e=>Heap.get?_push_of_some _ e) (Nat.le_refl _) (show ObjOk X.prog X.w _ _ _ (.tup ys) from ⟨hz,its,r',IsTup.new _ _⟩)
    exact ⟨.ref h'.objs.size,_,I2,rfl,q _ (I1.hok.fresh (Nat.le_refl _))⟩
  · obtain ⟨its,r',pl,hz⟩:=I.tuple hq
    exact call_tuple_same pl ⟨.ref p,H,I,rfl,q⟩
def tyV (K:PySem.W.Frag) (T:String) (x:V) (H:Hp):Prop:=match x with
  | .str _=>T = "str"
  | .int _=>T = "int"
  | .ref p=>(T = "list"∧∃ xs,SqL K H p xs)∨(T = "tuple"∧∃ o,K.lookup p = some o∧o.cls = .type "tuple"∧o.dict = none)∨
      (T = "dict"∧((∃ kvs,H p = some (.dK kvs))∨∃ kvs,H p = some (.dT kvs)))∨(T = "set"∧∃ S n,H p = some (.set S n))
  | _=>False
theorem tyV_is {pins:List (Addr×Obj)} {σ:St} {H:Hp} {s:Shared} {T:String} {x:V} {v:Value} (I:Inv X pins σ H s) (r:RelV x v) (ty:tyV X.K T x H) :
    s.TypeIs v T∧∀ a,v = .ref a→∃ ob,s.heap.get? a = some ob∧ob.dict = none:=by
  cases x with
  | str z=>
    obtain ⟨t,rfl⟩:=r
    cases (show T = "str" from ty)
    exact ⟨typeIs_str s z t,fun _ e=>nomatch e⟩
  | int i=>
    obtain ⟨t,rfl⟩:=r
    cases (show T = "int" from ty)
    exact ⟨typeIs_int s i t,fun _ e=>nomatch e⟩
  | ref p=>
    cases r
    rcases ty with ⟨rfl,xs,hq⟩ | ⟨rfl,o,hk,hc,hd⟩ | ⟨rfl,hk⟩ | ⟨rfl,S,n,hk⟩
    · obtain ⟨its,_,pl,_⟩:=I.list hq
      refine ⟨pl.isList.typeIs,fun a e=>?_⟩
      cases e
      obtain ⟨o,n,e,c,hd,_⟩:=pl
      exact ⟨o,e,hd⟩
    · refine ⟨⟨o,I.kIn p o hk,hc⟩,fun a e=>?_⟩
      cases e
      exact ⟨o,I.kIn _ o hk,hd⟩
    · have z:∃ o,s.heap.get? p = some o∧o.ExactDict:=by
        rcases hk with ⟨kvs,hk⟩ | ⟨kvs,hk⟩
        · obtain ⟨_,_,_,_,o,_,_,e,ex,_⟩:=I.hok p _ hk
          exact ⟨o,e,ex⟩
        · obtain ⟨_,_,_,_,o,_,_,e,ex,_⟩:=I.hok p _ hk
          exact ⟨o,e,ex⟩
      obtain ⟨o,e,ex⟩:=z
      refine ⟨⟨o,e,ex.1⟩,fun a e2=>?_⟩
      cases e2
      exact ⟨o,e,ex.2.1⟩
    · obtain ⟨o,_,_,_,e,ex,_⟩:=I.hok p _ hk
      refine ⟨⟨o,e,ex.1⟩,fun a e2=>?_⟩
      cases e2
      exact ⟨o,e,ex.2.1⟩
  | _=>exact False.elim ty
def tBM (K:PySem.W.Frag) (T:String) (r:V→List V→Hp→VK→Prop) (to:TE) (t:TA):TE:=fun σ H Q=>to σ H fun x H1=>tyV K T x H1∧t σ H1 fun xs H2=>r x xs H2 Q
variable {o e:Expr} {es:List Expr} {to:TE} {t:TA} {name:Str} {apos cpos:Pos} {T id:String} {r:V→List V→Hp→VK→Prop}
theorem pe_bm (pa:PlainAttrs T) (slot:Slot T name id) (hty:typeOf (.builtin id) = pure (.type "method_descriptor")) (hm:MtR X id r) (ho:PE X o to) (ha:PA X (e :: es) t)
    (hbase:attributeBase o name X.env (eval o X.env) = eval o X.env:=by rfl)
    (hfew:((backTo cpos (starEach (e :: es) X.env)).all (fun x=>!x.1) && (backToKw cpos (keywordEach [] X.env)).all (fun x=>x.1.isSome)
      && decide ((e :: es).length + ([]:List Keyword).length + (if ([]:List Keyword).isEmpty then 0 else 1) < 30)) = true:=by rfl)
    (hline:(apos.endLine == cpos.line) = true:=by rfl) (hs:starEach (e :: es) X.env = (false,eval e X.env) :: starEach es X.env:=by rfl) (hplain:(backTo cpos (starEach es X.env)).any (·.1) = false:=by rfl) :
    PE X (.Call (.Attribute o name apos) (e :: es) [] cpos) (tBM X.K T r to t):=by
  intro pins s σ H Q I h
  refine wpAny_Call_method_late hbase hfew hline rfl (thn (ho pins s σ H _ I h) fun v s1 ⟨x,H1,I1,r1,ty,q1⟩=>?_)
  obtain ⟨h1,h2⟩:=tyV_is I1 r1 ty
  refine ⟨T,id,pa,slot,hty,h1,h2,?_⟩
  have hA:=ha cpos pins s1 σ H1 _ I1 q1
  rw [hs] at hA ⊢
  refine Calls.callWith_builtin (by show (false || (backTo cpos (starEach es X.env)).any (·.1)) = false; rw [hplain] <;> rfl) (Calls.evalArgs_plain ?_)
  exact thn hA fun us s2 ⟨vs,H2,I2,r2,q2⟩=>hm pins s2 σ H2 x vs v us Q I2 r1 r2 q2
end
end L2
namespace L2
open PySem PySem.Spec PyProof.Rows
def MtM (X:Cx) (id:String) (r:V→List V→Hp→VK→Prop):Prop:=
  ∀ (pins:List (Addr×Obj)) (s:Shared) (σ:St) (H:Hp) (x:V) (xs:List V) (v:Value) (us:List Value) (Q:VK),Inv X pins σ H s→RelV x v→Vals xs us→r x xs H Q→
    wpAny (model X.prog X.w) X.A (call (.builtin id) (v :: us)) (EP X pins σ Q) X.xe s
theorem Vals.one:∀ {x:V} {us:List Value},Vals [x] us→∃ u,us = [u]∧RelV x u
  | _,_,.cons r .nil=>⟨_,rfl,r⟩
theorem Vals.two:∀ {x y:V} {us:List Value},Vals [x,y] us→∃ u v,us = [u,v]∧RelV x u∧RelV y v
  | _,_,_,.cons r (.cons q .nil)=>⟨_,_,rfl,r,q⟩
theorem Vals.zero:∀ {us:List Value},Vals [] us→us = []
  | _,.nil=>rfl
theorem Vals.dropLast {xs:List V} {us:List Value} (h:Vals xs us):Vals xs.dropLast us.dropLast:=by
  induction h with
  | nil=>exact .nil
  | cons r t ih=>
    cases t with
    | nil=>exact .nil
    | cons q t'=>exact .cons r ih
theorem Vals.eraseIdx:∀ {xs:List V} {us:List Value} (i:Nat),Vals xs us→Vals (xs.eraseIdx i) (us.eraseIdx i)
  | _,_,_,.nil=>.nil
  | _,_,0,.cons _ t=>t
  | _,_,i + 1,.cons r t=>.cons r (Vals.eraseIdx i t)
theorem Vals.reverse {xs:List V} {us:List Value} (h:Vals xs us):Vals xs.reverse us.reverse:=by
  induction h with
  | nil=>exact .nil
  | cons r t ih=>rw [List.reverse_cons,List.reverse_cons]; exact Vals.append ih (.cons r .nil)
section
variable {X:Cx} {pins:List (Addr×Obj)} {σ:St} {H:Hp} {s:Shared} {l b:Addr} {xs ys zs:List V}
theorem Inv.lset {its its':List Value} {n:Nat} {f:Array Value→Array Value} {t':Nat} (I:Inv X pins σ H s) (hH:H l = some (.lst xs))
    (e:s.heap.get? l = some { cls:=.type "list",data:=.seq its.toArray n }) (hf:f its.toArray = its'.toArray) (hv:Vals ys its') (hz:ys.length≤sizeLine) :
    Inv X pins σ (upd H l (.lst ys)) { s with heap:=s.heap.update l (Obj.mapSeq f),toks:=t' }:=by
  have q:=PySem.IsL.update e f
  rw [hf] at q
  refine I.write (x:=l) (e:=l) (by rw [hH]; exact trivial) (.inl rfl) (fun b' u hb hu=>(Heap.get?_update_other s.heap (Obj.mapSeq f) (Ne.symm hb)).trans hu) ⟨_,q⟩ ?_
  exact ⟨hz,its',_,hv,q⟩
theorem Inv.lnew {its:List Value} {t':Nat} (I:Inv X pins σ H s) (hv:Vals ys its) (hz:ys.length≤sizeLine) :
    Inv X pins σ (upd H s.heap.objs.size (.lst ys)) { s with heap:=s.heap.push { cls:=.type "list",data:=.seq its.toArray },toks:=t' }:=
  I.laid (fun _ _ q=>Heap.get?_push_of_some _ q) (Nat.le_refl _) ⟨hz,its,0,hv,Heap.get?_push_size _ rfl⟩
theorem Inv.fresh (I:Inv X pins σ H s):H s.heap.objs.size = none:=I.hok.fresh (Nat.le_refl _)
theorem Inv.lstM (I:Inv X pins σ H s) (hH:H l = some (.lst xs)):xs.length≤sizeLine∧∃ (its:List Value) (n:Nat),Vals xs its∧xs.length = its.length∧s.heap.get? l = some { cls:=.type "list",data:=.seq its.toArray n }:=by
  obtain ⟨z,its,n,r,e⟩:=I.hok l _ hH
  exact ⟨z,its,n,r,r.length,e⟩
theorem notLongL {n:Nat} (h:n≤sizeLine):Builtin.List.listTooLong n = false:=by
  unfold Builtin.List.listTooLong
  exact decide_eq_false (by omega)
end
section
variable {X:Cx}
def rAppend:V→List V→Hp→VK→Prop:=fun x vs H Q=>∃ l xs y,x = .ref l∧vs = [y]∧H l = some (.lst xs)∧xs.length < sizeLine∧Q .non (upd H l (.lst (xs ++ [y])))
theorem mt_append:MtM X "list.append" rAppend:=by
  intro pins s σ H x vs v us Q I rx rv h
  obtain ⟨l,xs,y,rfl,rfl,hH,hz,q⟩:=h
  cases rx
  obtain ⟨u,rfl,ru⟩:=rv.one
  obtain ⟨z,its,n,r,hl,e⟩:=I.lstM hH
  refine call_meets F.slot_list_append ⟨_,e,rfl⟩ F.entry_list_append (F.args_list_append_2 _ _) (PySem.list_append l its.toArray n u (by rw [List.size_toArray]; omega)) ⟨e,?_⟩
  refine ⟨.non,_,I.lset (its':=its ++ [u]) hH e (by simp) (r.append (.cons ru .nil)) ?_,rfl,q⟩
  rw [List.length_append,List.length_singleton]
  omega
def rExtend:V→List V→Hp→VK→Prop:=fun x vs H Q=>∃ l b xs zs,x = .ref l∧vs = [.ref b]∧H l = some (.lst xs)∧H b = some (.lst zs)∧xs.length + zs.length≤sizeLine∧Q .non (upd H l (.lst (xs ++ zs)))
theorem mt_extend:MtM X "list.extend" rExtend:=by
  intro pins s σ H x vs v us Q I rx rv h
  obtain ⟨l,b,xs,zs,rfl,rfl,hH,hB,hz,q⟩:=h
  cases rx
  obtain ⟨u,rfl,ru⟩:=rv.one
  cases ru
  obtain ⟨z,its,n,r,hl,e⟩:=I.lstM hH
  obtain ⟨z2,its2,n2,r2,hl2,e2⟩:=I.lstM hB
  have hsz:its.toArray.size + its2.toArray.size≤sizeLine:=by rw [List.size_toArray,List.size_toArray]; omega
  have hlong:¬ (!its.toArray.isEmpty && Builtin.List.listTooLong (its.toArray.size + its2.toArray.size)) = true:=by
    rw [notLongL hsz,Bool.and_false]
    exact Bool.false_ne_true
  refine call_meets F.slot_list_extend ⟨_,e,rfl⟩ F.entry_list_extend (F.args_list_extend_2 _ _)
    (AutoSeq1.list_extend_list_list_0 l its.toArray n b its2.toArray n2 hlong (by rw [List.size_toArray]; omega) (by omega)) ⟨e,e2,?_⟩
  refine ⟨.non,_,I.lset (its':=its ++ its2) hH e (by simp) (r.append r2) ?_,rfl,q⟩
  rw [List.length_append]
  omega
end
section
variable {prog:Program} {w:World} {A:Around} {E:Value→Shared→Prop} {s:Shared}
end
section
variable {X:Cx}
end
end L2
namespace Att
open PySem PySem.W PySem.Calls PyProof.Rows
theorem ints_of_wellAll {P:Params} {h:Heap}:∀ (ns:List Int) (vs:List Value),WellAll P h vs (ns.map WData.int)→IntsAre vs ns:=by
  intro ns
  induction ns with
  | nil=>
    intro vs w
    rw [List.map_nil] at w
    cases w
    exact .nil
  | cons n ns ih=>
    intro vs w
    rw [List.map_cons] at w
    cases w with
    | cons a b=>
      cases a
      exact .cons _ _ (ih _ b)
theorem script_of {l:OpenLaw} {n:Nat} (hn:l.most = some n) {P:Params} {h:Heap} {args:List WData} {vals:List Value}
    (hpre:l.row.toRowW.claim.pre args = true) (hwl:WellAll P h vals args) :
    ∃ a vs ns,vals = [Value.ref a]∧args = [WData.list (ns.map WData.int)]∧h.get? a = some { cls:=.type "list",data:=.seq vs.toArray }∧IntsAre vs ns∧ns.length≤n:=by
  have hsh:WShape.hasAll [] args [.list .int] = true:=(pre_splitW hpre).1
  have hc:l.pre.holds [] { args:=args } = true:=(pre_splitW hpre).2
  obtain ⟨d,r,rfl,h1,h2⟩:=hasAllW_cons hsh
  obtain rfl:=hasAllW_nil h2
  obtain ⟨xs,rfl,h3⟩:=hasW_list h1
  obtain ⟨ns,rfl⟩:=items_int h3
  have hlen:ns.length≤n:=by
    unfold OpenLaw.pre at hc
    have h4:(WTm.not (.lt (.lit (.int (n:Int))) (.len (.arg 0)))).holds [] { args:=[.list (ns.map .int)] } = true:=by
      have h4:=(holds_andW hc).1
      rw [hn] at h4
      exact h4
    have h5:=condW_of h4 (w_not (w_lt w_lit (w_len_list (w_arg rfl))))
    rw [List.length_map] at h5
    refine Nat.le_of_not_lt fun q=>?_
    have q':(n:Int) < ((ns.length:Nat):Int):=by omega
    first
      | (rw [decide_eq_true q'] at h5; exact absurd h5 (by decide))
      | (simp at h5; omega)
  cases hwl with
  | cons w1 w2=>
    cases w2
    cases w1 with
    | list ho hall=>exact ⟨_,_,ns,rfl,rfl,ho,ints_of_wellAll ns _ hall,hlen⟩
theorem post_true (l:OpenLaw) (args:List WData):l.row.toRowW.claim.post args (.bool true) args = true:=
  postW_of (r:=l.row.toRowW) (X:=(true == true))
    (show WShape.has [] (.bool true) .bool = true by first | rfl | decide | simp [WShape.has,WShape.arms,WShape.armsAll])
    (show (WTm.eq .res (.lit (.bool true))).value [] { args:=args,res:=some (.bool true),after:=args } = some (.bool (true == true)) from w_eq_bool (w_res rfl) w_lit) rfl
theorem attach_call {l:OpenLaw} {n:Nat} {q:Program} {loose:List Str} {XP:(Str→Option Value)→Heap→Prop} {YP:World→Heap→Prop} {d:DefRec}
    (hn:l.most = some n) (hdf:d.params.defaults = [])
    (call:∀ (w:World) (s₀ s₁:Shared) (mg mb:Str→Option Value) (fa:Addr) (o:Obj) (pm cd doc:Value) (a:Addr) (vs:List Value) (ns:List Int),
      Ground q loose [] XP w s₀ mg mb s₁.heap→YP w s₁.heap→
      s₁.heap.get? fa = some o→o.data = .func (docDef d.name d.params d.body d.scope pm cd doc)→s₁.heap.CodeRec cd d.name→mg d.name = some (.ref fa)→
      s₁.heap.get? a = some { cls:=.type "list",data:=.seq vs.toArray }→IntsAre vs ns→ns.length≤n→s₁.gens = #[]→
      codeAny (model l.prog w) callerA (.call (.ref fa) ⟨[.ref a],[]⟩) (fun r s'=>r = .ok (.ret (.bool true))∧OldK s₁.heap s'.heap∧s'.os = s₁.os∧AllBare s'.gens) s₁) :
    WalkO q loose XP YP l.row.toRowW d [] (fun f vs=>PySem.call f vs):=by
  intro w s₀ s₁ mg mb G Y fa o pm cd doc dV kV ho hd hcd hD hmg hg args vals as hpre hlay hrd hwl hlo
  obtain rfl:dV = .none:=Dflts.none hD hdf
  obtain rfl:kV = .none:=Dflts.noKw hD
  obtain ⟨a,vs,ns,rfl,rfl,hobj,hints,hlen⟩:=script_of hn hpre hwl
  refine enter_call (codeAny_mono (call w s₀ s₁ mg mb fa o pm cd doc a vs ns G Y ho (fd_plain hd) hcd hmg hobj hints hlen hg) fun r s' hq=>?_)
  obtain ⟨rfl,h2,h3,h4⟩:=hq
  exact ⟨.inl ⟨.bool true,.bool true,[],rfl,fun _=>rfl,.bool true,post_true l _,fun _=>⟨List.Pairwise.nil,fun _ hm=>(nomatch hm)⟩⟩,h2,h3,h4⟩
section
variable {prog:Program} {w:World} {A:Around} {E:Value→Shared→Prop} {s:Shared} {K:Frag}
def noObjs (h:Heap):Heap:={ h with objs:=#[] }
theorem noObjs_get (h:Heap) (b:Addr):(noObjs h).get? b = none:=by
  cases e:(noObjs h).get? b with
  | none=>rfl
  | some o=>exact absurd (Heap.lt_size e) (Nat.not_lt_zero _)
def ledger (h:Heap) (L d:Addr):List (Addr×Obj):=(List.range h.objs.size).filterMap fun a=>if a = L∨a = d then none else (h.get? a).map fun o=>(a,o)
theorem mem_ledger {h:Heap} {L d a:Addr} {o:Obj}:(a,o)∈ledger h L d↔a≠L∧a≠d∧h.get? a = some o:=by
  unfold ledger
  rw [List.mem_filterMap]
  constructor
  · rintro ⟨b,_,e⟩
    split at e
    · cases e
    · rename_i hb
      obtain ⟨o',ho,e'⟩:=Option.map_eq_some_iff.mp e
      cases e'
      exact ⟨fun q=>hb (.inl q),fun q=>hb (.inr q),ho⟩
  · rintro ⟨n1,n2,ho⟩
    refine ⟨a,List.mem_range.mpr (Heap.lt_size ho),?_⟩
    rw [if_neg (show ¬ (a = L∨a = d) from fun q=>q.elim n1 n2),ho] <;> rfl
theorem news_ledger {h:Heap} {L d:Addr} {od:Obj} (hne:d≠L) (ho:h.get? d = some od):News (noObjs h) L h ([] ++ (d,od) :: ledger h L d):=by
  rintro ⟨a,o⟩ hp
  rcases List.mem_cons.mp hp with e | hp
  · cases e
    exact ⟨ho,hne,noObjs_get _ _⟩
  · obtain ⟨n1,n2,e⟩:=mem_ledger.mp hp
    exact ⟨e,n1,noObjs_get _ _⟩
theorem fr_all {h:Heap} {L:Addr} {m:Str→Option Value} (n:h.Ns L m):Fr (noObjs h) L h m:=
  ⟨n,fun b o e=>(by rw [noObjs_get] at e; cases e),Nat.zero_le _⟩
theorem set_field {x C dx L:Addr} {ox:Obj} {m:Str→Option Value} {es es':List DictEntry} {n n':Nat} {name:Str} {v:Value} {Q:Unit→Shared→Prop}
    (X:K.In s.heap) (I:PySem.W.InstAt s.heap x ox C (some (dictOf es n))) (hd:ox.dict = some dx) (hL:s.heap.Ns L m) (hne:dx≠L)
    (hs:findIn K (.ref C) "__setattr__" = some (some (.builtin "object.__setattr__"))) (hp:plainOver K C = true) (ht:takerIn K C name = some none) (hh:hasDictIn K C = true) (hl:(getL name es).isSome = true)
    (e:(putL name (PyData.keyHash w.params name) (.str name (s.toks + 1)) v es,putN name es n) = (es',n')) (hz:es'.length≤1000)
    (h:∀ h':Heap,h'.Ns L m→h'.get? dx = some (dictOf es' n')→(∀ b o,b≠dx→b≠L→s.heap.get? b = some o→h'.get? b = some o)→Q () { s with heap:=h',toks:=s.toks + 2 }) :
    wpAny (model prog w) A (setAttr (.ref x) name v) Q E s:=by
  obtain ⟨e1,e2⟩:=Prod.mk.inj e
  have hdx:s.heap.get? dx = some (dictOf es n):=by
    have:=I.dict
    rw [hd] at this
    exact this
  refine set_plain X I hs (osa_dict (s:={ s with toks:=s.toks + 1 }) (h₀:=noObjs s.heap) (L:=L) (m:=m) (od:=dictOf es n) (od':=dictOf es' n') (es:=es') (n:=n') (pre:=[]) (post:=ledger s.heap L dx)
    (fr_all hL) (news_ledger hne hdx) X I hd hp ht hh hl (fun _ q=>nomatch q) (fun ⟨_,_⟩ q=>(mem_ledger.mp q).2.1) (by rw [putName_dict,e1,e2]) rfl hz fun h' F' N'=>?_)
  exact h h' F'.ns (N'.get (List.Mem.head _)) fun b o n1 n2 ho=>N'.get (List.Mem.tail _ (mem_ledger.mpr ⟨n2,n1,ho⟩))
end
end Att
namespace L2
open PySem PySem.Spec PyProof.Rows
theorem vals_ints:∀ {vs:List Value} {ns:List Int},IntsAre vs ns→Vals (ns.map V.int) vs
  | _,_,.nil=>.nil
  | _,_,.cons n t h=>.cons ⟨t,rfl⟩ (vals_ints h)
def Only (H:Hp):Prop:=∀ b,H b = none∨∃ o xs,H b = some (.frz o (.lst xs))
theorem law_call {P:Program} {w:World} {K:PySem.W.Frag} {mg mb:Str→Option Value} {CX:CXT} {k:Nat} {fa a:Addr} {fd:FuncData} {x:Str} {sp:Sp} {s₁:Shared} {vs:List Value} {ns:List Int}
    (KX:K.In s₁.heap) (hns:s₁.heap.Ns mainGlobals mg) (hb:s₁.heap.Ns builtinsNs mb) (hbb:∀ x:Str,x≠"__name__"→mb x = bootBuiltins x) (hlim:s₁.heap.NoLimit) (hg:s₁.gens = #[])
    (ha:s₁.heap.get? a = some { cls:=.type "list",data:=.seq vs.toArray }) (hi:IntsAre vs ns) (hl:ns.length≤sizeLine) (hr:Room k callerA)
    (F:∀ base:Heap,K.In base→base.Ns mainGlobals mg→FnOk P w K mg base CX k fa fd [x] sp) (hbind:∀ (s:Shared) (u:Value),BindsTo s fd ⟨[u],[]⟩ [(x,u)])
    (hsp:∀ H:Hp,Only H→SqL K H a (ns.map V.int)→sp [.ref a] H (fun v _=>v = .bl true) fun _ _ _=>False)
    (hCX:∀ H e s',CX [] H s₁ (fun _ _ _=>False) e s'→False) :
    codeAny (model P w) callerA (.call (.ref fa) ⟨[.ref a],[]⟩) (fun r s'=>r = .ok (.ret (.bool true))∧OldK s₁.heap s'.heap∧s'.os = s₁.os∧AllBare s'.gens) s₁:=by
  have rv:=vals_ints hi
  have lenV:=hi.length
  have core:∀ H:Hp,Only H→SqL K H a (ns.map V.int)→HOk P w H s₁.heap→(∀ b,H b≠none→b = a)→(H a≠none→K.lookup a = none)→
      codeAny (model P w) callerA (.call (.ref fa) ⟨[.ref a],[]⟩) (fun r s'=>r = .ok (.ret (.bool true))∧OldK s₁.heap s'.heap∧s'.os = s₁.os∧AllBare s'.gens) s₁:=by
    intro H hO hS hok hA hK
    have base_of:∀ {b:Addr} {o:Obj},s₁.heap.get? b = some o→H b = none→(hidT s₁.heap H).get? b = some o:=fun e n=>hidT_get e n
    have noA:∀ {b:Addr} {o:Obj} {es:Array DictEntry} {ep:Nat},s₁.heap.get? b = some o→o.data = .dict es ep→H b = none:=fun {b o es ep} e d=>by
      cases q:H b with
      | none=>rfl
      | some u=>
        have e':b = a:=hA b (by rw [q]; simp)
        subst e'
        rw [ha] at e; cases e
        have d':Data.seq vs.toArray _ = Data.dict es ep:=d
        cases d'
    have nsK:∀ {b:Addr} {m:Str→Option Value},s₁.heap.Ns b m→(hidT s₁.heap H).Ns b m:=fun {b m} ⟨o,es,ep,e,d,r⟩=>⟨o,es,ep,base_of e (noA e d),d,r⟩
    have hKb:K.In (hidT s₁.heap H):=fun b o e=>base_of (KX b o e) (by
      cases q:H b with
      | none=>rfl
      | some u=>
        have e':b = a:=hA b (by rw [q]; simp)
        subst e'
        rw [hK (by rw [q]; simp)] at e; cases e)
    have hM:Mod K mg (hidT s₁.heap H):=⟨hKb,nsK hns,⟨mb,nsK hb,hbb⟩,let ⟨mc,h1,h2⟩:=hlim; ⟨mc,nsK h1,h2⟩⟩
    have e0:Env0 P w K mg (hidT s₁.heap H) callerA [] s₁ H:=⟨rfl,hM,fun b o e=>of_hidT e,Nat.le_of_eq (hidT_size _ _),trivial,fun b hb=>absurd (show b∈([]:List Addr) from hb) (by simp),hok,.of_eq hg⟩
    refine codeAny_mono ((F _ hKb (nsK hns)).run callerA [] s₁ H ⟨[.ref a],[]⟩ [.ref a] [.ref a] _ _ hr e0 (hbind s₁ (.ref a)) (.cons rfl .nil) (hsp H hO hS)) fun r s' h=>?_
    cases r with
    | error e=>exact (hCX H e s' h).elim
    | ok fl=>
      cases fl with
      | next=>exact False.elim h
      | brk=>exact False.elim h
      | cont=>exact False.elim h
      | ret u=>
        obtain ⟨v,H',os,bare,un,hok',r',q⟩:=h
        have q':v = .bl true:=q
        subst q'
        obtain rfl:u = Value.bool true:=r'
        refine ⟨rfl,OldK.of_keep fun b o e=>?_,os,bare⟩
        cases q:H b with
        | none=>exact un.keep b o e q (by intro z; exact absurd (show b∈([]:List Addr) from z) (by simp)) (by simp)
        | some u=>
          rcases hO b with z | ⟨ob,xs,z⟩
          · rw [q] at z; cases z
          · have z2:=un.frzs b ob _ z
            obtain ⟨e1,_⟩:=hok b _ z
            obtain ⟨e2,_⟩:=hok' b _ z2
            rw [e] at e1; cases e1
            exact e2
  cases hk:K.lookup a with
  | some o=>
    have e:=KX a o hk
    rw [ha] at e
    cases e
    refine core (fun _=>none) (fun _=>.inl rfl) (.inr ⟨_,vs.toArray,_,hk,rfl,rfl,rfl,by rw [List.size_toArray,lenV]; exact hl,by simpa using rv⟩) (fun b u z=>by have z':(none:Option HO) = some u:=z; cases z') (fun b z=>absurd rfl z) fun z=>absurd rfl z
  | none=>
    refine core (fun b=>if b = a then some (.frz { cls:=.type "list",data:=.seq vs.toArray } (.lst (ns.map V.int))) else none) (fun b=>?_) (.inl (.inr ⟨{ cls:=.type "list",data:=.seq vs.toArray },if_pos rfl⟩)) (fun b u z=>?_) (fun b z=>?_) fun _=>hk
    · by_cases hb:b = a
      · exact .inr ⟨_,_,if_pos hb⟩
      · exact .inl (if_neg hb)
    · by_cases hb:b = a
      · have z':=(if_pos hb).symm.trans z
        cases z'
        subst hb
        exact ⟨ha,by rw [List.length_map]; exact hl,vs,_,rv,ha⟩
      · have z':=(if_neg hb).symm.trans z
        cases z'
    · by_cases hb:b = a
      · exact hb
      · exact absurd (if_neg hb) z
end L2
namespace L2
open PySem PySem.Spec PyProof.Rows
theorem walk_of {l:PySem.W.OpenLaw} {n k:Nat} {q:Program} {loose:List Str} {XP:(Str→Option Value)→Heap→Prop} {YP:World→Heap→Prop} {d:DefRec} {K:Params→PySem.W.Frag} {CX:World→CXT} {sp:World→Sp} {x:Str}
    (hn:l.most = some n) (hn2:n≤sizeLine) (hdf:d.params.defaults = []) (hr:Room k callerA)
    (hY:∀ (w:World) (h:Heap),YP w h→(K w.params).In h)
    (F:∀ (w:World) (mg:Str→Option Value) (fa:Addr) (h:Heap),(K w.params).In h→h.Ns mainGlobals mg→mg d.name = some (.ref fa)→
      ∃ fd:FuncData,(∀ (s:Shared) (u:Value),BindsTo s fd ⟨[u],[]⟩ [(x,u)])∧
        ∀ base:Heap,(K w.params).In base→base.Ns mainGlobals mg→FnOk l.prog w (K w.params) mg base (CX w) k fa fd [x] (sp w))
    (hsp:∀ (w:World) (H:Hp) (a:Addr) (ns:List Int),ns.length≤n→Only H→SqL (K w.params) H a (ns.map V.int)→sp w [.ref a] H (fun v _=>v = .bl true) fun _ _ _=>False)
    (hCX:∀ (w:World) (H:Hp) (s:Shared) (e:Value) (s':Shared),CX w [] H s (fun _ _ _=>False) e s'→False) :
    PySem.W.WalkO q loose XP YP l.row.toRowW d [] (fun f vs=>PySem.call f vs):=by
  refine Att.attach_call hn hdf fun w s₀ s₁ mg mb fa o pm cd doc a vs ns G Y ho hd hcd hmg hobj hints hlen hg=>?_
  have KX:=hY w _ Y
  obtain ⟨fd,hb,hF⟩:=F w mg fa _ KX G.T.g hmg
  exact law_call KX G.T.g G.T.b G.T.builtins G.T.nolimit hg hobj hints (Nat.le_trans hlen hn2) hr hF hb (fun H hO hS=>hsp w H a ns hlen hO hS) fun H e s'=>hCX w H s₁ e s'
end L2
namespace L2
open PySem PySem.Spec PyProof.Rows
def inClass (s:Stmt) (j:Nat):Stmt:=match s with
  | .ClassDef _ _ _ body _ _ _ _ _ _ _=>body.getD j (.Pass ⟨0,0,0,0⟩)
  | _=>.Pass ⟨0,0,0,0⟩
def defArgs (s:Stmt):Arguments:=match s with
  | .FunctionDef _ a _ _ _ _ _ _ _ _=>a
  | _=>{ posonlyargs:=[],args:=[],vararg:=none,kwonlyargs:=[],kw_defaults:=[],kwarg:=none,defaults:=[] }
def defBody (s:Stmt):List Stmt:=match s with
  | .FunctionDef _ _ b _ _ _ _ _ _ _=>b
  | _=>[]
def defScope (s:Stmt):Scope:=match s with
  | .FunctionDef _ _ _ _ _ _ sc _ _ _=>sc
  | _=>{ kind:=.function,names:=[],isGenerator:=false,isCoroutine:=false }
abbrev CX0:CXT:=fun _ _ _ _ _ _=>False
abbrev E0:XK:=fun _ _ _=>False
theorem pass0 {X:Cx}:Passes CX0 X E0:=fun _ _ _ _ _ _ _ h=>h.elim
structure Fun (K:PySem.W.Frag) (x qual:Str) (st:Stmt) (f:Addr) (fd:FuncData):Prop where
  ex:∃ (oc:Value) (od:Option Addr) (kV doc pm:Value) (an:Option Addr) (cdv ct:Value) (osl:Array (Option Value)),
    fd = PySem.W.fnOf x qual (defArgs st) (defBody st) (defScope st) .none kV doc pm an cdv ct∧K.lookup f = some ⟨oc,od,.func fd,osl⟩∧PySem.W.codeIn K cdv qual = true
  kp:PySem.W.keepIn K (.ref f) = true
section
variable {P:Program} {w:World} {K:PySem.W.Frag} {mg:Str→Option Value} {base:Heap}
theorem Fun.ok {x qual:Str} {st:Stmt} {f:Addr} {fd:FuncData} {N ps:List Str} {k:Nat} {sp:Sp} (F:Fun K x qual st f fd) (S:FnScope N ps (defScope st)) (len:∀ vs H Q E,sp vs H Q E→vs.length = ps.length)
    (hbody:∀ (cdv:Value) (A:Around) (outer:List Env) (s:Shared) (H:Hp) (vs:List V) (Q:VK) (E:XK),Room k (A.deeper (envOfC qual (defScope st) s.heap.objs.size f cdv))→sp vs H Q E→
      ∃ t,PSs (cxOf CX0 P w K mg base N qual (defScope st) f cdv A outer s H E).nox (defBody st) t∧t { nx:=fun _ H'=>Q .non H',rt:=Q } (start N vs) H):FnOk P w K mg base CX0 (k + 1) f fd ps sp:=by
  obtain ⟨oc,od,kV,doc,pm,an,cdv,ct,osl,rfl,lk,hcd⟩:=F.ex
  refine fn_of lk hcd S len fun A outer s H vs Q E hr hsp=>?_
  obtain ⟨t,h,q⟩:=hbody cdv A outer s H vs Q E hr hsp
  exact ⟨t,h.nox,q⟩
theorem Fun.binds {x qual:Str} {st:Stmt} {f:Addr} {fd:FuncData} {ps:List Str} (F:Fun K x qual st f fd)
    (h:∀ (kV doc pm:Value) (an:Option Addr) (cdv ct:Value) (us:List Value),us.length = ps.length→bindArgs (PySem.W.fnOf x qual (defArgs st) (defBody st) (defScope st) .none kV doc pm an cdv ct) ⟨us,[]⟩ = pure (ps.zip us)):Binds K fd ps []:=by
  obtain ⟨oc,od,kV,doc,pm,an,cdv,ct,osl,rfl,lk,hcd⟩:=F.ex
  exact .all (h kV doc pm an cdv ct)
theorem fun_mk {x qual:Str} {st:Stmt} {f:Addr} {oc:Value} {od an:Option Addr} {osl:Array (Option Value)} {kV doc pm cdv ct:Value} (l:K.lookup f = some ⟨oc,od,.func (PySem.W.fnOf x qual (defArgs st) (defBody st) (defScope st) .none kV doc pm an cdv ct),osl⟩)
    (c:PySem.W.codeIn K cdv qual = true) (k:PySem.W.keepIn K (.ref f) = true):Fun K x qual st f (PySem.W.fnOf x qual (defArgs st) (defBody st) (defScope st) .none kV doc pm an cdv ct):=⟨⟨oc,od,kV,doc,pm,an,cdv,ct,osl,rfl,l,c⟩,k⟩
end
theorem hu_of {A:Around} {k:Nat} (hr:Room k A):A.units + 1 < cLine:=Nat.lt_of_le_of_lt (Nat.add_le_add_left (by decide:1≤64) _) hr.units
theorem small1000 {n:Nat} (h:n≤1000):n < sizeLine:=Nat.lt_of_le_of_lt h (by decide)
section
variable {X:Cx}
theorem pv (i:Nat) {x:Str} {pos:Pos} (hN:X.N[i]? = some x:=by rfl) (hv:Vis X.env.scope x:=by first | exact Or.inl rfl | exact Or.inr (Or.inl rfl) | exact Or.inr (Or.inr rfl)) (hd:(x == ("__debug__":Str)) = false:=by decide)
    (hcd:(x == ("__classdict__":Str)) = false:=by decide):PE X (.Name x pos) (tVar i):=pe_var hN hv hd hcd
end
theorem iteF {A B:Prop} (h:B):if false = true then A else B:=by
  rw [if_neg Bool.false_ne_true]
  exact h
theorem iteT {A B:Prop} (h:A):if true = true then A else B:=by
  rw [if_pos rfl]
  exact h
theorem ite2 {c A B:Prop} [Decidable c] (h1:c→A) (h2:¬ c→B):if c then A else B:=by
  by_cases h:c
  · rw [if_pos h]
    exact h1 h
  · rw [if_neg h]
    exact h2 h
theorem iteNS {c A B:Prop} [Decidable c] (hc:c) (h:B):if (!decide c) = true then A else B:=by
  rw [decide_eq_true hc]
  exact iteF h
def Same (H H':Hp):Prop:=∀ b o,H b = some o→H' b = some o
theorem Same.refl (H:Hp):Same H H:=fun _ _ h=>h
theorem Same.trans {H H1 H2:Hp} (a:Same H H1) (b:Same H1 H2):Same H H2:=fun c o h=>b c o (a c o h)
theorem Same.free {H H':Hp} (e:Same H H') {l:Addr} (h:H' l = Option.none):H l = Option.none:=by
  cases q:H l with
  | none=>rfl
  | some o=>
    rw [e l o q] at h
    cases h
theorem Same.seq {K:PySem.W.Frag} {H H':Hp} {a:Addr} {xs:List V} (e:Same H H') (h:SqL K H a xs):SqL K H' a xs:=by
  rcases h with (h | ⟨o,h⟩) | h
  · exact .inl (.inl (e _ _ h))
  · exact .inl (.inr ⟨o,e _ _ h⟩)
  · exact .inr h
end L2
set_option maxHeartbeats 1000000
namespace L2
open PySem PySem.Spec PyProof.Rows
section
variable {prog:Program} {w:World} {A:Around} {env:Env} {elt target iter:Expr} {ifs:List Expr} {scope:Scope} {pos:Pos} {it acc:Value}
abbrev testsOf (env:Env) (ifs:List Expr):Sem Bool:=forIn ifs true fun c r=>(if r = true then (do let ok ← isTrue c env (eval c env); pure (ForInStep.yield ok)) else pure (ForInStep.yield r))
abbrev OneTurn (prog:Program) (w:World) (A:Around) (env:Env) (elt target:Expr) (ifs:List Expr) (it acc:Value) (Ee:Value→Shared→Prop) (over on:Shared→Prop):Shared→Prop:=
  wpAny (model prog w) A (pyNext it) (fun | none,s1=>over s1 | some v,s1=>wpAny (model prog w) A (letOwnedTupleGo target it v) (fun _ s2=>wpAny (model prog w) A (assign target env v) (fun _ s3=>wpAny (model prog w) A (testsOf env ifs) (fun ok s4=>
    if ok = true then wpAny (model prog w) A (eval elt env) (fun x s5=>wpAny (model prog w) A (call (.builtin "list.append") [acc,x]) (fun _=>on) (fun _ _=>False) s5) Ee s4 else on s4) Ee s3) Ee s2) (fun _ _=>False) s1) (fun _ _=>False)
theorem comp_turnsX {R:Result→Shared→Prop} {Ee:Value→Shared→Prop} (I:Nat→Shared→Prop) (hE:∀ x s,Ee x s→notedBy (model prog w) A env (fun x s=>R (.error x) s) x s)
    (turn:∀ n s,I n s→OneTurn prog w A env elt target ifs it acc Ee (R (.ok .next)) (fun s'=>∃ m,m < n∧I m s') s) (n:Nat) {s:Shared} (h:I n s) :
    codeAny (model prog w) A (.compLoop (.ListComp elt [⟨target,iter,ifs,0⟩] scope pos) 0 it acc env) R s:=by
  have none':∀ {Z:Value→Shared→Prop} (x:Value) (s:Shared),False→Z x s:=fun _ _ z=>z.elim
  refine codeAny_loop rfl I (fun k s1 h1=>?_) n h
  change wpAny _ A ((compTurn (.ListComp elt [⟨target,iter,ifs,0⟩] scope pos) 0 it acc env).onRaise (fun x=>do noteFrame x env; theTreesLotGoes x)) _ _ s1
  refine wpAny_noted ?_
  rw [compTurn_list]
  refine wpAny_bind (wpAny_standAt (wpAny_bind (wpAny_mono (turn k s1 h1) (fun r s2 h2=>?_) none')))
  match r,h2 with
  | none,h2=>exact wpAny_pure h2
  | some v,h2=>
    refine wpAny_bind (wpAny_mono h2 (fun _ s3 h3=>wpAny_bind (wpAny_mono h3 (fun _ s4 h4=>wpAny_bind (wpAny_mono h4 (fun ok s5 h5=>?_) hE)) hE)) none')
    match ok,h5 with
    | false,h5=>exact wpAny_pure ⟨rfl,h5⟩
    | true,h5=>exact wpAny_bind (wpAny_bind (wpAny_mono h5 (fun x s6 h6=>wpAny_bind (wpAny_mono h6 (fun _ s7 h7=>wpAny_pure (wpAny_pure ⟨rfl,h7⟩)) none')) hE))
theorem comp_turns {R:Result→Shared→Prop} (I:Nat→Shared→Prop) (turn:∀ n s,I n s→OneTurn prog w A env elt target ifs it acc (fun _ _=>False) (R (.ok .next)) (fun s'=>∃ m,m < n∧I m s') s) (n:Nat) {s:Shared} (h:I n s) :
    codeAny (model prog w) A (.compLoop (.ListComp elt [⟨target,iter,ifs,0⟩] scope pos) 0 it acc env) R s:=comp_turnsX I (fun _ _ z=>z.elim) turn n h
end
def PIfs (X:Cx) (ifs:List Expr) (t:TT):Prop:=
  ∀ (pins:List (Addr×Obj)) (s:Shared) (σ:St) (H:Hp) (Q:Bool→Hp→Prop),Inv X pins σ H s→t σ H Q→
    wpAny (model X.prog X.w) X.A (forIn ifs true fun c r=>if r = true then do let ok ← isTrue c X.env (eval c X.env); pure (ForInStep.yield ok) else pure (ForInStep.yield r)) (TP X pins σ Q) X.xe s
def tYes:TT:=fun _ H Q=>Q true H
theorem pifs_nil {X:Cx}:PIfs X [] tYes:=fun _ _ _ H _ I h=>wpAny_tests_nil ⟨H,I,h⟩
theorem pifs_one {X:Cx} {c:Expr} {t:TT} (h:PT X c t):PIfs X [c] t:=fun pins s σ H Q I q=>wpAny_tests_one (h pins s σ H Q I q)
def cxComp (X:Cx) (scope:Scope) (cl:List (Str×Addr)) (N:List Str) (C:Addr) (s:Shared) (H:Hp) (fp:List Addr):Cx:=
  { prog:=X.prog,w:=X.w,K:=X.K,mg:=X.mg,base:=X.base,A:=X.A,N:=N,s₀:=s,H₀:=H,env:=compEnvC scope cl C X.env,outer:=X.stack,stack:=X.stack,ex:=fp,fn:=fun _=>false,calm:=X.calm,pn:=[],xe:=fun _ _=>False }
def stC (fr:List (Option Nat)) (σ:St):St:=fr.map fun o=>o.bind fun i=>(σ[i]?).bind id
def tCompK (fr:List (Option Nat)) (g:TG) (tt:TT) (te:TE) (σ:St) (Q:VK) (J:It) (H1:Hp):Prop:=∀ l,H1 l = none→∃ W:Nat→Nat→St→Hp→Prop,(∃ m,W 0 m (stC fr σ) (upd H1 l (.lst [])))∧∀ i m σ H,W i m σ H→
  (J.stop i H∧Q (.ref l) H)∨(J.go i H∧∀ x H',J.yld i H x H'→g x σ H' fun σ2 H2=>tt σ2 H2 fun b H3=>if b = true then te σ2 H3 fun v H4=>∃ xs,H4 l = some (.lst xs)∧xs.length < sizeLine∧∃ m',m' < m∧W (i + 1) m' σ2 (upd H4 l (.lst (xs ++ [v])))
    else ∃ m',m' < m∧W (i + 1) m' σ2 H3)
def tComp (fr:List (Option Nat)) (wi:TI) (g:TG) (tt:TT) (te:TE):TE:=fun σ H Q=>wi σ H (tCompK fr g tt te σ Q)
def compChk (XN:List Str) (xs sc:Scope) (N:List Str) (fr:List (Option Nat)):Bool:=
  decide (sc.kind = .function) && decide (fr.length = N.length) && (sc.names.all fun y=>!decide (y.2 = .cell)) && (sc.names.all fun y=>!decide (y.2 = .local) || decide (sc.names.lookup y.1 = some .local)) &&
  (sc.names.all fun y=>!decide (y.2 = .free) || (decide (xs.names.lookup y.1 = some .cell) || decide (xs.names.lookup y.1 = some .free))) &&
  ((N.zip fr).all fun p=>match p.2 with | none=>true | some i=>decide (XN[i]? = some p.1) && decide (sc.names.lookup p.1 = some .free))
def ClOk (cells:List (Str×Addr)):List (Str×Addr)→Prop
  | []=>True
  | p :: r=>cells.lookup p.1 = some p.2∧ClOk cells r
theorem ClOk.get {cells:List (Str×Addr)}:∀ {cl:List (Str×Addr)},ClOk cells cl→∀ {x:Str} {c:Addr},cl.lookup x = some c→cells.lookup x = some c
  | [],_,_,_,h=>by cases h
  | (y,d) :: r,k,x,c,h=>by
    rw [List.lookup_cons] at h
    cases e:x == y with
    | true=>
      rw [e] at h
      cases h
      rw [eq_of_beq e]
      exact k.1
    | false=>
      rw [e] at h
      exact ClOk.get k.2 h
def ClAll (cl:List (Str×Addr)):List (Str×NameKind)→Prop
  | []=>True
  | p :: r=>(p.2 = .free→∃ c,cl.lookup p.1 = some c)∧ClAll cl r
theorem ClAll.get {cl:List (Str×Addr)}:∀ {ns:List (Str×NameKind)},ClAll cl ns→∀ y∈ns,y.2 = .free→∃ c,cl.lookup y.1 = some c
  | [],_,_,h=>by cases h
  | p :: r,k,y,h=>by
    rcases List.mem_cons.mp h with rfl | h
    · exact k.1
    · exact ClAll.get k.2 y h
theorem relabel_cell {env:Env}:∀ {names:List (Str×NameKind)} {x:Str} {k:NameKind},(names.map fun (n,k)=>if (k == NameKind.free && env.scope.kind == .function && env.kindOf n == some .cell) then (n,NameKind.cell) else (n,k)).lookup x = some k→
    names.lookup x = some k∨(k = .cell∧names.lookup x = some .free)
  | [],_,_,h=>by cases h
  | (n,k0) :: r,x,k,h=>by
    have ih:=@relabel_cell env r x k
    by_cases hc:(k0 == NameKind.free && env.scope.kind == .function && env.kindOf n == some .cell) = true
    · simp only [List.map_cons,if_pos hc,List.lookup_cons] at h
      rw [List.lookup_cons]
      cases e:x == n with
      | true=>
        rw [e] at h
        cases h
        simp only [Bool.and_eq_true] at hc
        have:k0 = .free:=by simpa using hc.1.1
        exact .inr ⟨rfl,by rw [this]⟩
      | false=>rw [e] at h; exact ih h
    · simp only [List.map_cons,if_neg hc,List.lookup_cons] at h
      rw [List.lookup_cons]
      cases e:x == n with
      | true=>rw [e] at h; exact .inl h
      | false=>rw [e] at h; exact ih h
theorem relabel_free {env:Env}:∀ {names:List (Str×NameKind)} {x:Str},names.lookup x = some .free→
    (names.map fun (n,k)=>if (k == NameKind.free && env.scope.kind == .function && env.kindOf n == some .cell) then (n,NameKind.cell) else (n,k)).lookup x = some .cell∨
    (names.map fun (n,k)=>if (k == NameKind.free && env.scope.kind == .function && env.kindOf n == some .cell) then (n,NameKind.cell) else (n,k)).lookup x = some .free
  | [],_,h=>by cases h
  | (n,k0) :: r,x,h=>by
    have ih:=@relabel_free env r x
    rw [List.lookup_cons] at h
    by_cases hc:(k0 == NameKind.free && env.scope.kind == .function && env.kindOf n == some .cell) = true
    · simp only [List.map_cons,if_pos hc,List.lookup_cons]
      cases e:x == n with
      | true=>exact .inl rfl
      | false=>rw [e] at h; exact ih h
    · simp only [List.map_cons,if_neg hc,List.lookup_cons]
      cases e:x == n with
      | true=>rw [e] at h; exact .inr h
      | false=>rw [e] at h; exact ih h
section
variable {X:Cx}
theorem comp_core (N:List Str) (fr:List (Option Nat)) {elt tg iter:Expr} {ifs:List Expr} {scope:Scope} {pos fpos:Pos} {wi:TI} {g:TG} {tt:TT} {te:TE} {cl:List (Str×Addr)}
    (hc:X.calm = true) (hi:PI X tg iter wi) (hchk:compChk X.N X.env.scope scope N fr = true) (hclos:closureFor scope X.env = pure cl) (hcl:ClOk X.env.cells cl) (hall:ClAll cl scope.names)
    (hb:∀ (C:Addr) (s:Shared) (H:Hp) (fp:List Addr),PG (cxComp X scope cl N C s H fp) tg g∧PIfs (cxComp X scope cl N C s H fp) ifs tt∧PE (cxComp X scope cl N C s H fp) elt te)
    (hs:∀ x,foldedSetIterable iter X.env x = pure x) {pins:List (Addr×Obj)} {s:Shared} {σ:St} {H:Hp} {Q:VK} {use:Option (Value→Sem Unit)} {Qc:Value→Shared→Prop} (I:Inv X pins σ H s) (h:tComp fr wi g tt te σ H Q)
    (hfin:∀ (l:Addr) (H':Hp) (s':Shared) (C:Addr),Inv X pins σ H' s'→FpOk X pins H' C→(∃ m,s'.heap.Ns C m)→Q (.ref l) H'→compPost (model X.prog X.w) X.A X.xe use Qc (.ref l) C (.ok .next) s') :
    wpAny (model X.prog X.w) X.A (comprehension (.ListComp elt [⟨tg,iter,ifs,0⟩] scope pos) scope X.env fpos (newList []) (firstAsync [⟨tg,iter,ifs,0⟩]) (firstIter [⟨tg,iter,ifs,0⟩] X.env) use) Qc X.xe s:=by
  simp only [compChk,Bool.and_eq_true,decide_eq_true_eq,List.all_eq_true,Bool.or_eq_true,Bool.not_eq_true',decide_eq_false_iff_not] at hchk
  obtain ⟨⟨⟨⟨⟨hkind,hlen⟩,hcell⟩,hnames⟩,hfree⟩,hfr⟩:=hchk
  have hnames':∀ x∈scope.names,x.2 = .local→scope.names.lookup x.1 = some .local:=fun y hy e=>(hnames y hy).resolve_left fun z=>z e
  have hcell':∀ x∈scope.names,x.2≠.cell:=fun y hy=>hcell y hy
  refine wpAny_comprehension_free (use:=use) rfl hs hclos hkind hnames' (thn (hi pins s σ H _ I h) fun v s1 h1=>thn h1 fun itv s2 h2=>?_)
  obtain ⟨it,fp,tn,J,H2,e,I2,T,st2,f2,hQ⟩:=h2
  subst e
  refine wpAny_newObj_type (hd:=by size_fits) (wpAny_newFunctionEnv hcell' (by intro y hy; simp at hy) (fun h₁ hns hsb=>?_) hkind)
  dsimp only at hns hsb ⊢
  obtain ⟨W,⟨m0,w0⟩,turn⟩:=hQ s2.heap.objs.size I2.fresh
  have I3:Inv X pins σ (upd H2 s2.heap.objs.size (.lst [])) { s2 with heap:=s2.heap.push { cls:=.type "list",data:=.seq ([]:List Value).toArray },toks:=s2.toks }:=I2.lnew (its:=[]) .nil (Nat.zero_le _)
  generalize hh3:s2.heap.push { cls:=.type "list",dict:=none,data:=.seq ([]:List Value).toArray } = h3 at hns hsb ⊢
  rw [show s2.heap.push { cls:=.type "list",data:=.seq ([]:List Value).toArray } = h3 from hh3] at I3
  generalize hH3:upd H2 s2.heap.objs.size (.lst []) = H3 at I3 w0
  generalize hl:s2.heap.objs.size = l at turn hH3 ⊢
  have hl3:l < h3.objs.size:=by rw [← hh3,← hl,Heap.size_push]; exact Nat.lt_succ_self _
  generalize hs3:({ s2 with heap:=h3,toks:=s2.toks }:Shared) = s3 at I3
  have es3:s3.heap = h3:=by rw [← hs3]
  have eos:s3.os = s2.os:=by rw [← hs3]
  have egens:s3.gens = s2.gens:=by rw [← hs3]
  generalize hC:h3.objs.size = C at hns hsb ⊢
  have old:∀ b o,h3.get? b = some o→h₁.get? b = some o:=fun b o e=>
    hsb.extBut b o (by rw [← hC]; exact Nat.ne_of_lt (Heap.lt_size e)) (Heap.get?_push_of_some _ e)
  have f3:∀ b∈fp,FpOk X pins H3 b:=fun b hb=>by
    obtain ⟨g0,g1⟩:=f2 b hb
    refine ⟨?_,g1⟩
    rw [← hH3]
    have:b≠l:=by
      obtain ⟨o,e,_⟩:=T.obj _ _ st2 b hb
      rw [← hl]; exact Nat.ne_of_lt (Heap.lt_size e)
    rw [upd_ne this]; exact g0
  have st3:tn 0 h₁:=T.keep _ _ _ st2 fun b hb o e=>old b o (by rw [← hh3]; exact Heap.get?_push_of_some _ e)
  have ok:(cxComp X scope cl N C s3 H3 fp).Ok:=by
    refine ⟨I3.ok.mod,?_,I3.ok.glob,I3.ok.blt,?_,fun x y c e1 e2=>I3.ok.inj x y c (hcl.get e1) (hcl.get e2),fun x hx=>?_,fun x c hx=>(by cases hx),I3.ok.hd,I3.ok.frames,.inl rfl,fun b hb=>?_,fun b o e=>?_,?_,fun b o e hb=>?_,fun b hb hb2=>?_,?_,fun b hb=>?_⟩
    · exact hkind
    · show s3.heap.objs.size≤C
      rw [es3,hC]; exact Nat.le_refl _
    · have hx':(relabel scope X.env).names.lookup x = some .cell∨(relabel scope X.env).names.lookup x = some .free:=hx
      have:scope.names.lookup x = some .free:=by
        rcases hx' with z | z
        · rcases relabel_cell z with q | ⟨_,q⟩
          · exact absurd rfl (hcell' _ (PySem.mem_of_lookup q))
          · exact q
        · rcases relabel_cell z with q | ⟨q,_⟩
          · exact q
          · cases q
      exact hall.get _ (PySem.mem_of_lookup this) rfl
    · obtain ⟨g0,g1,g2,g3,g4,g5⟩:=f3 b hb
      obtain ⟨o,e,_⟩:=T.obj _ _ st2 b hb
      refine ⟨?_,fun x c e=>g4 x c (hcl.get e)⟩
      show b≠C
      rw [← hC]
      exact Nat.ne_of_lt (Heap.lt_size (by rw [← hh3]; exact Heap.get?_push_of_some _ e))
    · have q:=I3.bs b o e
      exact q
    · show X.base.objs.size≤s3.heap.objs.size
      exact Nat.le_trans I3.ok.bsz I3.sz
    · obtain ⟨g0,g1,g2,g3,g4,g5⟩:=f3 b hb
      rcases g3 with z | z
      · exact I3.ok.noex b o e z
      · exact absurd (Nat.lt_of_lt_of_le (Heap.lt_size e) (Nat.le_trans I3.ok.bsz z)) (Nat.lt_irrefl _)
    · obtain ⟨g0,g1,g2,g3,g4,g5⟩:=f3 b hb
      rcases List.mem_cons.mp (I3.stkSub b hb2) with z | z
      · exact g1 z
      · exact g2 z
    · show s3.heap.FunFrames X.base X.stack
      exact I3.stack
    · exact I3.stkFree b hb
  have I4:Inv (cxComp X scope cl N C s3 H3 fp) [] (stC fr σ) H3 { s2 with heap:=h₁,toks:=s2.toks + ([]:List (Str×Value)).length }:=by
    have hk3:∀ b o,s3.heap.get? b = some o→h₁.get? b = some o:=fun b o e=>old b o (by rw [← es3]; exact e)
    refine ⟨ok,eos.symm ▸ rfl,egens ▸ I3.bare,Un.kept hk3,⟨_,hns,fun i x v e1 e2 e3=>?_⟩,fun x c e=>?_,?_,fun x c e=>I3.freeC x c (hcl.get e),fun p hp=>(by cases hp),I3.hok.kept hk3,?_⟩
    ·
      have e1':N[i]? = some x:=e1
      have e2':(fr[i]?).map (fun o=>o.bind fun i=>(σ[i]?).bind id) = some (some v):=by
        have:(stC fr σ)[i]? = some (some v):=e2
        rw [stC,List.getElem?_map] at this
        exact this
      cases q:fr[i]? with
      | none=>rw [q] at e2'; cases e2'
      | some o=>
        rw [q] at e2'
        cases o with
        | none=>cases e2'
        | some j=>
          have e2'':(σ[j]?).bind id = some v:=Option.some.inj e2'
          obtain ⟨p1,p2⟩:X.N[j]? = some x∧scope.names.lookup x = some .free:=by
            have hz:(x,some j)∈N.zip fr:=by
              have:(N.zip fr)[i]? = some (x,some j):=by
                rw [List.getElem?_zip_eq_some]; exact ⟨e1',q⟩
              exact List.mem_of_getElem? this
            have:=hfr _ hz
            simpa using this
          have hv:X.env.scope.names.lookup x = some .cell∨X.env.scope.names.lookup x = some .free:=by
            rcases hfree _ (PySem.mem_of_lookup p2) with z | z
            · exact absurd rfl z
            · simpa using z
          have e3':σ[j]? = some (some v):=by
            cases q3:σ[j]? with
            | none=>rw [q3] at e2''; cases e2''
            | some w'=>rw [q3] at e2''; have:w' = some v:=e2''; rw [this]
          obtain ⟨m,hn,hl'⟩:=I3.loc
          obtain ⟨u,ru,lk⟩:=hl' j x v p1 e3' (.inr hv)
          refine ⟨u,ru,.inr ⟨relabel_free p2,?_⟩⟩
          rcases lk with ⟨lk,_⟩ | ⟨_,c,ec,cc⟩
          · have lk':X.env.scope.names.lookup x = some .local:=lk
            rcases hv with z | z <;> (rw [z] at lk'; cases lk')
          · obtain ⟨c',ec'⟩:=hall.get _ (PySem.mem_of_lookup p2) rfl
            have:=hcl.get ec'
            rw [ec] at this; cases this
            obtain ⟨o,ho,hd⟩:=cc
            exact ⟨c,ec',o,hk3 _ _ ho,hd⟩
    · obtain ⟨v,o,ho,hd⟩:=I3.cell x c (hcl.get e)
      exact ⟨v,o,hk3 _ _ ho,hd⟩
    · show H3 C = none
      exact I3.hok.fresh (by rw [es3,hC]; exact Nat.le_refl _)
    · show (stC fr σ).length = N.length
      rw [stC,List.length_map]; exact hlen
  obtain ⟨hg,ht,he⟩:=hb C s3 H3 fp
  have fpc:∀ {H':Hp},(∀ b∈fp,H' b = none)→∀ b∈fp,FpOk (cxComp X scope cl N C s3 H3 fp) [] H' b:=fun hn b hb=>by
    obtain ⟨q1,q2⟩:=ok.exf b hb
    exact ⟨hn b hb,q1,ok.exfs b hb,.inl hb,q2,fun p hp=>by cases hp⟩
  have fin:∀ (σ':St) (H':Hp) (s':Shared),Inv (cxComp X scope cl N C s3 H3 fp) [] σ' H' s'→Q (.ref l) H'→compPost (model X.prog X.w) X.A X.xe use Qc (.ref l) C (.ok .next) s':=fun σ' H' s' I' q=>by
    obtain ⟨m,hn,_⟩:=I'.loc
    have nC:∀ b o,s3.heap.get? b = some o→b≠C:=fun b o e=>by
      rw [← hC,← es3]; exact Nat.ne_of_lt (Heap.lt_size e)
    have fC:H' C = none:=I'.free
    have u:=I'.base
    refine hfin l H' s' C ?_ (I3.fpOk (by rw [es3,hC]; exact Nat.le_refl _) fC) ⟨m,hn⟩ q
    refine I3.call' (s':=s') (ch:=fp) I'.os ⟨fun b o e n hb hx=>u.keep b o e n hb hx,fun b o e n hb hx=>u.slot b o e n hb hx,u.free,fun b o e hx=>u.there b o e hx,u.tups,u.frzs,u.tbls⟩ (fun b o e=>I'.hok b o e) I'.bare fun b hb=>?_
    obtain ⟨g0,g1,g2,g3,g4,g5⟩:=f3 b hb
    exact ⟨g3,g1,g4,g5⟩
  have loop:codeAny (model X.prog X.w) X.A (.compLoop (.ListComp elt [⟨tg,iter,ifs,0⟩] scope pos) 0 (.ref it) (.ref l) (compEnvC scope cl C X.env)) (compPost (model X.prog X.w) X.A X.xe use Qc (.ref l) C)
      { s2 with heap:=h₁,toks:=s2.toks + ([]:List (Str×Value)).length }:=by
    refine comp_turns (fun n s'=>∃ i σ' H',Inv (cxComp X scope cl N C s3 H3 fp) [] σ' H' s'∧tn i s'.heap∧(∀ b∈fp,H' b = none)∧W i n σ' H') ?_ m0 ⟨0,_,H3,I4,st3,fun b hb=>(f3 b hb).1,w0⟩
    rintro n s5 ⟨i,σ5,H5,I5,st5,fr5,w5⟩
    rcases turn i n σ5 H5 w5 with ⟨stop,qn⟩ | ⟨go,step⟩
    · refine thn (T.done (cxComp X scope cl N C s3 H3 fp) rfl rfl rfl hc i [] s5 σ5 H5 (fun _ _=>False) I5 (fpc fr5) st5 stop) fun r s6 ⟨hr,I6⟩=>?_
      subst hr
      exact fin σ5 H5 s6 I6 qn
    · refine thn (T.item (cxComp X scope cl N C s3 H3 fp) rfl rfl rfl hc i [] s5 σ5 H5 (fun _ _=>False) I5 (fpc fr5) st5 go) fun r s6 ⟨u,hr,h6⟩=>?_
      subst hr
      refine thn h6 fun _ s7 ⟨x,H7,I7,r7,y7,st7,fr7⟩=>?_
      have I7':=I7.pinned (fpc fr7) (T.obj _ _ st7)
      refine thn (hg _ s7 σ5 H7 x u _ I7' r7 (step x H7 y7)) fun _ s8 ⟨σ8,H8,I8,q8⟩=>?_
      have again:∀ {σ9:St} {H9:Hp} {s9:Shared},Inv (cxComp X scope cl N C s3 H3 fp) ([] ++ pinsAt fp s7.heap) σ9 H9 s9→(∃ m',m' < n∧W (i + 1) m' σ9 H9)→∃ m,m < n∧∃ i σ' H',Inv (cxComp X scope cl N C s3 H3 fp) [] σ' H' s9∧tn i s9.heap∧(∀ b∈fp,H' b = none)∧W i m σ' H':=fun {σ9 H9 s9} I9 n9=>by
        obtain ⟨m',hm,w9⟩:=n9
        refine ⟨m',hm,i + 1,σ9,H9,I9.unpinned,T.keep _ _ _ st7 fun b hb o e=>(I9.pin (b,o) (List.mem_append_right _ (List.mem_append_right _ (mem_pinsAt hb e)))).1,fun b hb=>?_,w9⟩
        obtain ⟨o,e,d⟩:=T.obj _ _ st7 b hb
        exact (I9.pin (b,o) (List.mem_append_right _ (List.mem_append_right _ (mem_pinsAt hb e)))).2.1
      refine thn (ht _ s8 σ8 H8 _ I8 q8) fun ok s9 ⟨H9,I9,q9⟩=>?_
      cases ok with
      | false=>
        rw [if_neg Bool.false_ne_true] at q9 ⊢
        exact again I9 q9
      | true=>
        rw [if_pos rfl] at q9 ⊢
        refine thn (he _ s9 σ8 H9 _ I9 q9) fun y sa ⟨vy,Ha,Ia,ry,qa⟩=>?_
        obtain ⟨xs,hla,hsz,n9⟩:=qa
        refine thn (mt_append _ sa σ8 Ha (.ref l) [vy] (.ref l) [y] (fun _ Hb=>∃ m',m' < n∧W (i + 1) m' σ8 Hb) Ia rfl (.cons ry .nil) ⟨l,xs,vy,rfl,rfl,hla,hsz,n9⟩) fun _ sb ⟨_,Hb,Ib,_,qb⟩=>?_
        exact again Ib qb
  show codeAny (model X.prog X.w) X.A (.compStart (.ListComp elt [⟨tg,iter,ifs,0⟩] scope pos) 0 (.ref it) (.ref l) (compEnvC scope cl C X.env)) (compPost (model X.prog X.w) X.A X.xe use Qc (.ref l) C) { s2 with heap:=h₁,toks:=s2.toks + ([]:List (Str×Value)).length }
  exact codeAny_compStart_list loop (T.self _ 0 _ _ _ st3 loop)
theorem pe_comp (N:List Str) (fr:List (Option Nat)) {elt tg iter:Expr} {ifs:List Expr} {scope:Scope} {pos:Pos} {wi:TI} {g:TG} {tt:TT} {te:TE} {cl:List (Str×Addr)}
    (hc:X.calm = true) (hi:PI X tg iter wi) (hchk:compChk X.N X.env.scope scope N fr = true) (hclos:closureFor scope X.env = pure cl) (hcl:ClOk X.env.cells cl) (hall:ClAll cl scope.names)
    (hb:∀ (C:Addr) (s:Shared) (H:Hp) (fp:List Addr),PG (cxComp X scope cl N C s H fp) tg g∧PIfs (cxComp X scope cl N C s H fp) ifs tt∧PE (cxComp X scope cl N C s H fp) elt te)
    (hs:∀ x,foldedSetIterable iter X.env x = pure x:=by intro _; rfl) :
    PE X (.ListComp elt [⟨tg,iter,ifs,0⟩] scope pos) (tComp fr wi g tt te):=by
  intro pins s σ H Q I h
  rw [eval_ListComp]
  refine comp_core N fr hc hi hchk hclos hcl hall hb hs I h fun l H' s' C I' fC ⟨m,hn⟩ q=>?_
  refine ⟨m,hn,fun h'' hs''=>⟨.ref l,H',?_,rfl,q⟩⟩
  obtain ⟨f0,f1,f2,f3,f4,f5⟩:=fC
  exact I'.turned (t':=s'.toks) (fun b o hb e=>(hs''.2 b hb).trans e) f0 f1 f3 f4 f5
theorem ps_setC (N:List Str) (fr:List (Option Nat)) {i:Nat} {x:Str} {elt tg iter:Expr} {ifs:List Expr} {scope:Scope} {cpos pos pos':Pos} {wi:TI} {g:TG} {tt:TT} {te:TE} {cl:List (Str×Addr)}
    (hN:X.N.Nodup) (hi':X.N[i]? = some x) (hx:Loc X.env.scope x)
    (hc:X.calm = true) (hi:PI X tg iter wi) (hchk:compChk X.N X.env.scope scope N fr = true) (hclos:closureFor scope X.env = pure cl) (hcl:ClOk X.env.cells cl) (hall:ClAll cl scope.names)
    (hb:∀ (C:Addr) (s:Shared) (H:Hp) (fp:List Addr),PG (cxComp X scope cl N C s H fp) tg g∧PIfs (cxComp X scope cl N C s H fp) ifs tt∧PE (cxComp X scope cl N C s H fp) elt te)
    (hs:∀ x,foldedSetIterable iter X.env x = pure x:=by intro _; rfl)
    (hsw:swapsWith (.ListComp elt [⟨tg,iter,ifs,0⟩] scope cpos) (some (.Name x pos')) pos.line X.env = pure true:=by rfl)
    (hf:X.fn x = true∨X.env.scope.names.lookup x = some .local:=by first | exact .inl rfl | exact .inr rfl | assumption) :
    PS X (.Assign [.Name x pos'] (.ListComp elt [⟨tg,iter,ifs,0⟩] scope cpos) pos) (tAsg (tComp fr wi g tt te) (gName i)):=by
  intro pins s σ H D I h
  rw [exec_Assign_arm]
  refine wpAny_bind (wpAny_standAt ?_)
  rw [show swapsWithSole [.Name x pos'] (.ListComp elt [⟨tg,iter,ifs,0⟩] scope cpos) pos.line X.env = pure true from hsw]
  refine wpAny_bind (wpAny_pure ?_)
  rw [if_pos rfl,arm_evalThenUse_ListComp]
  refine wpAny_bind (wpAny_bind ?_)
  have h1:tComp fr wi g tt te σ H fun v H1=>D.nx (σ.set i (some v)) H1:=h
  refine comp_core (use:=some _) N fr hc hi hchk hclos hcl hall hb hs I h1 fun l H' s' C I' fC ⟨m,hn⟩ q=>?_
  obtain ⟨f0,f1,f2,f3,f4,f5⟩:=fC
  obtain ⟨o,es,ep,ho,hd,hk,hm⟩:=hn
  have Ip:Inv X (pins ++ [(C,o)]) σ H' s':=I'.pins_of fun p hp=>(List.mem_append.mp hp).elim (fun z=>I'.pin p (List.mem_append_right _ z)) fun z=>by
    rw [List.mem_singleton.mp z]
    exact ⟨ho,f0,f1,f2,fun v e=>by rw [hd] at e; cases e⟩
  show wpAny _ _ (assignAll (.ref l) [assign (.Name x pos') X.env]) _ _ _
  rw [assignAll.eq_2]
  refine wpAny_assign_Name (store_ok Ip hN hi' hx (v:=.ref l) rfl (fun s2 I2=>?_) hf)
  have ho2:=(I2.pin (C,o) (List.mem_append_right _ (List.mem_append_right _ (List.mem_singleton_self _)))).1
  refine ⟨m,⟨o,es,ep,ho2,hd,hk,hm⟩,fun h' hs'=>wpAny_pure (wpAny_pure ⟨_,H',?_,q⟩)⟩
  exact I2.unpinned.turned (t':=s2.toks) (fun b o hb e=>(hs'.2 b hb).trans e) f0 f1 f3 f4 f5
def compChk0 (sc:Scope):Bool:=
  decide (sc.kind = .function) && (sc.names.all fun y=>!decide (y.2 = .cell)) && (sc.names.all fun y=>!decide (y.2 = .local) || decide (sc.names.lookup y.1 = some .local)) && (sc.names.all fun y=>!decide (y.2 = .free))
theorem pe_comp0 (N:List Str) {elt tg iter:Expr} {ifs:List Expr} {scope:Scope} {pos:Pos} {wi:TI} {g:TG} {tt:TT} {te:TE}
    (hc:X.calm = true) (hi:PI X tg iter wi) (hchk:compChk0 scope = true)
    (hb:∀ (C:Addr) (s:Shared) (H:Hp) (fp:List Addr),PG (cxComp X scope [] N C s H fp) tg g∧PIfs (cxComp X scope [] N C s H fp) ifs tt∧PE (cxComp X scope [] N C s H fp) elt te)
    (hs:∀ x,foldedSetIterable iter X.env x = pure x:=by intro _; rfl) :
    PE X (.ListComp elt [⟨tg,iter,ifs,0⟩] scope pos) (tComp (N.map fun _=>none) wi g tt te):=by
  simp only [compChk0,Bool.and_eq_true,decide_eq_true_eq,List.all_eq_true,Bool.or_eq_true,Bool.not_eq_true',decide_eq_false_iff_not] at hchk
  obtain ⟨⟨⟨hkind,hcell⟩,hnames⟩,hfree⟩:=hchk
  refine pe_comp (cl:=[]) N (N.map fun _=>none) hc hi ?_ (closureFor_none fun x hx=>hfree x hx) trivial ?_ hb hs
  · simp only [compChk,Bool.and_eq_true,decide_eq_true_eq,List.all_eq_true,Bool.or_eq_true,Bool.not_eq_true',decide_eq_false_iff_not]
    refine ⟨⟨⟨⟨⟨hkind,by simp⟩,hcell⟩,hnames⟩,fun y hy=>.inl (hfree y hy)⟩,fun p hp=>?_⟩
    have:p.2∈N.map fun _=>(none:Option Nat):=(List.of_mem_zip hp).2
    obtain ⟨_,_,e⟩:=List.mem_map.mp this
    rw [← e]
  · have:∀ ns:List (Str×NameKind),(∀ y∈ns,y.2≠.free)→ClAll [] ns:=by
      intro ns
      induction ns with
      | nil=>intro _; exact trivial
      | cons p r ih=>intro h; exact ⟨fun e=>absurd e (h p List.mem_cons_self),ih fun y hy=>h y (List.mem_cons_of_mem _ hy)⟩
    exact this _ fun y hy=>hfree y hy
theorem ps_setC0 (N:List Str) {i:Nat} {x:Str} {elt tg iter:Expr} {ifs:List Expr} {scope:Scope} {cpos pos pos':Pos} {wi:TI} {g:TG} {tt:TT} {te:TE}
    (hN:X.N.Nodup) (hi':X.N[i]? = some x) (hx:Loc X.env.scope x)
    (hc:X.calm = true) (hi:PI X tg iter wi) (hchk:compChk0 scope = true)
    (hb:∀ (C:Addr) (s:Shared) (H:Hp) (fp:List Addr),PG (cxComp X scope [] N C s H fp) tg g∧PIfs (cxComp X scope [] N C s H fp) ifs tt∧PE (cxComp X scope [] N C s H fp) elt te)
    (hs:∀ x,foldedSetIterable iter X.env x = pure x:=by intro _; rfl)
    (hsw:swapsWith (.ListComp elt [⟨tg,iter,ifs,0⟩] scope cpos) (some (.Name x pos')) pos.line X.env = pure true:=by rfl)
    (hf:X.fn x = true∨X.env.scope.names.lookup x = some .local:=by first | exact .inl rfl | exact .inr rfl | assumption) :
    PS X (.Assign [.Name x pos'] (.ListComp elt [⟨tg,iter,ifs,0⟩] scope cpos) pos) (tAsg (tComp (N.map fun _=>none) wi g tt te) (gName i)):=by
  simp only [compChk0,Bool.and_eq_true,decide_eq_true_eq,List.all_eq_true,Bool.or_eq_true,Bool.not_eq_true',decide_eq_false_iff_not] at hchk
  obtain ⟨⟨⟨hkind,hcell⟩,hnames⟩,hfree⟩:=hchk
  refine ps_setC (cl:=[]) N (N.map fun _=>none) hN hi' hx hc hi ?_ (closureFor_none fun x hx=>hfree x hx) trivial ?_ hb hs hsw hf
  · simp only [compChk,Bool.and_eq_true,decide_eq_true_eq,List.all_eq_true,Bool.or_eq_true,Bool.not_eq_true',decide_eq_false_iff_not]
    refine ⟨⟨⟨⟨⟨hkind,by simp⟩,hcell⟩,hnames⟩,fun y hy=>.inl (hfree y hy)⟩,fun p hp=>?_⟩
    have:p.2∈N.map fun _=>(none:Option Nat):=(List.of_mem_zip hp).2
    obtain ⟨_,_,e⟩:=List.mem_map.mp this
    rw [← e]
  · have:∀ ns:List (Str×NameKind),(∀ y∈ns,y.2≠.free)→ClAll [] ns:=by
      intro ns
      induction ns with
      | nil=>intro _; exact trivial
      | cons p r ih=>intro h; exact ⟨fun e=>absurd e (h p List.mem_cons_self),ih fun y hy=>h y (List.mem_cons_of_mem _ hy)⟩
    exact this _ fun y hy=>hfree y hy
end
end L2
namespace L2
open PySem PySem.Spec PyProof.Rows
def Def (P:Program) (w:World) (K:PySem.W.Frag) (mg:Str→Option Value) (base:Heap) (k:Nat) (x:Str) (ps:List Str) (sp:Sp):Prop:=
  ∃ (f:Addr) (fd:FuncData),FnOk P w K mg base CX0 k f fd ps sp∧mg x = some (.ref f)∧PySem.W.keepIn K (.ref f) = true∧Binds K fd ps []
section
variable {X:Cx} {k:Nat} {x:Str} {ps:List Str} {sp:Sp} {e:Expr} {es:List Expr} {t:TA} {p pos:Pos}
theorem pe_fn (D:Def X.prog X.w X.K X.mg X.base k x ps sp) (hr:Room k X.A) (hg:Gl X x) (ha:PA X (e :: es) t)
    (hdb:(x == ("__debug__":Str)) = false:=by decide) (he:starEach (e :: es) X.env = (false,eval e X.env) :: starEach es X.env:=by rfl) (hpl:(backTo pos (starEach es X.env)).any (·.1) = false:=by rfl) :
    PE X (.Call (.Name x p) (e :: es) [] pos) (tCall sp [] E0 t):=by
  obtain ⟨f,fd,F,hm,hk,hb⟩:=D
  exact pe_call F hr hg hm hk hb .nil pass0 ha hdb he hpl
theorem pe_fn0 (D:Def X.prog X.w X.K X.mg X.base k x ps sp) (hr:Room k X.A) (hg:Gl X x)
    (hdb:(x == ("__debug__":Str)) = false:=by decide) :
    PE X (.Call (.Name x p) [] [] pos) (tCall sp [] E0 tNil):=by
  obtain ⟨f,fd,F,hm,hk,hb⟩:=D
  exact pe_call0 F hr hg hm hk hb .nil pass0 hdb
end
section
variable {X:Cx}
theorem pe_globI {x:Str} {i:Int} {pos:Pos} (hg:Gl X x) (hm:∃ t,X.mg x = some (.int i t)) (hd:(x == ("__debug__":Str)) = false:=by decide):PE X (.Name x pos) (tC (.int i)):=by
  obtain ⟨t,hm⟩:=hm
  exact pe_glob hg hm ⟨_,rfl⟩ hd
theorem pe_ty {x:Str} {T:String} {pos:Pos} (hg:Gl X x) (hm:X.mg x = none) (hv:bootBuiltins x = some (.type T)) (hn:x≠"__name__":=by decide) (hd:(x == ("__debug__":Str)) = false:=by decide):PE X (.Name x pos) (tC (.ty T)):=pe_bltn hg hm hv rfl hn hd
theorem pe_globS {x z:Str} {pos:Pos} (hg:Gl X x) (hm:∃ t,X.mg x = some (.str z t)) (hd:(x == ("__debug__":Str)) = false:=by decide):PE X (.Name x pos) (tC (.str z)):=by
  obtain ⟨t,hm⟩:=hm
  exact pe_glob hg hm ⟨_,rfl⟩ hd
end
theorem bt_isinstance:bootBuiltins "isinstance" = some (.builtin "isinstance"):=by decide +kernel
theorem bt_all:bootBuiltins "all" = some (.builtin "all"):=by decide +kernel
theorem bt_sum:bootBuiltins "sum" = some (.builtin "sum"):=by decide +kernel
theorem bt_sorted:bootBuiltins "sorted" = some (.builtin "sorted"):=by decide +kernel
theorem bt_len:bootBuiltins "len" = some (.builtin "len"):=by decide +kernel
theorem bt_max:bootBuiltins "max" = some (.builtin "max"):=by decide +kernel
theorem bt_min:bootBuiltins "min" = some (.builtin "min"):=by decide +kernel
theorem bt_int:bootBuiltins "int" = some (.type "int"):=by decide +kernel
theorem bt_bool:bootBuiltins "bool" = some (.type "bool"):=by decide +kernel
theorem bt_str:bootBuiltins "str" = some (.type "str"):=by decide +kernel
theorem bt_list:bootBuiltins "list" = some (.type "list"):=by decide +kernel
theorem bt_tuple:bootBuiltins "tuple" = some (.type "tuple"):=by decide +kernel
theorem bt_set:bootBuiltins "set" = some (.type "set"):=by decide +kernel
theorem bt_enumerate:bootBuiltins "enumerate" = some (.type "enumerate"):=by decide +kernel
theorem kit_of {t c:String} {b:Bool} (h:(if (Value.type t == Value.type c) = true then some true else if PySem.W.kitMeta c = true then (fastBuiltinMro t).map (·.contains (.type c)) else none) = some b) (K:PySem.W.Frag) :
    PySem.W.kitOne K (.type t) (.type c) = some b:=h
theorem kit_list_list (K:PySem.W.Frag):PySem.W.kitOne K (.type "list") (.type "list") = some true:=kit_of (by decide +kernel) K
section
variable {X:Cx}
def rIsi (K:PySem.W.Frag):List V→Hp→VK→Prop:=fun xs H Q=>∃ x c t b,xs = [x,.ty c]∧TyOf K H x t∧PySem.W.kitOne K t (.type c) = some b∧Q (.bl b) H
theorem call_isinst:CallR X (.builtin "isinstance") (rIsi X.K):=by
  intro pins s σ H xs us Q I r h
  obtain ⟨x,c,t,b,rfl,ty,e,q⟩:=h
  obtain ⟨u,v,rfl,ru,rv⟩:=vals2 r
  have ev:v = Value.type c:=rv
  subst ev
  exact isinst_ok I ru ty e fun tk=>⟨.bl b,H,I.tok _,rfl,q⟩
end
def pureV:V→Bool
  | .non=>true
  | .int _=>true
  | .str _=>true
  | _=>false
theorem pure_flat {x:V} (h:pureV x = true):flatV x = true:=by
  cases x <;> first | rfl | exact h
theorem pure_eq {x y:V} (hx:pureV x = true) (hy:pureV y = true):eqV x y = decide (x = y):=by
  cases x <;> first | exact absurd (show false = true from hx) Bool.false_ne_true | skip
  all_goals (cases y <;> first | exact absurd (show false = true from hy) Bool.false_ne_true | skip)
  · rfl
  · rfl
  · rfl
  · rfl
  · exact dec_int.symm
  · rfl
  · rfl
  · rfl
  · exact dec_str.symm
theorem range_all_dec:∀ (xs ys:List V),xs.length = ys.length→xs.all pureV = true→ys.all pureV = true→
    ((List.range xs.length).all fun i=>eqV (xs.getD i .non) (ys.getD i .non)) = decide (xs = ys):=by
  intro xs
  induction xs with
  | nil=>
    intro ys hl _ _
    cases ys with
    | nil=>rfl
    | cons _ _=>simp at hl
  | cons x xs ih=>
    intro ys hl hx hy
    cases ys with
    | nil=>simp at hl
    | cons y ys=>
      rw [List.all_cons,Bool.and_eq_true] at hx hy
      have q:=ih ys (by simpa using hl) hx.2 hy.2
      rw [List.length_cons,List.range_succ_eq_map,List.all_cons,List.all_map]
      have e0:((fun i=>eqV ((x :: xs).getD i .non) ((y :: ys).getD i .non))∘Nat.succ) = fun i=>eqV (xs.getD i .non) (ys.getD i .non):=by
        funext i; simp
      rw [e0,q]
      show (eqV x y && decide (xs = ys)) = _
      rw [pure_eq hx.1 hy.1]
      by_cases h1:x = y
      · by_cases h2:xs = ys <;> simp [h1,h2]
      · simp [h1]
theorem all_get {xs:List V} {us:List Value} (r:Vals xs us) {j:Nat} (hj:j < us.length):∃ x,xs[j]? = some x∧RelV x us[j]:=by
  have hl:=r.length
  obtain ⟨u,e1,e2⟩:=r.get (i:=j) (x:=xs[j]'(by omega)) (by simp [show j < xs.length by omega])
  refine ⟨xs[j]'(by omega),by simp [show j < xs.length by omega],?_⟩
  rw [List.getElem?_eq_getElem hj] at e1
  cases e1
  exact e2
section
variable {X:Cx}
theorem rc_lists {A:Around} {s:Shared} {a b:Addr} {xs ys:List V} {its its2:List Value} (hu:A.units < cLine) (r1:Vals xs its) (r2:Vals ys its2) (h1:s.heap.IsList a its.toArray) (h2:s.heap.IsList b its2.toArray)
    (f1:xs.all pureV = true) (f2:ys.all pureV = true):SeqAt.RcAt A s (.ref a) (.ref b) (decide (xs = ys)):=by
  have l1:=r1.length
  have l2:=r2.length
  by_cases hl:xs.length = ys.length
  · have q:=SeqAt.RcAt.lists (A:=A) (s:=s) (e:=fun i=>eqV (xs.getD i .non) (ys.getD i .non)) h1 h2 (by simp; omega) hu (fun j g1 g2=>by
      have g1':j < its.length:=by simpa using g1
      have g2':j < its2.length:=by simpa using g2
      obtain ⟨x,e1,rx⟩:=all_get r1 g1'
      obtain ⟨y,e2,ry⟩:=all_get r2 g2'
      have p1:pureV x = true:=List.all_eq_true.mp f1 x (List.mem_of_getElem? e1)
      have p2:pureV y = true:=List.all_eq_true.mp f2 y (List.mem_of_getElem? e2)
      have:=eqAt_V (A:=A.in1) (s:=s) rx ry (pure_flat p1) (pure_flat p2)
      simpa [List.getD,e1,e2] using this)
    have e:(its.toArray.size) = xs.length:=by simp; omega
    rw [e,range_all_dec xs ys hl f1 f2] at q
    exact q
  · have e:decide (xs = ys) = false:=decide_eq_false fun z=>hl (by rw [z])
    rw [e]
    exact SeqAt.RcAt.lists_lengths h1 h2 (by simp; omega) hu
def rEqL (K:PySem.W.Frag) (neg:Bool):R2:=fun x y H Q=>∃ a b xs ys,x = .ref a∧y = .ref b∧SqL K H a xs∧SqL K H b ys∧xs.all pureV = true∧ys.all pureV = true∧Q (.bl (if neg then !decide (xs = ys) else decide (xs = ys))) H
theorem op_eqD (hu:X.A.units + 1 < cLine):OpR X (compareOp .Eq) (rEqL X.K false):=by
  intro pins s σ H x y v u Q I rx ry h
  obtain ⟨a,b,xs,ys,rfl,rfl,h1,h2,f1,f2,q⟩:=h
  cases rx
  cases ry
  obtain ⟨its,r1,p1,_⟩:=I.list h1
  obtain ⟨its2,r2,p2,_⟩:=I.list h2
  exact rc_lists (by omega) r1 r2 p1.isList p2.isList f1 f2 _ _ _ _ ⟨.bl _,H,I,rfl,q⟩
theorem rc_neLists {A:Around} {s:Shared} {a b:Addr} {xs ys:List V} {its its2:List Value} (hu:A.units < cLine) (r1:Vals xs its) (r2:Vals ys its2) (h1:s.heap.IsList a its.toArray) (h2:s.heap.IsList b its2.toArray)
    (f1:xs.all pureV = true) (f2:ys.all pureV = true):SeqAt.RcNeAt A s (.ref a) (.ref b) (!decide (xs = ys)):=by
  have l1:=r1.length
  have l2:=r2.length
  by_cases hl:xs.length = ys.length
  · have q:=SeqAt.RcNeAt.lists (A:=A) (s:=s) (e:=fun i=>eqV (xs.getD i .non) (ys.getD i .non)) h1 h2 (by simp; omega) hu (fun j g1 g2=>by
      have g1':j < its.length:=by simpa using g1
      have g2':j < its2.length:=by simpa using g2
      obtain ⟨x,e1,rx⟩:=all_get r1 g1'
      obtain ⟨y,e2,ry⟩:=all_get r2 g2'
      have p1:pureV x = true:=List.all_eq_true.mp f1 x (List.mem_of_getElem? e1)
      have p2:pureV y = true:=List.all_eq_true.mp f2 y (List.mem_of_getElem? e2)
      have:=eqAt_V (A:=A.in1) (s:=s) rx ry (pure_flat p1) (pure_flat p2)
      simpa [List.getD,e1,e2] using this)
    have e:(its.toArray.size) = xs.length:=by simp; omega
    rw [e,range_all_dec xs ys hl f1 f2] at q
    exact q
  · have e:decide (xs = ys) = false:=decide_eq_false fun z=>hl (by rw [z])
    rw [e]
    exact SeqAt.RcNeAt.lists_lengths h1 h2 (by simp; omega) hu
theorem op_neD (hu:X.A.units + 1 < cLine):OpR X (compareOp .NotEq) (rEqL X.K true):=by
  intro pins s σ H x y v u Q I rx ry h
  obtain ⟨a,b,xs,ys,rfl,rfl,h1,h2,f1,f2,q⟩:=h
  cases rx
  cases ry
  obtain ⟨its,r1,p1,_⟩:=I.list h1
  obtain ⟨its2,r2,p2,_⟩:=I.list h2
  exact rc_neLists (by omega) r1 r2 p1.isList p2.isList f1 f2 _ _ _ _ ⟨.bl _,H,I,rfl,q⟩
theorem all_pure_int (ns:List Int):(ns.map V.int).all pureV = true:=by simp [List.all_map,Function.comp_def,pureV]
theorem all_pure_str (ns:List Str):(ns.map V.str).all pureV = true:=by simp [List.all_map,Function.comp_def,pureV]
end
theorem boolsAre_of:∀ {bs:List Bool} {us:List Value},Vals (bs.map V.bl) us→LSm.BoolsAre us bs
  | [],_,.nil=>.nil
  | b :: bs,_,.cons r t=>by
    have e:_ = Value.bool b:=r
    subst e
    exact .cons b (boolsAre_of t)
section
variable {prog:Program} {w:World} {A:Around} {E:Value→Shared→Prop} {s:Shared} {l:Addr} {vs:List Value}
theorem all_kept {bs:List Bool} {Q:Value→Shared→Prop} (hh:A.handled = none) (hl:s.heap.IsList l vs.toArray) (hb:LSm.BoolsAre vs bs)
    (h:∀ h' tk,(∀ b o,s.heap.get? b = some o→h'.get? b = some o)→Q (.bool (bs.all id)) { s with heap:=h',toks:=tk }):wpAny (model prog w) A (call (.builtin "all") [.ref l]) Q E s:=by
  have below:l < s.heap.objs.size:=(fun ⟨_,e,_⟩=>Heap.lt_size e:s.heap.IsList l vs.toArray→_) hl
  have whole:((List.range vs.toArray.size).all fun i=>(bs[i]?).getD true) = bs.all id:=by rw [List.size_toArray,hb.length,LSm.range_all]
  exact call_all_walk (wpAny_pyIter_list hl ⟨s.heap.objs.size,[s.heap.objs.size,l],[s.heap.objs.size],vs.toArray.size,_,_,fun i=>(bs[i]?).getD true,rfl,Walks.list (A:=A.in1) hh _ l (Nat.ne_of_lt below) vs.toArray,⟨⟨_,Heap.get?_push_size _ rfl,rfl,rfl⟩,hl.push _⟩,
    (fun i v s' Q' E' hP hQ=>by
      obtain ⟨b,hg,hv⟩:=hb.get i v (by simpa using hP)
      have hQ':Q' b s':=by simpa [hg] using hQ
      subst hv
      exact wpAny_truthy_bool hQ'),
    fun h' tk hk=>whole ▸ h h' tk (LSm.kept_iter hk)⟩)
end
section
variable {X:Cx}
theorem call_all (hc:X.calm = true):CallR X (.builtin "all") (fun xs H Q=>∃ (a:Addr) (bs:List Bool),xs = [.ref a]∧SqL X.K H a (bs.map V.bl)∧Q (.bl (bs.all id)) H):=by
  intro pins s σ H xs us Q I r h
  obtain ⟨a,bs,rfl,h1,q⟩:=h
  obtain ⟨u,rfl,ru⟩:=vals1 r
  cases ru
  obtain ⟨its,r1,p1,_⟩:=I.list h1
  exact all_kept (I.ok.hd hc) p1.isList (boolsAre_of r1) fun h' tk hk=>⟨.bl _,H,I.kept hk,rfl,q⟩
theorem call_sum (hc:X.calm = true):CallR X (.builtin "sum") (fun xs H Q=>∃ (a:Addr) (ns:List Int),xs = [.ref a]∧SqL X.K H a (ns.map V.int)∧Q (.int ns.sum) H):=by
  intro pins s σ H xs us Q I r h
  obtain ⟨a,ns,rfl,h1,q⟩:=h
  obtain ⟨u,rfl,ru⟩:=vals1 r
  cases ru
  obtain ⟨its,r1,p1,_⟩:=I.list h1
  have hi:=intsAre_of r1
  obtain ⟨zs,hz⟩:=hi.allInts.items
  have due:preSum (numAt zs) zs.size = ns.sum:=by
    have:zs.toList.map (·.1) = ns:=by rw [← nums_intItems,← hz]; exact hi.numsOf
    rw [← this,preSum_eq,List.take_of_length_le (by simp)]
  exact sum_intListG (I.ok.hd hc) (hz ▸ p1.isList) fun h' tk t' hk=>⟨.int ns.sum,H,I.kept hk,⟨_,by rw [due]⟩,q⟩
def rCatS (K:PySem.W.Frag):R2:=fun x y H Q=>∃ l b xs zs,x = .ref l∧y = .ref b∧SqL K H l xs∧SqL K H b zs∧xs.length + zs.length≤sizeLine∧∀ p,H p = none→Q (.ref p) (upd H p (.lst (xs ++ zs)))
theorem op_catS:OpR X (binaryOp .Add) (rCatS X.K):=by
  intro pins s σ H x y v u Q I rx ry h
  obtain ⟨l,b,xs,zs,rfl,rfl,h1,h2,hz,q⟩:=h
  cases rx
  cases ry
  obtain ⟨its,r,p1,_⟩:=I.list h1
  obtain ⟨its2,r2,p2,_⟩:=I.list h2
  have l1:=r.length
  have l2:=r2.length
  obtain ⟨⟨cls,dd,data,sl⟩,ho,hc,n,hd⟩:=id p1.isList
  obtain ⟨⟨cls2,dd2,data2,sl2⟩,ho2,hc2,n2,hd2⟩:=id p2.isList
  simp only at hc hd hc2 hd2
  subst hc hd hc2 hd2
  have e:its.toArray ++ its2.toArray = (its ++ its2).toArray:=by simp
  refine concat_meets ⟨_,ho,rfl⟩ ⟨_,ho2,rfl⟩ noFill_list_add seq_list_add PySem.F.slot_list_add PySem.F.entry_list_add (PySem.F.args_list_add_2 _ _) (list_addW l b its.toArray its2.toArray n n2 dd dd2 sl sl2 (by rw [List.size_toArray,List.size_toArray]; omega)) ⟨ho,ho2,?_⟩
  rw [e]
  exact ⟨.ref _,_,I.lnew (t':=s.toks) (r.append r2) (by rw [List.length_append]; omega),rfl,q _ I.fresh⟩
end
theorem same_new {H:Hp} {p:Addr} (h:H p = none) (o:HO):Same H (upd H p o):=fun b u q=>by rw [upd_ne (ne_of_none q h)]; exact q
theorem same_upd {H H':Hp} {p:Addr} (s:Same H H') (h:H p = none) (o:HO):Same H (upd H' p o):=fun b u q=>by rw [upd_ne (ne_of_none q h)]; exact s b u q
theorem Same.get {H H':Hp} {a:Addr} {o:HO} (s:Same H H') (h:H a = some o):H' a = some o:=s a o h
theorem sizeLine_big:1000000≤sizeLine:=by decide
theorem small {n:Nat} (h:n≤1000000):n≤sizeLine:=Nat.le_trans h sizeLine_big
theorem smallLt {n:Nat} (h:n < 1000000):n < sizeLine:=Nat.lt_of_lt_of_le h sizeLine_big
theorem map_get {ns:List Int} {i:Nat} {y:V} (h:(ns.map V.int)[i]? = some y):∃ z,y = V.int z∧ns[i]? = some z:=by
  rw [List.getElem?_map] at h
  cases e:ns[i]? with
  | none=>rw [e] at h; cases h
  | some z=>rw [e] at h; exact ⟨z,(Option.some.inj h).symm,rfl⟩
theorem at_int {ns:List Int} {i:Int} (h0:0≤i) (h1:i < ns.length):atI (ns.map V.int) i = some (.int (ns.getD i.toNat 0)):=by
  have hk:i.toNat < ns.length:=by omega
  have ek:i = ((i.toNat:Nat):Int):=by omega
  have q:atI (ns.map V.int) ((i.toNat:Nat):Int) = some (.int (ns.getD i.toNat 0)):=atI_nat (by rw [List.getElem?_map,List.getElem?_eq_getElem hk]; simp [List.getD,List.getElem?_eq_getElem hk])
  rw [← ek] at q
  exact q
theorem cut_lo {xs:List V} {i:Int} (h:0≤i):cutV xs (some i) none = xs.drop i.toNat:=by
  unfold cutV
  rw [show i = ((i.toNat:Nat):Int) by omega,HT.sIx_nat,HT.sIx_none,Int.toNat_natCast]
  by_cases hl:i.toNat≤xs.length
  · rw [Nat.min_eq_left hl,List.take_of_length_le (by rw [List.length_drop]; exact Nat.le_refl _)]
  · rw [Nat.min_eq_right (by omega),List.drop_eq_nil_of_le (Nat.le_refl _),List.drop_eq_nil_of_le (by omega),List.take_nil]
theorem cut_hi {xs:List V} {j:Int} (h:0≤j):cutV xs none (some j) = xs.take j.toNat:=by
  unfold cutV
  rw [show j = ((j.toNat:Nat):Int) by omega,HT.sIx_nat,HT.sIx_none,Int.toNat_natCast,List.drop_zero,Nat.sub_zero]
  by_cases hl:j.toNat≤xs.length
  · rw [Nat.min_eq_left hl]
  · rw [Nat.min_eq_right (by omega),List.take_of_length_le (Nat.le_refl _),List.take_of_length_le (by omega)]
theorem cut_lohi {xs:List V} {i j:Int} (hi:0≤i) (hj:0≤j):cutV xs (some i) (some j) = (xs.drop i.toNat).take (j.toNat - i.toNat):=by
  unfold cutV
  rw [show i = ((i.toNat:Nat):Int) by omega,show j = ((j.toNat:Nat):Int) by omega,HT.sIx_nat,HT.sIx_nat,Int.toNat_natCast,Int.toNat_natCast]
  generalize i.toNat = a
  generalize j.toNat = b
  apply List.ext_getElem?
  intro k
  rw [List.getElem?_take,List.getElem?_take,List.getElem?_drop,List.getElem?_drop]
  by_cases ha:a≤xs.length
  · rw [Nat.min_eq_left ha]
    by_cases hb:b≤xs.length
    · rw [Nat.min_eq_left hb]
    · rw [Nat.min_eq_right (by omega)]
      by_cases h1:k < xs.length - a
      · rw [if_pos h1,if_pos (by omega)]
      · rw [if_neg h1]
        split
        · rw [List.getElem?_eq_none (by omega)]
        · rfl
  · rw [Nat.min_eq_right (show xs.length≤a by omega)]
    rw [List.getElem?_eq_none (by omega),List.getElem?_eq_none (by omega)]
    split <;> split <;> rfl
theorem cut_ints (ns:List Int) (lo hi:Option Int):∃ ms:List Int,cutV (ns.map V.int) lo hi = ms.map V.int∧ms.length≤ns.length∧∀ x∈ms,x∈ns:=by
  refine ⟨(ns.drop (HT.sIx (ns.map V.int).length 0 lo)).take (HT.sIx (ns.map V.int).length (ns.map V.int).length hi - HT.sIx (ns.map V.int).length 0 lo),?_,?_,fun x hx=>List.mem_of_mem_drop (List.mem_of_mem_take hx)⟩
  · unfold cutV; rw [List.map_take,List.map_drop]
  · rw [List.length_take,List.length_drop]; omega
theorem iteFc {c:Bool} {A B:Prop} (h:c = false) (b:B):if c = true then A else B:=by
  subst h
  rw [if_neg Bool.false_ne_true]
  exact b
theorem iteTc {c:Bool} {A B:Prop} (h:c = true) (b:A):if c = true then A else B:=by
  subst h
  rw [if_pos rfl]
  exact b
theorem dec_true {c:Prop} [Decidable c] (h:decide c = true):c:=of_decide_eq_true h
theorem dec_false {c:Prop} [Decidable c] (h:¬ decide c = true):¬ c:=fun z=>h (decide_eq_true z)
theorem tOr_p {t u:TT} {σ:St} {H:Hp} {Q:Bool→Hp→Prop} (c d:Bool) (ht:∀ R:Bool→Hp→Prop,R c H→t σ H R) (hu:c = false→∀ R:Bool→Hp→Prop,R d H→u σ H R) (q:Q (c || d) H):tOr t u σ H Q:=by
  refine ht _ ?_
  cases c with
  | true=>rw [if_pos rfl]; exact q
  | false=>rw [if_neg Bool.false_ne_true]; exact hu rfl _ q
def ItIs (J:It) (H:Hp) (xs:List V):Prop:=∀ H',Same H H'→∀ i:Nat,(i < xs.length→J.go i H')∧(∀ x H'',J.yld i H' x H''→H'' = H'∧(i < xs.length→xs[i]? = some x))∧(xs.length≤i→J.stop i H')
theorem itIs_list {K:PySem.W.Frag} {a:Addr} {H:Hp} {xs:List V} (h:SqL K H a xs):ItIs (Itl K a) H xs:=fun H' s i=>
  ⟨fun hi=>⟨xs,xs[i],s.seq h,by simp [hi]⟩,fun x H'' y=>⟨y.1,fun _=>y.2 xs (s.seq h)⟩,fun hi=>⟨xs,s.seq h,hi⟩⟩
theorem itIs_range {lo:Int} {n:Nat} {H:Hp}:ItIs (Itr lo n) H ((List.range n).map fun (i:Nat)=>V.int (lo + (i:Int))):=fun H' s i=>
  ⟨fun hi=>(by simpa using hi:i < n),fun x H'' y=>⟨y.1,fun hi=>by
    have hi':i < n:=by simpa using hi
    rw [List.getElem?_map,List.getElem?_range hi',y.2]; rfl⟩,fun hi=>(by simpa using hi:n≤i)⟩
theorem comp_map {J:It} {xs:List V} {fr:List (Option Nat)} {k:Nat} {te:TE} {Q:VK} {σ:St} {H:Hp} (f:V→V) (hJ:ItIs J H xs) (hn:xs.length≤1000000)
    (helt:∀ (x:V) (H':Hp) (R:VK),x∈xs→Same H H'→(∀ H'',Same H' H''→R (f x) H'')→te ((stC fr σ).set k (some x)) H' R)
    (hQ:∀ l H',H l = none→Same H H'→H' l = some (.lst (xs.map f))→Q (.ref l) H') :
    tCompK fr (gName k) tYes te σ Q J H:=by
  intro l hl
  refine ⟨fun i m σ' H'=>m = xs.length - i∧i≤xs.length∧(∀ y,σ'.set k y = (stC fr σ).set k y)∧Same H H'∧H' l = some (.lst ((xs.take i).map f)),⟨xs.length,by simp,Nat.zero_le _,fun _=>rfl,same_new hl _,by rw [upd_same,List.take_zero,List.map_nil]⟩,?_⟩
  rintro i m σ' H' ⟨rfl,hi,hσ,hs,hl'⟩
  obtain ⟨h1,h2,h3⟩:=hJ H' hs i
  by_cases hlt:i < xs.length
  · refine .inr ⟨h1 hlt,fun x H'' y=>?_⟩
    obtain ⟨rfl,hx⟩:=h2 x H'' y
    have hx:=hx hlt
    show te (σ'.set k (some x)) H'' _
    rw [hσ]
    refine helt x H'' _ (List.mem_of_getElem? hx) hs fun H4 s4=>?_
    refine ⟨_,s4.get hl',smallLt (by rw [List.length_map,List.length_take]; omega),xs.length - (i + 1),by omega,rfl,hlt,fun y=>by rw [List.set_set],same_upd (hs.trans s4) hl _,?_⟩
    rw [upd_same,List.take_add_one,hx]
    simp
  · have e:i = xs.length:=by omega
    subst e
    exact .inl ⟨h3 (Nat.le_refl _),hQ l H' hl hs (by rw [hl',List.take_of_length_le (Nat.le_refl _)])⟩
section
variable {X:Cx} {K:PySem.W.Frag}
theorem ix_tupK (h:X.K = K):IxR X (rIxT K):=by subst h; exact ix_tup
end
def Ok (H:Hp):V→Prop
  | .non=>True
  | .bl _=>True
  | .int _=>True
  | .str z=>z.length≤1000
  | .ref a=>(∃ xs,H a = some (.lst xs))∨∃ xs,H a = some (.tup xs)
  | _=>False
theorem Ok.same {H H':Hp} {v:V} (h:Ok H v) (s:Same H H'):Ok H' v:=by
  cases v <;> first | exact h | skip
  rcases h with ⟨xs,e⟩ | ⟨xs,e⟩
  · exact .inl ⟨xs,s.get e⟩
  · exact .inr ⟨xs,s.get e⟩
def tyN (H:Hp):V→String
  | .non=>"NoneType"
  | .bl _=>"bool"
  | .int _=>"int"
  | .str _=>"str"
  | .ref a=>match H a with
    | some (.lst _)=>"list"
    | some (.tup _)=>"tuple"
    | _=>"?"
  | _=>"?"
theorem Ok.ty {H:Hp} {v:V} (h:Ok H v) (K:PySem.W.Frag):TyOf K H v (.type (tyN H v)):=by
  cases v with
  | non=>exact .non
  | bl b=>exact .bl b
  | int i=>exact .int i
  | str z=>exact .str z
  | ref a=>
    rcases h with ⟨xs,e⟩ | ⟨xs,e⟩
    · have q:tyN H (.ref a) = "list":=by simp only [tyN,e]
      rw [q]; exact .lst e
    · have q:tyN H (.ref a) = "tuple":=by simp only [tyN,e]
      rw [q]; exact .tup e
  | _=>exact h.elim
def isA (t c:String):Bool:=t == c || (t == "bool" && c == "int")
theorem kit_any {t c:String} (K:PySem.W.Frag) (ht:t∈["NoneType","bool","int","str","list","tuple"]) (hc:c∈["bool","int","str","list","tuple"]):PySem.W.kitOne K (.type t) (.type c) = some (isA t c):=by
  have all:∀ t∈["NoneType","bool","int","str","list","tuple"],∀ c∈["bool","int","str","list","tuple"],(if (Value.type t == Value.type c) = true then some true else if PySem.W.kitMeta c = true then (fastBuiltinMro t).map (·.contains (.type c)) else none) = some (isA t c):=by decide +kernel
  exact kit_of (all t ht c hc) K
theorem Ok.tyMem {H:Hp} {v:V} (h:Ok H v):tyN H v∈["NoneType","bool","int","str","list","tuple"]:=by
  cases v with
  | ref a=>
    rcases h with ⟨xs,e⟩ | ⟨xs,e⟩
    · simp only [tyN,e]; decide
    · simp only [tyN,e]; decide
  | byt _=>exact h.elim
  | flt _=>exact h.elim
  | ty _=>exact h.elim
  | _=>simp only [tyN]; decide
theorem Ok.kit {H:Hp} {v:V} (h:Ok H v) (K:PySem.W.Frag) {c:String} (hc:c∈["bool","int","str","list","tuple"]:=by decide):PySem.W.kitOne K (.type (tyN H v)) (.type c) = some (isA (tyN H v) c):=kit_any K h.tyMem hc
theorem tAndV_p {t u:TE} {σ:St} {H:Hp} {Q:VK} (c d:Bool) (ht:∀ R:VK,R (.bl c) H→t σ H R) (hu:c = true→∀ R:VK,R (.bl d) H→u σ H R) (q:Q (.bl (c && d)) H):tAndV t u σ H Q:=by
  refine ht _ ⟨c,rfl,?_⟩
  cases c with
  | false=>rw [if_neg Bool.false_ne_true]; exact q
  | true=>rw [if_pos rfl]; exact hu rfl _ q
theorem tyN_lst {H:Hp} {a:Addr} {xs:List V} (e:H a = some (.lst xs)):tyN H (.ref a) = "list":=by simp only [tyN,e]
theorem tyN_tup {H:Hp} {a:Addr} {xs:List V} (e:H a = some (.tup xs)):tyN H (.ref a) = "tuple":=by simp only [tyN,e]
theorem Ok.elim {H:Hp} {v:V} (ok:Ok H v) {C:Prop} (c1:v = .non→tyN H v = "NoneType"→C) (c2:∀ b,v = .bl b→tyN H v = "bool"→C) (c3:∀ i,v = .int i→tyN H v = "int"→C) (c4:∀ z,v = .str z→z.length≤1000→tyN H v = "str"→C)
    (c5:∀ a xs,v = .ref a→H a = some (.lst xs)→tyN H v = "list"→C) (c6:∀ a xs,v = .ref a→H a = some (.tup xs)→tyN H v = "tuple"→C):C:=by
  cases v with
  | non=>exact c1 rfl rfl
  | bl b=>exact c2 b rfl rfl
  | int i=>exact c3 i rfl rfl
  | str z=>exact c4 z rfl ok rfl
  | ref a=>
    rcases ok with ⟨xs,e⟩ | ⟨xs,e⟩
    · exact c5 a xs rfl e (tyN_lst e)
    · exact c6 a xs rfl e (tyN_tup e)
  | _=>exact (show False from ok).elim
def wholeB (H:Hp) (v:V):Bool:=isA (tyN H v) "int" && !isA (tyN H v) "bool"
theorem whole_int (H:Hp) (i:Int):wholeB H (.int i) = true:=by
  show (isA "int" "int" && !isA "int" "bool") = true
  decide
theorem whole_of {H:Hp} {v:V} (ok:Ok H v) (h:wholeB H v = true):∃ i,v = .int i:=by
  unfold wholeB at h
  refine ok.elim (fun _ e=>?_) (fun _ _ e=>?_) (fun i e _=>⟨i,e⟩) (fun _ _ _ e=>?_) (fun _ _ _ _ e=>?_) (fun _ _ _ _ e=>?_)
  all_goals (rw [e] at h; exact absurd h (by decide))
def betw (a b:Int):V→Bool
  | .int i=>decide (a≤i) && decide (i≤b)
  | _=>false
theorem betw_eq {H:Hp} {v:V} {a b:Int} (h:wholeB H v = false):betw a b v = false:=by
  cases v with
  | int i=>rw [whole_int] at h; cases h
  | _=>rfl
theorem tuple_of {H:Hp} {v:V} (ok:Ok H v) (h:isA (tyN H v) "tuple" = true):∃ a xs,v = .ref a∧H a = some (.tup xs):=by
  refine ok.elim (fun _ e=>?_) (fun _ _ e=>?_) (fun _ _ e=>?_) (fun _ _ _ e=>?_) (fun _ _ _ _ e=>?_) (fun a xs e1 e2 _=>⟨a,xs,e1,e2⟩)
  all_goals (rw [e] at h; exact absurd h (by decide))
theorem str_of {H:Hp} {v:V} (ok:Ok H v) (h:isA (tyN H v) "str" = true):∃ z,v = .str z∧z.length≤1000:=by
  refine ok.elim (fun _ e=>?_) (fun _ _ e=>?_) (fun _ _ e=>?_) (fun z e1 e2 _=>⟨z,e1,e2⟩) (fun _ _ _ _ e=>?_) (fun _ _ _ _ e=>?_)
  all_goals (rw [e] at h; exact absurd h (by decide))
end L2
namespace L2
open PySem PySem.Spec PyProof.Rows
def Itx (x:Str):It:=⟨fun i _=>i < x.cps.size,fun i H v H'=>H' = H∧∃ c,x.cps[i]? = some c∧v = .str ⟨#[c]⟩,fun i _=>x.cps.size≤i⟩
theorem turn_ascii {P:Program} {w:World} {K:PySem.W.Frag} {tg:Expr} (it:Addr) (x:Str) (t:Tok):Turn P w K tg (Itx x) [it] it (fun i h=>h.IsStrIter it "str_ascii_iterator" x t i) where
  mem:=by simp
  obj:=fun i h st b hb=>by
    have e:b = it:=by simpa using hb
    subst e
    obtain ⟨o,e,c,d⟩:=st
    exact ⟨o,e,fun v z=>by rw [d] at z; cases z⟩
  keep:=fun i h h' st k=>by
    obtain ⟨o,e,c,d⟩:=st
    exact ⟨o,k it (by simp) o e,c,d⟩
  item:=by
    intro X hP hw hK hc i pins s σ H E I hf st hg
    subst hP hw hK
    have hg':i < x.cps.size:=hg
    obtain ⟨f0,f1,f2,f3,f4,f5⟩:=hf it (by simp)
    refine wpAny_pyNext_ascii_item st (c:=x.cps[i]) (by simp [hg']) fun h' st' sb=>?_
    have I1:Inv X pins σ H { s with heap:=h',toks:=s.toks + 1 }:=I.turned (fun b o hb e=>(sb.2 b hb).trans e) f0 f1 f3 f4 f5
    obtain ⟨o,e,c,d⟩:=id st'
    exact ⟨_,rfl,go_of (s:={ s with heap:=h',toks:=s.toks + 1 }) e c d (by decide) ⟨.str ⟨#[x.cps[i]]⟩,H,I1,⟨_,rfl⟩,⟨rfl,_,by simp [hg'],rfl⟩,st',fun b hb=>(hf b hb).1⟩⟩
  done:=by
    intro X hP hw hK hc i pins s σ H E I hf st hg
    subst hP hw hK
    have hg':x.cps.size≤i:=hg
    obtain ⟨f0,f1,f2,f3,f4,f5⟩:=hf it (by simp)
    exact wpAny_pyNext_ascii_end (I.ok.hd hc) st (by simp [hg']) fun h' eb=>⟨rfl,I.turned (t':=s.toks) (fun b o hb e=>eb b o hb e) f0 f1 f3 f4 f5⟩
  self:=fun _ _ _ _ _ st h=>wpAny_pyIter_striter_ascii st h
theorem turn_wide {P:Program} {w:World} {K:PySem.W.Frag} {tg:Expr} (it:Addr) (x:Str) (t:Tok):Turn P w K tg (Itx x) [it] it (fun i h=>h.IsStrIter it "str_iterator" x t i) where
  mem:=by simp
  obj:=fun i h st b hb=>by
    have e:b = it:=by simpa using hb
    subst e
    obtain ⟨o,e,c,d⟩:=st
    exact ⟨o,e,fun v z=>by rw [d] at z; cases z⟩
  keep:=fun i h h' st k=>by
    obtain ⟨o,e,c,d⟩:=st
    exact ⟨o,k it (by simp) o e,c,d⟩
  item:=by
    intro X hP hw hK hc i pins s σ H E I hf st hg
    subst hP hw hK
    have hg':i < x.cps.size:=hg
    obtain ⟨f0,f1,f2,f3,f4,f5⟩:=hf it (by simp)
    refine wpAny_pyNext_wide_item st (c:=x.cps[i]) (by simp [hg']) fun h' st' sb=>?_
    have I1:Inv X pins σ H { s with heap:=h',toks:=s.toks + 1 }:=I.turned (fun b o hb e=>(sb.2 b hb).trans e) f0 f1 f3 f4 f5
    obtain ⟨o,e,c,d⟩:=id st'
    exact ⟨_,rfl,go_of (s:={ s with heap:=h',toks:=s.toks + 1 }) e c d (by decide) ⟨.str ⟨#[x.cps[i]]⟩,H,I1,⟨_,rfl⟩,⟨rfl,_,by simp [hg'],rfl⟩,st',fun b hb=>(hf b hb).1⟩⟩
  done:=by
    intro X hP hw hK hc i pins s σ H E I hf st hg
    subst hP hw hK
    have hg':x.cps.size≤i:=hg
    obtain ⟨f0,f1,f2,f3,f4,f5⟩:=hf it (by simp)
    exact wpAny_pyNext_wide_end (I.ok.hd hc) st (by simp [hg']) fun h' eb=>⟨rfl,I.turned (t':=s.toks) (fun b o hb e=>eb b o hb e) f0 f1 f3 f4 f5⟩
  self:=fun _ _ _ _ _ st h=>wpAny_pyIter_striter_wide st h
section
variable {X:Cx} {tg:Expr}
def iStr (tl:TE):TI:=fun σ H R=>tl σ H fun x H1=>∃ z,x = .str z∧R (Itx z) H1
theorem pi_str {l:Expr} {tl:TE} (hl:PE X l tl):PI X tg l (iStr tl):=by
  intro pins s σ H R I h
  refine thn (hl pins s σ H _ I h) fun v s1 ⟨x,H1,I1,r1,q1⟩=>?_
  obtain ⟨z,e,q⟩:=q1
  subst e
  obtain ⟨t,rfl⟩:=r1
  have fp:∀ b∈[s1.heap.objs.size],FpOk X pins H1 b:=fun b hb=>by
    have e:b = s1.heap.objs.size:=by simpa using hb
    subst e
    exact I1.fpOk (Nat.le_refl _) (I1.hok.fresh (Nat.le_refl _))
  cases ha:z.cps.all (· < 128)
  · exact wpAny_pyIter_wide ha ⟨s1.heap.objs.size,[s1.heap.objs.size],_,_,H1,rfl,I1.kept (t':=s1.toks) (fun b o e=>Heap.get?_push_of_some _ e),turn_wide _ z t,⟨_,Heap.get?_push_size _ rfl,rfl,rfl⟩,fp,q⟩
  · exact wpAny_pyIter_ascii ha ⟨s1.heap.objs.size,[s1.heap.objs.size],_,_,H1,rfl,I1.kept (t':=s1.toks) (fun b o e=>Heap.get?_push_of_some _ e),turn_ascii _ z t,⟨_,Heap.get?_push_size _ rfl,rfl,rfl⟩,fp,q⟩
end
theorem itIs_str {x:Str} {H:Hp}:ItIs (Itx x) H (x.cps.toList.map fun c=>V.str ⟨#[c]⟩):=fun H' s i=>
  ⟨fun hi=>(by simpa using hi:i < x.cps.size),fun v H'' y=>⟨y.1,fun hi=>by
    obtain ⟨_,c,hc,e⟩:=y
    rw [List.getElem?_map,Array.getElem?_toList,hc,e]; rfl⟩,fun hi=>(by simpa using hi:x.cps.size≤i)⟩
section
variable {X:Cx}
def rIndex:V→List V→Hp→VK→Prop:=fun x vs H Q=>∃ t u,x = .str t∧vs = [.str u]∧0≤Txt.find t u∧Q (.int (Txt.find t u)) H
theorem mt_index (hc:X.calm = true):MtR X "str.index" rIndex:=by
  intro pins s σ H x vs v us Q I rx rv h
  obtain ⟨t,u,rfl,rfl,h0,q⟩:=h
  obtain ⟨tk,rfl⟩:=rx
  obtain ⟨y,rfl,ry⟩:=rv.one
  obtain ⟨tk2,rfl⟩:=ry
  refine index_or (I.ok.hd hc) (fun e=>absurd e (by omega)) fun _ _=>⟨.int (Txt.find t u),H,I.tok _,⟨_,rfl⟩,q⟩
end
end L2
namespace L2
open PySem PySem.Spec PyProof.Rows
section
variable {X:Cx}
end
end L2
namespace L2
open PySem PySem.Spec PyProof.Rows
section
variable {X:Cx}
theorem strsAre_of {ys:List Str}:∀ {us:List Value},Vals (ys.map V.str) us→StrsAre us ys:=by
  induction ys with
  | nil=>intro us r; rw [List.map_nil] at r; cases r; exact .nil
  | cons n ns ih=>
    intro us r
    rw [List.map_cons] at r
    cases r with
    | cons r1 r2=>
      obtain ⟨t,e⟩:=r1
      subst e
      exact .cons n t (ih r2)
def rJoin (K:PySem.W.Frag):V→List V→Hp→VK→Prop:=fun x vs H Q=>∃ (a:Addr) (z:Str) (ys:List Str),x = .str z∧vs = [.ref a]∧SqL K H a (ys.map V.str)∧(ys.map (·.length)).sum + ys.length * z.length≤16777216∧Q (.str (PySem.Txt.join z ys)) H
theorem mt_join (_:X.calm = true):MtR X "str.join" (rJoin X.K):=by
  intro pins s σ H x vs v us Q I rx rv h
  obtain ⟨a,z,ys,rfl,rfl,hq,hz,q⟩:=h
  obtain ⟨tk,rfl⟩:=rx
  obtain ⟨y,rfl,ry⟩:=rv.one
  cases ry
  obtain ⟨its,r1,p1,_⟩:=I.list hq
  exact join_list p1.isList (strsAre_of (by simpa using r1)) hz fun t' k=>⟨.str _,H,I.tok k,⟨_,rfl⟩,q⟩
end
end L2
namespace L2
open PySem PySem.Spec PyProof.Rows PySem.Builtin.Str
abbrev cod (z:Str):List Nat:=z.cps.toList
theorem cod_len (z:Str):(cod z).length = z.length:=by simp [Str.length]
theorem str_ext {x y:Str} (h:cod x = cod y):x = y:=by
  obtain ⟨a⟩:=x
  obtain ⟨b⟩:=y
  have:a = b:=Array.toList_inj.mp h
  rw [this]
end L2
namespace L2
open PySem PySem.Spec PyProof.Rows
section
variable {X:Cx}
end
theorem comp_rel {J:It} {xs:List V} {fr:List (Option Nat)} {k:Nat} {te:TE} {Q:VK} {σ:St} {H:Hp} (P:V→V→Hp→Prop) (hP:∀ x y H1 H2,P x y H1→Same H1 H2→P x y H2)
    (hU:∀ x y H1 l us us',P x y H1→H1 l = some (.lst us)→y≠.ref l→P x y (upd H1 l (.lst us'))) (hJ:ItIs J H xs) (hn:xs.length≤1000000)
    (helt:∀ (x:V) (H':Hp) (R:VK),x∈xs→Same H H'→(∀ y H'',Same H' H''→(∀ a,y = .ref a→H' a = none)→P x y H''→R y H'')→te ((stC fr σ).set k (some x)) H' R)
    (hQ:∀ l H' (ys:List V),H l = none→Same H H'→H' l = some (.lst ys)→ys.length = xs.length→(∀ (i:Nat) x y,xs[i]? = some x→ys[i]? = some y→P x y H'∧y≠.ref l)→Q (.ref l) H') :
    tCompK fr (gName k) tYes te σ Q J H:=by
  intro l hl
  refine ⟨fun i m σ' H'=>m = xs.length - i∧i≤xs.length∧(∀ y,σ'.set k y = (stC fr σ).set k y)∧Same H H'∧∃ ys:List V,H' l = some (.lst ys)∧ys.length = i∧(∀ (i:Nat) x y,xs[i]? = some x→ys[i]? = some y→P x y H'∧y≠.ref l),
    ⟨xs.length,by simp,Nat.zero_le _,fun _=>rfl,same_new hl _,[],upd_same,rfl,fun i x y _ h=>by simp at h⟩,?_⟩
  rintro i m σ' H' ⟨rfl,hi,hσ,hs,ys,hl',hlen,hp⟩
  obtain ⟨h1,h2,h3⟩:=hJ H' hs i
  by_cases hlt:i < xs.length
  · refine .inr ⟨h1 hlt,fun x H'' y=>?_⟩
    obtain ⟨rfl,hx⟩:=h2 x H'' y
    have hx:=hx hlt
    show te (σ'.set k (some x)) H'' _
    rw [hσ]
    refine helt x H'' _ (List.mem_of_getElem? hx) hs fun y H4 s4 fy py=>?_
    have yl:y≠.ref l:=fun z=>by rw [fy l z] at hl'; cases hl'
    refine ⟨_,s4.get hl',smallLt (by omega),xs.length - (i + 1),by omega,rfl,hlt,fun y=>by rw [List.set_set],same_upd (hs.trans s4) hl _,ys ++ [y],upd_same,by rw [List.length_append,hlen]; rfl,fun j x' y' hx' hy'=>?_⟩
    by_cases hj:j < ys.length
    · rw [List.getElem?_append_left hj] at hy'
      obtain ⟨q1,q2⟩:=hp j x' y' hx' hy'
      exact ⟨hU _ _ _ _ _ _ (hP _ _ _ _ q1 s4) (s4.get hl') q2,q2⟩
    · rw [List.getElem?_append_right (by omega)] at hy'
      by_cases hj2:j = ys.length
      · subst hj2
        rw [Nat.sub_self] at hy'
        cases (Option.some.inj hy':y = y')
        rw [hlen] at hx'
        cases (Option.some.inj (hx.symm.trans hx'):x = x')
        exact ⟨hU _ _ _ _ _ _ py (s4.get hl') yl,yl⟩
      · rw [List.getElem?_eq_none (by simp; omega)] at hy'
        cases hy'
  · have e:i = xs.length:=by omega
    subst e
    exact .inl ⟨h3 (Nat.le_refl _),hQ l H' ys hl hs hl' hlen hp⟩
end L2
namespace L2
open PySem PySem.Spec PyProof.Rows
theorem tc_enum (a v:Value):checkTypeCall "enumerate" ⟨[a],[("start",v)]⟩ = pure ():=by kernel_rfl
theorem nc_enum (a v:Value):checkBuiltinCall "enumerate.__new__" ⟨[.type "enumerate",a],[("start",v)]⟩ = pure ():=by kernel_rfl
theorem ao_enum (obj a v:Value):argsOk "object.__init__" ⟨[obj,a],[("start",v)]⟩:=by kernel_rfl
theorem mt_enum (l:Addr) (items:Array Value) (m:Nat) (sl:Array (Option Value)) (t:Tok):Meets (Builtin.«enumerate.__new__» ⟨[.type "enumerate",.ref l],[("start",.int 1 t)]⟩) fun _ R s=>
    s.heap.get? l = some { cls:=.type "list",dict:=none,data:=.seq items m,slots:=sl }∧R (.ok (.ret (.ref (s.heap.objs.size + 1))))
      { s with heap:=(s.heap.push { cls:=.type "list_iterator",data:=.fields #[.ref l,.int 0 0] }).push { cls:=.type "enumerate",data:=.fields #[.none,.bool false,.ref s.heap.objs.size,rawInt 1,.none,.none] } }:=by
  refine .of_wp fun prog w A R s h=>?_
  obtain ⟨hl,h⟩:=h
  have hsub:=sub_enumerate
  have hL:s.heap.IsList l items:=⟨_,hl,rfl,m,rfl⟩
  obtain ⟨hp,g,d,tk,os⟩:=s
  wp_walk using PySem.AutoSeq1.wpAny_loadPart' hl
  refine wpAny_stack_any fun st=>wpAny_pure ?_
  split
  · rename_i c _ _ _ _ _
    cases hcc:(c == Value.type "enumerate") <;> wp_walk using PySem.AutoSeq1.wpAny_loadPart' hl,wpAny_pyIter_list hL
    all_goals (refine ⟨_,rfl,?_⟩; rw [Heap.size_push]; exact h)
  · wp_walk using PySem.AutoSeq1.wpAny_loadPart' hl,wpAny_pyIter_list hL
    refine ⟨_,rfl,?_⟩; rw [Heap.size_push]; exact h
theorem oi_enum {self a v:Value}:Meets (Builtin.«object.__init__» ⟨[self,a],[("start",v)]⟩) fun _ R s=>s.TypeIs self "enumerate"∧R (.ok (.ret .none)) s:=by
  have hl:=F.called_enumerate.init.lookup
  have hm:=F.called_enumerate.made
  have hne:(some "enumerate.__new__" != some "object.__new__") = true:=by decide
  refine .of_wp fun prog w A R s h=>?_
  obtain ⟨hT,hq⟩:=h
  repeat (any_goals (first | wp_step | assumption))
  all_goals exact ⟨_,rfl,hq⟩
section
variable {prog:Program} {w:World} {A:Around} {E:Value→Shared→Prop} {s:Shared}
theorem call_enum {l:Addr} {items:Array Value} {m:Nat} {sl:Array (Option Value)} {t:Tok} {Q:Value→Shared→Prop} (hl:s.heap.get? l = some { cls:=.type "list",dict:=none,data:=.seq items m,slots:=sl })
    (h:Q (.ref (s.heap.objs.size + 1)) { s with heap:=(s.heap.push { cls:=.type "list_iterator",data:=.fields #[.ref l,.int 0 0] }).push { cls:=.type "enumerate",data:=.fields #[.none,.bool false,.ref s.heap.objs.size,rawInt 1,.none,.none] } }) :
    wpAny (model prog w) A (call (.type "enumerate") [.ref l] [("start",.int 1 t)]) Q E s:=by
  have ft:=F.called_enumerate
  obtain ⟨c,tl,hmro⟩:=ft.mro
  have hmade:=ft.made
  have hsub:=ft.sub
  have hct:=tc_enum (.ref l) (.int 1 t)
  refine wpAny_call (codeAny_of_tree (wpAny_pure (?_:_∧_)))
  refine ⟨Code.quiet_builtin _ (by decide +kernel),codeAny_builtin F.entry_type_call ?_⟩
  rw [Around.under_plain (weight_type_call_type "enumerate" _ _) (units_type_call_type "enumerate" _ _)]
  have h1:=ft.notType
  have h2:=ft.canCreate
  repeat (any_goals (first | wp_step | assumption))
  let s':Shared:={ s with heap:=(s.heap.push { cls:=.type "list_iterator",data:=.fields #[.ref l,.int 0 0] }).push { cls:=.type "enumerate",data:=.fields #[.none,.bool false,.ref s.heap.objs.size,rawInt 1,.none,.none] } }
  have key:codeAny (model prog w) A.in1 (.call (.builtin "enumerate.__new__") ⟨[.type "enumerate",.ref l],[("start",.int 1 t)]⟩) (fun r s1=>r = .ok (.ret (.ref (s.heap.objs.size + 1)))∧s1 = s') s:=
    codeAny_call_builtin ft.plain F.entry_enumerate_new (wpAny_of_eq (nc_enum _ _) (mt_enum l items m sl t prog w A.in1 (fun r s1=>r = .ok (.ret (.ref (s.heap.objs.size + 1)))∧s1 = s') s ⟨hl,rfl,rfl⟩))
  refine codeAny_mono key fun r s₁ hr=>?_
  obtain ⟨rfl,rfl⟩:=hr
  have hz:(s.heap.push { cls:=.type "list_iterator",data:=.fields #[.ref l,.int 0 0] }).objs.size = s.heap.objs.size + 1:=Heap.size_push ..
  have hT:s'.TypeIs (.ref (s.heap.objs.size + 1)) "enumerate":=⟨_,by rw [← hz]; exact Heap.get?_push_size _ rfl,rfl⟩
  have hq:Q (.ref (s.heap.objs.size + 1)) s':=h
  clear_value s'
  have hli:=ft.init.lookup
  have hbi:=ft.init.bind (.ref (s.heap.objs.size + 1))
  show wpAny _ _ _ _ _ _
  repeat (any_goals (first | wp_step | assumption))
  have key2:codeAny (model prog w) A.in1 (.call (.builtin "object.__init__") ⟨[.ref (s.heap.objs.size + 1),.ref l],[("start",.int 1 t)]⟩) (fun r s1=>r = .ok (.ret .none)∧s1 = s') s':=
    codeAny_call_builtin ft.init.plain F.entry_object_init (ft.init.check _ _ _ _ _ _ _ _ hT (ao_enum _ _ _) (oi_enum prog w A.in1 (fun r s1=>r = .ok (.ret .none)∧s1 = s') s' ⟨hT,rfl,rfl⟩))
  refine codeAny_mono key2 fun r s₂ hr=>?_
  obtain ⟨rfl,rfl⟩:=hr
  show wpAny _ _ _ _ _ _
  repeat (any_goals (first | wp_step | assumption))
theorem draws_from1 (hh:A.handled = none) (it l:Addr) (hne:l≠it) (items:Array Value) :
    Draws prog w A it [it,l] (items.size + 1) (fun j v=>∃ i,j = i + 1∧items[i]? = some v) (fun j h=>∃ i,j = i + 1∧h.IsListIter it l i∧h.IsList l items):=by
  have D:=Draws.list (prog:=prog) (w:=w) (A:=A) hh it l hne items
  refine ⟨fun j h ⟨i,_,st⟩=>D.live i h st,fun j h h' ⟨i,e,st⟩ hk=>⟨i,e,D.frame i h h' st hk⟩,fun j s Q E hj ⟨i,e,st⟩ hQ=>?_,fun s Q E ⟨i,e,st⟩ hE=>?_⟩
  · subst e
    exact D.item i s Q E (by omega) st fun x h' tk hx st' hs=>hQ x h' tk ⟨i,rfl,hx⟩ ⟨i + 1,rfl,st'⟩ hs
  · have e':i = items.size:=by omega
    subst e'
    exact D.done s Q E st hE
end
section
variable {X:Cx} {pins:List (Addr×Obj)} {σ:St} {H:Hp} {s:Shared} {h':Heap}
theorem Inv.turned2 {t':Nat} {e it T:Addr} {xs:List V} {us:List Value} (I:Inv X pins σ H s) (fe:FpOk X pins H e) (fi:FpOk X pins H it) (k:∀ b o,b≠e→b≠it→s.heap.get? b = some o→h'.get? b = some o)
    (hT:s.heap.objs.size≤T) (r:Vals xs us) (hz:xs.length≤sizeLine) (ht:IsTup h' T us.toArray):Inv X pins σ (upd H T (.tup xs)) { s with heap:=h',toks:=t' }:=by
  obtain ⟨e0,e1,e2,e3,e4,e5⟩:=fe
  obtain ⟨i0,i1,i2,i3,i4,i5⟩:=fi
  have hn:H T = none:=I.hok.fresh hT
  have nT:∀ b o,s.heap.get? b = some o→b≠T:=fun b o q=>Nat.ne_of_lt (Nat.lt_of_lt_of_le (Heap.lt_size q) hT)
  have kc:∀ b o,b ∉ [e,it]→s.heap.get? b = some o→h'.get? b = some o:=fun b o hb q=>k b o (fun z=>hb (by simp [z])) (fun z=>hb (by simp [z])) q
  have up:∀ b u,H b = some u→upd H T (.tup xs) b = some u:=fun b u q=>by rw [upd_ne (ne_of_none q hn)]; exact q
  refine I.step (g':=s.gens) (d':=s.drawn) (ch:=[e,it]) (fun b hb=>?_) (fun b o _ _ hc q _=>kc b o hc q) (fun b o _ _ hc q _=>⟨o.slots,kc b o hc q⟩) (fun b o _ q n=>by rw [upd_ne (nT b o q)]; exact n)
    (fun b o hc q=>⟨o,kc b o hc q⟩) (fun b ys q=>up b _ q) (fun b o u q=>up b _ q) (fun b ps q=>⟨#[],by rw [up b _ q]; simp⟩) (fun m hm=>?_) (fun b u q=>?_) I.bare
  · rcases List.mem_cons.mp hb with rfl | hb
    · exact ⟨e3,e1,e4,e5⟩
    · rw [List.mem_singleton.mp hb]; exact ⟨i3,i1,i4,i5⟩
  · obtain ⟨o,es,ep,ho,hr⟩:=hm
    exact ⟨o,es,ep,k _ o (Ne.symm e1) (Ne.symm i1) ho,hr⟩
  · by_cases hb:b = T
    · subst hb; rw [upd_same] at q; cases q; exact ⟨hz,us,r,ht⟩
    · rw [upd_ne hb] at q
      have nn:∀ c v,H c = some v→c≠e∧c≠it:=fun c v z=>⟨fun y=>(by rw [y,e0] at z; cases z),fun y=>(by rw [y,i0] at z; cases z)⟩
      refine (I.hok b u q).stay (fun c v hc z=>?_) (fun c z=>up c _ z) fun c ys z=>up c _ z
      rcases hc with y | y
      · subst y; exact k c v (nn c u q).1 (nn c u q).2 z
      · exact k c v (nn c _ y).1 (nn c _ y).2 z
theorem Inv.turned2n {t':Nat} {e it:Addr} (I:Inv X pins σ H s) (fe:FpOk X pins H e) (fi:FpOk X pins H it) (k:∀ b o,b≠e→b≠it→s.heap.get? b = some o→h'.get? b = some o):Inv X pins σ H { s with heap:=h',toks:=t' }:=by
  obtain ⟨e0,e1,e2,e3,e4,e5⟩:=fe
  obtain ⟨i0,i1,i2,i3,i4,i5⟩:=fi
  have kc:∀ b o,b ∉ [e,it]→s.heap.get? b = some o→h'.get? b = some o:=fun b o hb q=>k b o (fun z=>hb (by simp [z])) (fun z=>hb (by simp [z])) q
  refine I.step (g':=s.gens) (d':=s.drawn) (ch:=[e,it]) (fun b hb=>?_) (fun b o _ _ hc q _=>kc b o hc q) (fun b o _ _ hc q _=>⟨o.slots,kc b o hc q⟩) (fun b o _ q n=>n)
    (fun b o hc q=>⟨o,kc b o hc q⟩) (fun b ys q=>q) (fun b o u q=>q) (fun b ps q=>⟨#[],by rw [q]; simp⟩) (fun m hm=>?_) (fun b u q=>?_) I.bare
  · rcases List.mem_cons.mp hb with rfl | hb
    · exact ⟨e3,e1,e4,e5⟩
    · rw [List.mem_singleton.mp hb]; exact ⟨i3,i1,i4,i5⟩
  · obtain ⟨o,es,ep,ho,hr⟩:=hm
    exact ⟨o,es,ep,k _ o (Ne.symm e1) (Ne.symm i1) ho,hr⟩
  · have nn:∀ c v,H c = some v→c≠e∧c≠it:=fun c v z=>⟨fun y=>(by rw [y,e0] at z; cases z),fun y=>(by rw [y,i0] at z; cases z)⟩
    refine (I.hok b u q).stay (fun c v hc z=>?_) (fun c z=>z) fun c ys z=>z
    rcases hc with y | y
    · subst y; exact k c v (nn c u q).1 (nn c u q).2 z
    · exact k c v (nn c _ y).1 (nn c _ y).2 z
end
def Ite (K:PySem.W.Frag) (a:Addr):It:=
  ⟨fun i H=>∃ xs x,SqL K H a xs∧xs[i]? = some x,fun i H v H'=>∃ T x,H T = none∧v = .ref T∧(∀ xs,SqL K H a xs→xs[i]? = some x)∧H' = upd H T (.tup [.int ((i:Int) + 1),x]),fun i H=>∃ xs,SqL K H a xs∧xs.length = i⟩
theorem turn_enum {P:Program} {w:World} {K:PySem.W.Frag} {els:List Expr} {kk:Nat} {pp:Pos} (a e it:Addr) (hei:e≠it):Turn P w K (.Tuple els kk pp) (Ite K a) [e,it] e (fun i h=>(∃ old,IsEnum h e it ((i:Int) + 1) old)∧h.IsListIter it a i) where
  mem:=by simp
  obj:=fun i h st b hb=>by
    obtain ⟨⟨old,he⟩,o,ho,_,hd⟩:=st
    rcases List.mem_cons.mp hb with rfl | hb
    · exact ⟨_,he,fun v z=>by cases z⟩
    · rw [List.mem_singleton.mp hb]; exact ⟨o,ho,fun v z=>by rw [hd] at z; cases z⟩
  keep:=fun i h h' st hk=>by
    obtain ⟨⟨old,he⟩,o,ho,r⟩:=st
    exact ⟨⟨old,hk e (by simp) _ he⟩,o,hk it (by simp) o ho,r⟩
  item:=fun X hP hw hK hc i pins s σ H E I hf st hg=>by
    subst hP hw hK
    obtain ⟨xs,x,hq,hx⟩:=hg
    obtain ⟨its,rv,p,hz⟩:=I.list hq
    obtain ⟨⟨old,he⟩,hit⟩:=st
    have fe:=hf e (by simp)
    have fi:=hf it (by simp)
    obtain ⟨u,hu,ru⟩:=rv.get hx
    have il:=p.isList
    have nae:a≠e:=fun z=>by
      obtain ⟨o,ho,c1,_⟩:=il
      rw [z,he] at ho; cases ho; injection c1 with y; exact absurd y (by decide)
    have nai:a≠it:=fun z=>by
      obtain ⟨o,ho,c1,_⟩:=il
      obtain ⟨o2,ho2,c2,_⟩:=hit
      rw [z,ho2] at ho; cases ho; rw [c2] at c1; injection c1 with y; exact absurd y (by decide)
    have W:=WalksT.enumerateD (prog:=X.prog) (w:=X.w) (A:=X.A) (draws_from1 (prog:=X.prog) (w:=X.w) (A:=X.A.in1) (I.ok.hd hc) it a nai its.toArray) e hei (by simp [hei,Ne.symm nae]) (by simp)
    refine W.item (i + 1) s _ E (by have:=(List.getElem?_eq_some_iff.mp hu).1; simp; omega) ⟨⟨old,by simpa using he⟩,i,rfl,hit,il⟩ fun T vals h1 tk ⟨t,y,⟨i',ei,hy⟩,ev⟩ hT htu hm hk=>?_
    refine ⟨.ref T,rfl,W.go els kk pp (i + 1) T _ _ E hm fun h2 st2 hk2=>?_⟩
    obtain ⟨⟨old2,he2⟩,i2,e2,hit2,_⟩:=st2
    have e3:i' = i:=by omega
    have e4:i2 = i + 1:=by omega
    subst e3 e4 ev
    have ey:y = u:=by
      have q1:its.toArray[i']? = some u:=by simpa using hu
      exact Option.some.inj (hy.symm.trans q1)
    subst ey
    have hTw:T ∉ [e,it]:=W.apart _ _ _ hm
    have ht2:IsTup h2 T #[.int ((i':Int) + 1) t,y]:=by
      obtain ⟨o,ho,c⟩:=htu
      exact ⟨o,hk2 T o hTw ho,c⟩
    refine ⟨.ref T,upd H T (.tup [.int ((i':Int) + 1),x]),?_,rfl,⟨T,x,I.hok.fresh hT,rfl,fun zs hzs=>(by rw [I.list_inj hzs hq]; exact hx),rfl⟩,⟨⟨old2,by simpa using he2⟩,hit2⟩,fun b hb=>?_⟩
    · have I2:=I.turned2 (h':=h2) (t':=tk) (xs:=[.int ((i':Int) + 1),x]) (us:=[.int ((i':Int) + 1) t,y]) fe fi (fun b o b1 b2 q=>hk2 b o (by simp [b1,b2]) (hk b o (by simp [b1,b2]) q)) hT (.cons ⟨_,rfl⟩ (.cons ru .nil)) (by show 2≤sizeLine; decide) ht2
      exact I2
    · have nb:b≠T:=fun z=>hTw (z ▸ hb)
      rw [upd_ne nb]; exact (hf b hb).1
  done:=fun X hP hw hK hc i pins s σ H E I hf st hg=>by
    subst hP hw hK
    obtain ⟨xs,hq,hx⟩:=hg
    obtain ⟨its,rv,p,hz⟩:=I.list hq
    obtain ⟨⟨old,he⟩,hit⟩:=st
    have fe:=hf e (by simp)
    have fi:=hf it (by simp)
    have il:=p.isList
    have nae:a≠e:=fun z=>by
      obtain ⟨o,ho,c1,_⟩:=il
      rw [z,he] at ho; cases ho; injection c1 with y; exact absurd y (by decide)
    have nai:a≠it:=fun z=>by
      obtain ⟨o,ho,c1,_⟩:=il
      obtain ⟨o2,ho2,c2,_⟩:=hit
      rw [z,ho2] at ho; cases ho; rw [c2] at c1; injection c1 with y; exact absurd y (by decide)
    have W:=WalksT.enumerateD (prog:=X.prog) (w:=X.w) (A:=X.A) (draws_from1 (prog:=X.prog) (w:=X.w) (A:=X.A.in1) (I.ok.hd hc) it a nai its.toArray) e hei (by simp [hei,Ne.symm nae]) (by simp)
    have el:its.toArray.size + 1 = i + 1:=by rw [List.size_toArray,← rv.length,hx]
    refine W.done s _ E (by rw [el]; exact ⟨⟨old,by simpa using he⟩,i,rfl,hit,il⟩) fun h' tk hk=>⟨rfl,?_⟩
    exact I.turned2n (h':=h') (t':=tk) fe fi fun b o b1 b2 q=>hk b o (by simp [b1,b2]) q
  self:=fun A i s Q E st h=>by
    obtain ⟨⟨old,he⟩,_⟩:=st
    exact wpAny_pyIter_enum he h
theorem cw_type_kw {M:Model} {A:Around} {E:Value→Shared→Prop} {s:Shared} {pos:Pos} {T:String} {args:List (Bool×Sem Value)} {kws:List (Option Str×Sem Value)} {Q:Value→Shared→Prop} (hp:args.any (·.1) = false) (hk:kws.any (·.1.isNone) = false)
    (h:wpAny M A (evalArgs (.type T) true args kws) (fun z sz=>wpAny M A (call (.type T) z.pos z.kw) Q E sz) E s):wpAny M A (callWith pos (.type T) [] args kws) Q E s:=by
  unfold callWith
  refine wpAny_bind (wpAny_holding (wpAny_mono h (fun z sz hz=>wpAny_bind (wpAny_standAt ?_)) fun _ _ y=>y))
  simp only [hp,hk,Bool.or_false]
  refine wpAny_bind (wpAny_pure (wpAny_bind (wpAny_mono hz (fun v sv hv=>wpAny_bind (wpAny_holding (wpAny_point (wpAny_pure hv)))) fun _ _ y=>y)))
section
variable {X:Cx} {els:List Expr} {kk:Nat} {pp:Pos}
def iEnum (K:PySem.W.Frag) (ta:TA):TI:=fun σ H R=>ta σ H fun vs H1=>∃ a xs,vs = [.ref a]∧SqL K H1 a xs∧R (Ite K a) H1
theorem pi_enum {l:Expr} {ta:TA} {p pos kp cp:Pos} {j} (hg:Gl X "enumerate") (hm:X.mg "enumerate" = none) (ha:PA X [l] ta)
    (he:backTo pos (starEach [l] X.env) = (false,eval l X.env) :: backTo pos (starEach [] X.env):=by rfl)
    (hpl:(backTo pos (starEach [l] X.env)).any (·.1) = false:=by rfl) :
    PI X (.Tuple els kk pp) (.Call (.Name "enumerate" p) [l] [⟨some "start",.Constant (.int 1) j cp,kp⟩] pos) (iEnum X.K ta):=by
  intro pins s σ H R I h
  refine wpAny_Call_Name_kw (ld_blt I hg hm bt_enumerate (cw_type_kw hpl rfl ?_))
  have hsp:=ha pos pins s σ H _ I h
  rw [he] at hsp ⊢
  refine evalArgs_kwB rfl (thn hsp fun us s1 ⟨vs,H1,I1,r1,q1⟩=>?_)
  refine kws_cons (wpAny_Constant_int (kws_nil ?_))
  obtain ⟨a,xs,rfl,hq,q⟩:=q1
  obtain ⟨u,rfl,ru⟩:=vals1 r1
  cases ru
  have I2:=I1.tok (s1.toks + 1)
  obtain ⟨its,rv,⟨⟨oc,od,odt,sl⟩,m,pl,c1,c2,c3⟩,hz⟩:=I2.list hq
  simp only at c1 c2 c3
  subst c1 c2 c3
  refine call_enum (items:=its.toArray) (m:=m) (sl:=sl) pl ?_
  have hs:(s1.heap.push { cls:=.type "list_iterator",data:=.fields #[.ref a,.int 0 0] }).objs.size = s1.heap.objs.size + 1:=Heap.size_push ..
  have hE:IsEnum ((s1.heap.push { cls:=.type "list_iterator",data:=.fields #[.ref a,.int 0 0] }).push { cls:=.type "enumerate",data:=.fields #[.none,.bool false,.ref s1.heap.objs.size,rawInt 1,.none,.none] }) (s1.heap.objs.size + 1) s1.heap.objs.size 1 .none:=by
    rw [← hs]; exact Heap.get?_push_size _ rfl
  refine wpAny_pyIter_enum hE ?_
  refine ⟨s1.heap.objs.size + 1,[s1.heap.objs.size + 1,s1.heap.objs.size],_,Ite X.K a,H1,rfl,I2.kept (t':=s1.toks + 1) fun b o e=>Heap.get?_push_of_some _ (Heap.get?_push_of_some _ e),turn_enum a (s1.heap.objs.size + 1) s1.heap.objs.size (Nat.succ_ne_self _),⟨⟨_,hE⟩,_,Heap.get?_push_of_some _ (Heap.get?_push_size _ rfl),rfl,rfl⟩,fun b hb=>?_,q⟩
  rcases List.mem_cons.mp hb with rfl | hb
  · exact I2.fpOk (Nat.le_succ _) (I2.hok.fresh (Nat.le_succ _))
  · rw [List.mem_singleton.mp hb]; exact I2.fpOk (Nat.le_refl _) (I2.hok.fresh (Nat.le_refl _))
end
theorem comp_enum {K:PySem.W.Frag} {a:Addr} {xs:List V} {fr:List (Option Nat)} {i0 i1:Nat} {n:Nat} {te:TE} {Q:VK} {σ:St} {H:Hp} (f:Nat→V→V) (h1:H a = some (.lst xs)) (hn:xs.length≤1000000) (h2:n = 2)
    (helt:∀ (i:Nat) (x:V) (H':Hp) (R:VK),xs[i]? = some x→Same H H'→(∀ H'',Same H' H''→R (f i x) H'')→te (((stC fr σ).set i0 (some (.int ((i:Int) + 1)))).set i1 (some x)) H' R) (hne:i0≠i1)
    (hQ:∀ l H',H l = none→Same H H'→H' l = some (.lst ((List.range xs.length).map fun i=>f i (xs.getD i .non)))→Q (.ref l) H') :
    tCompK fr (gTup K n (gCons (gName i0) (gCons (gName i1) gNil))) tYes te σ Q (Ite K a) H:=by
  intro l hl
  have hal:a≠l:=ne_of_none h1 hl
  refine ⟨fun i m σ' H'=>m = xs.length - i∧i≤xs.length∧(∀ y z,(σ'.set i0 y).set i1 z = ((stC fr σ).set i0 y).set i1 z)∧Same H H'∧H' l = some (.lst ((List.range i).map fun i=>f i (xs.getD i .non))),⟨xs.length,by simp,Nat.zero_le _,fun _ _=>rfl,same_new hl _,by rw [upd_same]; rfl⟩,?_⟩
  rintro i m σ' H' ⟨rfl,hi,hσ,hs,hl'⟩
  have ha':=hs.get h1
  by_cases hlt:i < xs.length
  · refine .inr ⟨⟨xs,xs[i],SqL.of ha',by simp [hlt]⟩,?_⟩
    rintro x H'' ⟨T,y,hT,rfl,hy,rfl⟩
    have hyi:=hy xs (SqL.of ha')
    have st:=same_new hT (.tup [.int ((i:Int) + 1),y])
    subst h2
    refine ⟨T,_,rfl,SqT.of upd_same,rfl,_,_,rfl,_,_,rfl,rfl,?_⟩
    show te ((σ'.set i0 (some (.int ((i:Int) + 1)))).set i1 (some y)) _ _
    rw [hσ]
    refine helt i y _ _ hyi (hs.trans st) fun H4 s4=>?_
    refine ⟨_,s4.get (st.get hl'),smallLt (by rw [List.length_map,List.length_range]; omega),xs.length - (i + 1),by omega,rfl,hlt,fun y z=>?_,same_upd ((hs.trans st).trans s4) hl _,?_⟩
    · rw [List.set_comm _ _ (Ne.symm hne),List.set_set,List.set_set]
    · rw [upd_same,List.range_succ,List.map_append]
      simp [List.getD,hyi]
  · have e:i = xs.length:=by omega
    subst e
    exact .inl ⟨⟨xs,SqL.of ha',rfl⟩,hQ l H' hl hs hl'⟩
end L2
namespace L2
open PySem PySem.Spec PyProof.Rows
theorem pg_tupK {X:Cx} {K:PySem.W.Frag} {pos:Pos} {es:List Expr} {k:Nat} {t:TGs} {n:Nat} (hK:X.K = K) (hc:X.calm = true) (h:PGs X es t) (hn:(assignEach es X.env).length = n:=by rfl) (hs:(assignEach es X.env).findIdx? (·.1) = none:=by rfl):PG X (.Tuple es k pos) (gTup K n t):=by
  subst hK
  exact pg_tup hc h hn hs
section
variable {X:Cx}
end
theorem cut_last {xs:List V}:cutV xs none (some (-1)) = xs.dropLast:=by
  unfold cutV HT.sIx
  rw [List.dropLast_eq_take]
  simp only [List.drop_zero,Nat.sub_zero]
  rw [if_pos (by decide)]
  congr 1
  omega
end L2
namespace L2
open PySem PySem.Spec PyProof.Rows
section
variable {κ:Type} [DecidableEq κ]
def valV (kvs:List (κ×V)) (k:κ):Option V:=(kvs.find? fun kv=>decide (kv.1 = k)).map (·.2)
def putK (kvs:List (κ×V)) (k:κ) (v:V):List (κ×V):=
  if (kvs.any fun kv=>decide (kv.1 = k)) = true then kvs.map (fun kv=>if kv.1 = k then (kv.1,v) else kv) else kvs ++ [(k,v)]
def dropK (kvs:List (κ×V)) (k:κ):List (κ×V):=kvs.filter fun kv=>decide (kv.1≠k)
theorem valV_pos {p:κ×V} {r:List (κ×V)} {k:κ} (e:p.1 = k):valV (p :: r) k = some p.2:=by simp [valV,List.find?_cons,e]
theorem valV_neg {p:κ×V} {r:List (κ×V)} {k:κ} (e:¬ p.1 = k):valV (p :: r) k = valV r k:=by simp [valV,List.find?_cons,e]
theorem valV_any (k:κ):∀ kvs:List (κ×V),(kvs.any fun kv=>decide (kv.1 = k)) = (valV kvs k).isSome
  | []=>rfl
  | p :: r=>by
    rw [List.any_cons]
    by_cases e:p.1 = k
    · simp only [valV_pos e,decide_eq_true e,Bool.true_or,Option.isSome_some]
    · rw [valV_neg e,decide_eq_false e,Bool.false_or]; exact valV_any k r
theorem length_putK (kvs:List (κ×V)) (k:κ) (v:V):(putK kvs k v).length≤kvs.length + 1:=by
  unfold putK
  split
  · rw [List.length_map]; omega
  · rw [List.length_append,List.length_cons,List.length_nil]; omega
theorem RelO.isSome_eq {o:Option V} {u:Option Value} (r:RelO o u):o.isSome = u.isSome:=by
  cases o with
  | none=>cases u with
    | none=>rfl
    | some _=>exact (show False from r).elim
  | some _=>cases u with
    | none=>exact (show False from r).elim
    | some _=>rfl
theorem RelO.getD {o:Option V} {u:Option Value} {d:V} {d':Value} (r:RelO o u) (rd:RelV d d'):RelV (o.getD d) (u.getD d'):=by
  cases o with
  | none=>cases u with
    | none=>exact rd
    | some _=>exact (show False from r).elim
  | some _=>cases u with
    | none=>exact (show False from r).elim
    | some _=>exact r
theorem KV.val {kvs:List (κ×V)} {vs:List (κ×Value)} (r:KV kvs vs) (k:κ):RelO (valV kvs k) (valueAt vs k):=by
  unfold KV at r
  induction r with
  | nil=>exact True.intro
  | @cons p q ps qs h t ih=>
    obtain ⟨h1,h2⟩:=h
    by_cases e:p.1 = k
    · have e':q.1 = k:=h1.symm.trans e
      have b:valueAt (q :: qs) k = some q.2:=by simp [valueAt,List.find?_cons,e']
      rw [valV_pos e,b]; exact h2
    · have e':¬ q.1 = k:=fun z=>e (h1.trans z)
      have b:valueAt (q :: qs) k = valueAt qs k:=by simp [valueAt,List.find?_cons,e']
      rw [valV_neg e,b]; exact ih
theorem KV.any {kvs:List (κ×V)} {vs:List (κ×Value)} (r:KV kvs vs) (k:κ):(kvs.any fun kv=>decide (kv.1 = k)) = vs.any fun kv=>decide (kv.1 = k):=by
  unfold KV at r
  induction r with
  | nil=>rfl
  | cons h t ih=>rw [List.any_cons,List.any_cons,ih,h.1]
theorem KV.repl {kvs:List (κ×V)} {vs:List (κ×Value)} (r:KV kvs vs) (k:κ) {y:V} {u:Value} (ry:RelV y u) :
    KV (kvs.map fun kv=>if kv.1 = k then (kv.1,y) else kv) (vs.map fun kv=>if kv.1 = k then (kv.1,u) else kv):=by
  unfold KV at r ⊢
  induction r with
  | nil=>exact .nil
  | @cons p q ps qs h t ih=>
    rw [List.map_cons,List.map_cons]
    refine .cons ?_ ih
    obtain ⟨h1,h2⟩:=h
    by_cases e:p.1 = k
    · rw [if_pos e,if_pos (h1.symm.trans e)]; exact ⟨h1,ry⟩
    · rw [if_neg e,if_neg (fun z=>e (h1.trans z))]; exact ⟨h1,h2⟩
theorem KV.put {kvs:List (κ×V)} {vs:List (κ×Value)} (r:KV kvs vs) (k:κ) {y:V} {u:Value} (ry:RelV y u):KV (putK kvs k y) (stored vs k u):=by
  unfold putK stored
  rw [r.any k]
  by_cases e:(vs.any fun kv=>decide (kv.1 = k)) = true
  · rw [if_pos e,if_pos e]; exact r.repl k ry
  · rw [if_neg e,if_neg e]; exact Paired.snoc r ⟨rfl,ry⟩
theorem KV.drop {kvs:List (κ×V)} {vs:List (κ×Value)} (r:KV kvs vs) (k:κ):KV (dropK kvs k) (without vs k):=by
  unfold KV at r ⊢
  unfold dropK without
  induction r with
  | nil=>exact .nil
  | @cons p q ps qs h t ih=>
    obtain ⟨h1,h2⟩:=h
    rw [List.filter_cons,List.filter_cons]
    by_cases e:p.1 = k
    · have a:¬ decide (p.1≠k) = true:=by simp [e]
      have b:¬ decide (q.1≠k) = true:=by simp [h1.symm.trans e]
      rw [if_neg a,if_neg b]; exact ih
    · have e':¬ q.1 = k:=fun z=>e (h1.trans z)
      have a:decide (p.1≠k) = true:=by simp [e]
      have b:decide (q.1≠k) = true:=by simp [e']
      rw [if_pos a,if_pos b]; exact .cons ⟨h1,h2⟩ ih
theorem KV.length {kvs:List (κ×V)} {vs:List (κ×Value)} (r:KV kvs vs):kvs.length = vs.length:=Paired.length r
end
theorem kV_is {P:Program} {w:World} {k:Key} {u:Value} (r:RelV (kV k) u):(mixKind P w).is k u = true:=by
  cases k with
  | inl i=>obtain ⟨t,e⟩:=(show ∃ t,u = Value.int i t from r); subst e; exact mixKind_int P w i t
  | inr x=>obtain ⟨t,e⟩:=(show ∃ t,u = Value.str x t from r); subst e; exact mixKind_str P w x t
theorem items_are {P:Program} {w:World}:∀ {ks:List Key} {us:List Value},Vals (ks.map kV) us→ItemsAre (mixKind P w) ks us
  | [],_,r=>by rw [List.map_nil] at r; cases r; exact .nil
  | k :: ks,_,r=>by
    rw [List.map_cons] at r
    cases r with
    | cons h t=>exact .cons (kV_is h) (items_are t)
abbrev KT (H:Hp):List (List Key×V)→List (List Key×Addr×Value)→Prop:=Paired fun p q=>p.1 = q.1∧H q.2.1 = some (.tup (p.1.map kV))∧RelV p.2 q.2.2
theorem KT.val {H:Hp} {kvs:List (List Key×V)} {xs:List (List Key×Addr×Value)} (r:KT H kvs xs) (k:List Key):RelO (valV kvs k) ((atKey xs k).map (·.2)):=by
  induction r with
  | nil=>exact True.intro
  | @cons p q ps qs h t ih=>
    obtain ⟨h1,_,h2⟩:=h
    by_cases e:p.1 = k
    · have e':q.1 = k:=h1.symm.trans e
      have b:atKey (q :: qs) k = some q.2:=by simp [atKey,List.find?_cons,e']
      rw [valV_pos e,b]; exact h2
    · have e':¬ q.1 = k:=fun z=>e (h1.trans z)
      have b:atKey (q :: qs) k = atKey qs k:=by simp [atKey,List.find?_cons,e']
      rw [valV_neg e,b]; exact ih
theorem KT.repl {H:Hp} {kvs:List (List Key×V)} {xs:List (List Key×Addr×Value)} (r:KT H kvs xs) (k:List Key) {y:V} {u:Value} (ry:RelV y u) :
    KT H (kvs.map fun kv=>if kv.1 = k then (kv.1,y) else kv) (xs.map (putAt k u)):=by
  induction r with
  | nil=>exact .nil
  | @cons p q ps qs h t ih=>
    rw [List.map_cons,List.map_cons]
    refine .cons ?_ ih
    obtain ⟨h1,h2,h3⟩:=h
    unfold putAt
    by_cases e:p.1 = k
    · rw [if_pos e,if_pos (h1.symm.trans e)]; exact ⟨h1,h2,ry⟩
    · rw [if_neg e,if_neg (fun z=>e (h1.trans z))]; exact ⟨h1,h2,h3⟩
theorem KT.put {H:Hp} {kvs:List (List Key×V)} {xs:List (List Key×Addr×Value)} (r:KT H kvs xs) (k:List Key) {b:Addr} {y:V} {u:Value} (hb:H b = some (.tup (k.map kV))) (ry:RelV y u) :
    KT H (putK kvs k y) (storedH xs k b u):=by
  have e:(kvs.any fun kv=>decide (kv.1 = k)) = (atKey xs k).isSome:=by
    rw [valV_any,(r.val k).isSome_eq,Option.isSome_map]
  unfold putK storedH
  rw [e]
  by_cases q:(atKey xs k).isSome = true
  · rw [if_pos q,if_pos q]; exact r.repl k ry
  · rw [if_neg q,if_neg q]; exact Paired.snoc r ⟨rfl,hb,ry⟩
theorem KT.keeps {H H':Hp} {kvs:List (List Key×V)} {xs:List (List Key×Addr×Value)} (r:KT H kvs xs) (ht:∀ b ys,H b = some (.tup ys)→H' b = some (.tup ys)):KT H' kvs xs:=
  Paired.mapP r fun _ _ z=>⟨z.1,ht _ _ z.2.1,z.2.2⟩
section
variable {P:Program} {w:World} {H:Hp} {h:Heap} {a:Addr}
theorem rd_of {u:HO} (ok:HOk P w H h) (e:Rd H a u):ObjOk P w H h a u:=e.ok ok
theorem dk_rd {kvs:List (Key×V)} (ok:HOk P w H h) (e:Rd H a (.dK kvs)):kvs.length≤sizeLine∧(a == sysModules) = false∧∃ vs,KV kvs vs∧h.DictOf (mixKind P w) a vs:=
  show ObjOk P w H h a (.dK kvs) from rd_of ok e
theorem dk_of {kvs:List (Key×V)} (ok:HOk P w H h) (e:H a = some (.dK kvs)):kvs.length≤sizeLine∧(a == sysModules) = false∧∃ vs,KV kvs vs∧h.DictOf (mixKind P w) a vs:=dk_rd ok (.inl e)
theorem key_of {ks:List Key} (ok:HOk P w H h) (e:H a = some (.tup (ks.map kV))):(tupleKind (mixKind P w)).is h ks a:=by
  obtain ⟨_,its,r,o,h1,h2,n,h3⟩:=(show ObjOk P w H h a (.tup (ks.map kV)) from ok a _ e)
  exact ⟨o,its.toArray,n,h1,h2,h3,by simpa using items_are r⟩
theorem dt_rd {kvs:List (List Key×V)} (ok:HOk P w H h) (e:Rd H a (.dT kvs)):kvs.length≤sizeLine∧(a == sysModules) = false∧
    ∃ xs,KT H kvs xs∧h.DictOfH (tupleKind (mixKind P w)) a xs:=by
  obtain ⟨z,y,xs,r,o,es,ep,h1,h2,h3,h4,h5⟩:=(show ObjOk P w H h a (.dT kvs) from rd_of ok e)
  refine ⟨z,y,xs,r,o,es,ep,h1,h2,h3,h4,fun x hx=>?_,h5⟩
  have all:∀ {l:List (List Key×V)} {m:List (List Key×Addr×Value)},KT H l m→∀ x∈m,(tupleKind (mixKind P w)).is h x.1 x.2.1:=by
    intro l m q
    induction q with
    | nil=>intro x hx; exact nomatch hx
    | @cons p q ps qs hq t ih=>
      intro x hx
      rcases List.mem_cons.mp hx with e | hx
      · subst e
        exact key_of ok (by rw [← hq.1]; exact hq.2.1)
      · exact ih x hx
  exact all r x hx
theorem dt_of {kvs:List (List Key×V)} (ok:HOk P w H h) (e:H a = some (.dT kvs)):kvs.length≤sizeLine∧(a == sysModules) = false∧
    ∃ xs,KT H kvs xs∧h.DictOfH (tupleKind (mixKind P w)) a xs:=dt_rd ok (.inl e)
end
def DGet (H:Hp) (a:Addr) (y:V) (r:Option V):Prop:=
  (∃ kvs k,Rd H a (.dK kvs)∧y = kV k∧r = valV kvs k)∨∃ kvs k b,Rd H a (.dT kvs)∧y = .ref b∧H b = some (.tup (k.map kV))∧r = valV kvs k
def DPut (H:Hp) (a:Addr) (y v:V) (H':Hp):Prop:=
  (∃ kvs k,H a = some (.dK kvs)∧y = kV k∧kvs.length < sizeLine∧H' = upd H a (.dK (putK kvs k v)))∨
  ∃ kvs k b,H a = some (.dT kvs)∧y = .ref b∧H b = some (.tup (k.map kV))∧kvs.length < sizeLine∧H' = upd H a (.dT (putK kvs k v))
theorem DGet.k {H:Hp} {a:Addr} {kvs:List (Key×V)} {k:Key} (e:H a = some (.dK kvs)):DGet H a (kV k) (valV kvs k):=.inl ⟨kvs,k,.inl e,rfl,rfl⟩
theorem DGet.t {H:Hp} {a b:Addr} {kvs:List (List Key×V)} {k:List Key} (e:H a = some (.dT kvs)) (eb:H b = some (.tup (k.map kV))):DGet H a (.ref b) (valV kvs k):=.inr ⟨kvs,k,b,.inl e,rfl,eb,rfl⟩
theorem DPut.k {H:Hp} {a:Addr} {kvs:List (Key×V)} {k:Key} {v:V} (e:H a = some (.dK kvs)) (hl:kvs.length < sizeLine):DPut H a (kV k) v (upd H a (.dK (putK kvs k v))):=.inl ⟨kvs,k,e,rfl,hl,rfl⟩
theorem DPut.t {H:Hp} {a b:Addr} {kvs:List (List Key×V)} {k:List Key} {v:V} (e:H a = some (.dT kvs)) (eb:H b = some (.tup (k.map kV))) (hl:kvs.length < sizeLine) :
    DPut H a (.ref b) v (upd H a (.dT (putK kvs k v))):=.inr ⟨kvs,k,b,e,rfl,eb,hl,rfl⟩
section
variable {X:Cx} {pins:List (Addr×Obj)} {σ:St} {H:Hp} {s:Shared} {a:Addr} {y v:V} {u r:Value} {o:Option V} {A:Around} {E:Value→Shared→Prop}
theorem Inv.big (I:Inv X pins σ H s):sysModules < s.heap.objs.size:=by
  have h:mainGlobals < s.heap.objs.size:=(I.mod.glob.keeps I.bk).lt
  exact Nat.lt_trans (by decide) h
theorem d_getItem {Q:Value→Shared→Prop} (hu:A.units + 1 < cLine) (I:Inv X pins σ H s) (g:DGet H a y (some v)) (ry:RelV y u) (h:∀ w' s',Inv X pins σ H s'→RelV v w'→Q w' s') :
    wpAny (model X.prog X.w) A (getItem (.ref a) u) Q E s:=by
  rcases g with ⟨kvs,k,e,ey,l⟩ | ⟨kvs,k,b,e,ey,eb,l⟩
  · subst ey
    obtain ⟨z,hd,vs,rel,dd⟩:=dk_rd I.hok e
    obtain ⟨w',hw,rw'⟩:=RelO.some_of (v:=v) (o:=valueAt vs k) (by rw [l]; exact rel.val k)
    exact wpAny_getItem_of (kV_is ry) dd.mapOf hw (h w' _ (I.tok _) rw')
  · subst ey
    cases (show u = Value.ref b from ry)
    obtain ⟨z,hd,xs,rel,dd⟩:=dt_rd I.hok e
    obtain ⟨w',hw,rw'⟩:=RelO.some_of (v:=v) (o:=(atKey xs k).map (·.2)) (by rw [l]; exact rel.val k)
    obtain ⟨p,hp,hp2⟩:=Option.map_eq_some_iff.mp hw
    refine wpAny_getItem_heap (tupleKind_room_in1 hu) (key_of I.hok eb) dd hp ?_
    rw [hp2]
    exact h w' _ (I.tok _) rw'
theorem d_write {h':Heap} {t':Nat} {ob:HO} (I:Inv X pins σ H s) (mu:Mut (H a)) (hs:Heap.SameBut a s.heap h') (he:∃ q,h'.get? a = some q) (new:ObjOk X.prog X.w (upd H a ob) h' a ob) :
    Inv X pins σ (upd H a ob) { s with heap:=h',toks:=t' }:=
  I.write (x:=a) (e:=a) mu (.inl rfl) (fun b q hb z=>(hs.2 b hb).trans z) he new
theorem dk_new {P:Program} {w:World} {H':Hp} {h':Heap} {kvs:List (Key×V)} {vs:List (Key×Value)} (z:kvs.length≤sizeLine) (hd:(a == sysModules) = false) (rel:KV kvs vs) (dd:h'.DictOf (mixKind P w) a vs) :
    ObjOk P w H' h' a (.dK kvs):=⟨z,hd,vs,rel,dd⟩
theorem d_setItem {H':Hp} {Q:Unit→Shared→Prop} (hu:A.units + 1 < cLine) (I:Inv X pins σ H s) (g:DPut H a y v H') (ry:RelV y u) (rv:RelV v r) (h:∀ s',Inv X pins σ H' s'→Q () s') :
    wpAny (model X.prog X.w) A (setItem (.ref a) u r) Q E s:=by
  rcases g with ⟨kvs,k,e,ey,l,eH⟩ | ⟨kvs,k,b,e,ey,eb,l,eH⟩
  · subst ey eH
    obtain ⟨z,hd,vs,rel,dd⟩:=dk_of I.hok e
    have hz:vs.length≤sizeLine:=by rw [← rel.length]; exact z
    have hl:(putK kvs k v).length≤sizeLine:=by have:=length_putK kvs k v; omega
    refine wpAny_setItem_pairs (hsz:=hz) (kV_is ry) dd fun h' dd' hs=>h _ ?_
    have he:∃ q,h'.get? a = some q:=let ⟨q,_,_,hq,_⟩:=dd'; ⟨q,hq⟩
    exact d_write I (by rw [e]; exact True.intro) hs he (dk_new hl hd (rel.put k rv) dd')
  · subst ey eH
    cases (show u = Value.ref b from ry)
    obtain ⟨z,hd,xs,rel,dd⟩:=dt_of I.hok e
    have hz:xs.length≤sizeLine:=by rw [← Paired.length rel]; exact z
    have hl:(putK kvs k v).length≤sizeLine:=by have:=length_putK kvs k v; omega
    refine wpAny_setItem_heap (hsz:=hz) (tupleKind_room_in1 hu) (key_of I.hok eb) dd fun h' dd' hs=>h _ ?_
    obtain ⟨q,es,ep,hq,h2,h3,h4,_,h5⟩:=dd'
    refine d_write I (by rw [e]; exact True.intro) hs ⟨q,hq⟩ ⟨hl,hd,_,(rel.put k eb rv).keeps fun c ys ec=>?_,q,es,ep,hq,h2,h3,h4,h5⟩
    rw [upd_ne (ne_of ec e (fun z=>nomatch z))]
    exact ec
end
section
variable {X:Cx} {pins:List (Addr×Obj)} {σ:St} {H:Hp} {s:Shared} {a:Addr} {kvs:List (Key×V)} {k:Key} {u:Value} {A:Around} {E:Value→Shared→Prop}
end
def NoSl (i:Expr):Prop:=∀ ov iv,subscripted i false ov iv = operate [ov,iv] (getItem ov iv)
theorem subD_of {prog:Program} {w:World} {A:Around} {E:Value→Shared→Prop} {s:Shared} {env:Env} {value slice:Expr} {pos:Pos} {T id:String} {Q:Value→Shared→Prop}
    (hl:typeLookup (.type T) "__getitem__" = pure (some (.builtin id))) (hs:NoSl slice)
    (h:wpAny (model prog w) A (eval value env) (fun o s₁=>wpAny (model prog w) A (eval slice env) (fun i s₂=>s₂.TypeIs o T∧wpAny (model prog w) A (getItem o i) Q E s₂) E s₁) E s) :
    wpAny (model prog w) A (eval (.Subscript value slice pos) env) Q E s:=by
  refine Subscript_ (wpAny_mono h (fun o s₁ h₁=>wpAny_mono h₁ (fun i s₂ h₂=>?_) fun _ _ x=>x) fun _ _ x=>x)
  obtain ⟨hT,h₂⟩:=h₂
  unfold subscriptTail
  refine wpAny_bind ?_
  rw [getitemInPython_of_ne hT.not_modules]
  refine wpAny_bind (wpAny_specialOf hT hl ?_)
  have fin:wpAny (model prog w) A (subscripted slice false o i) (fun r s₃=>wpAny (model prog w) A (letTemporaryGo value o r >>= fun _=>pure r) Q E s₃) E s₂:=by
    rw [hs o i]
    exact wpAny_operating (wpAny_mono h₂ (fun r s₃ h₃=>wpAny_bind (wpAny_letTemporaryGo (wpAny_pure h₃))) fun _ _ x=>x)
  first
    | exact wpAny_pure (wpAny_bind fin)
    | exact wpAny_bind (wpAny_pure (wpAny_bind fin))
    | exact wpAny_bind fin
theorem dict_typeIs {X:Cx} {pins:List (Addr×Obj)} {σ:St} {H:Hp} {s:Shared} {a:Addr} {y:V} {o:Option V} (I:Inv X pins σ H s) (g:DGet H a y o):s.TypeIs (.ref a) "dict":=by
  rcases g with ⟨kvs,k,e,_,_⟩ | ⟨kvs,k,b,e,_,_,_⟩
  · obtain ⟨_,_,vs,_,dd⟩:=dk_rd I.hok e
    exact dd.typeIs
  · obtain ⟨_,_,xs,_,dd⟩:=dt_rd I.hok e
    exact dd.typeIs
def tDGet (td ty:TE):TE:=fun σ H Q=>td σ H fun x H1=>ty σ H1 fun y H2=>∃ a v,x = .ref a∧DGet H2 a y (some v)∧Q v H2
def sDPut (td ty tv:TE):TS:=fun D σ H=>tv σ H fun v H1=>td σ H1 fun x H2=>ty σ H2 fun y H3=>∃ a H4,x = .ref a∧DPut H3 a y v H4∧D.nx σ H4
section
variable {X:Cx} {o i e value:Expr} {pos pos' tpos:Pos} {td ty tv:TE}
theorem pe_dget (hu:X.A.units + 1 < cLine) (ho:PE X o td) (hi:PE X i ty) (hs:NoSl i):PE X (.Subscript o i pos) (tDGet td ty):=by
  intro pins s σ H Q I h
  refine subD_of PySem.F.slot_dict_getitem.lookup hs (thn (ho pins s σ H _ I h) fun u s1 ⟨x,H1,I1,rx,q1⟩=>thn (hi pins s1 σ H1 _ I1 q1) fun iv s2 ⟨y,H2,I2,ry,a,v,ex,g,q2⟩=>?_)
  subst ex
  obtain rfl:u = Value.ref a:=rx
  exact ⟨dict_typeIs I2 g,d_getItem hu I2 g ry fun w' s3 I3 rw'=>⟨v,H2,I3,rw',q2⟩⟩
theorem ps_dput (hu:X.A.units + 1 < cLine) (ho:PE X o td) (hi:PE X i ty) (hv:PE X value tv) (hs:swapsWith value (some (.Subscript o i pos')) pos.line X.env = pure false) :
    PS X (.Assign [.Subscript o i pos'] value pos) (sDPut td ty tv):=by
  intro pins s σ H D I h
  refine wpAny_Assign_Subscript (thn (hv pins s σ H _ I h) fun r s1 ⟨v,H1,I1,rv,q1⟩=>thn (ho pins s1 σ H1 _ I1 q1) fun u s2 ⟨x,H2,I2,rx,q2⟩=>thn (hi pins s2 σ H2 _ I2 q2) fun iv s3 ⟨y,H3,I3,ry,a,H4,ex,g,q3⟩=>?_) hs
  subst ex
  obtain rfl:u = Value.ref a:=rx
  exact d_setItem hu I3 g ry rv fun s4 I4=>⟨σ,H4,I4,q3⟩
end
theorem dk_empty {P:Program} {w:World} {H:Hp} (h:Heap) (hb:sysModules < h.objs.size):ObjOk P w H (h.push { cls:=.type "dict",data:=.dict #[] }) h.objs.size (.dK []):=
  ⟨Nat.zero_le _,beq_eq_false_iff_ne.mpr (Ne.symm (Nat.ne_of_lt hb)),[],.nil,Heap.DictOf.new h⟩
def tDNewK:TE:=fun _ H Q=>∀ p,H p = none→Q (.ref p) (upd H p (.dK []))
section
variable {X:Cx} {pos:Pos}
theorem pe_dnewK:PE X (.Dict [] [] pos) tDNewK:=fun pins s σ H Q I h=>
  wpAny_Dict_empty ⟨.ref s.heap.objs.size,_,I.laid (a:=s.heap.objs.size) (o:=.dK []) (t':=s.toks) (fun _ _ q=>Heap.get?_push_of_some _ q) (Nat.le_refl _) (dk_empty s.heap I.big),rfl,h _ (I.hok.fresh (Nat.le_refl _))⟩
end
structure M1 (X:Cx) (o:Expr) (m:Str) (apos:Pos) (e:Expr) (cpos:Pos):Prop where
  base:attributeBase o m X.env (eval o X.env) = eval o X.env
  few:((backTo cpos (starEach [e] X.env)).all (fun x=>!x.1) && (backToKw cpos (keywordEach [] X.env)).all (fun x=>x.1.isSome)
    && decide (([e]:List Expr).length + ([]:List Keyword).length + (if ([]:List Keyword).isEmpty then 0 else 1) < 30)) = true
  line:(apos.endLine == cpos.line) = true
  trees:backTo cpos (starEach [e] X.env) = [(false,eval e X.env)]
structure M2 (X:Cx) (o:Expr) (m:Str) (apos:Pos) (e f:Expr) (cpos:Pos):Prop where
  base:attributeBase o m X.env (eval o X.env) = eval o X.env
  few:((backTo cpos (starEach [e,f] X.env)).all (fun x=>!x.1) && (backToKw cpos (keywordEach [] X.env)).all (fun x=>x.1.isSome)
    && decide (([e,f]:List Expr).length + ([]:List Keyword).length + (if ([]:List Keyword).isEmpty then 0 else 1) < 30)) = true
  line:(apos.endLine == cpos.line) = true
  trees:backTo cpos (starEach [e,f] X.env) = [(false,eval e X.env),(false,eval f X.env)]
def IsD (H:Hp) (a:Addr):Prop:=(∃ kvs,Rd H a (.dK kvs))∨∃ kvs,Rd H a (.dT kvs)
theorem isD_at {X:Cx} {pins:List (Addr×Obj)} {σ:St} {H:Hp} {s:Shared} {a:Addr} (I:Inv X pins σ H s) (d:IsD H a) :
    s.TypeIs (.ref a) "dict"∧(∀ b,Value.ref a = .ref b→∃ ob,s.heap.get? b = some ob∧ob.dict = none)∧(a == sysModules) = false:=by
  rcases d with ⟨kvs,e⟩ | ⟨kvs,e⟩
  · obtain ⟨_,hd,vs,_,dd⟩:=dk_rd I.hok e
    refine ⟨dd.typeIs,fun b q=>?_,hd⟩
    cases q
    obtain ⟨ob,_,_,h1,h2,_⟩:=dd
    exact ⟨ob,h1,h2.2.1⟩
  · obtain ⟨_,hd,xs,_,dd⟩:=dt_rd I.hok e
    refine ⟨dd.typeIs,fun b q=>?_,hd⟩
    cases q
    obtain ⟨ob,_,_,h1,h2,_⟩:=dd
    exact ⟨ob,h1,h2.2.1⟩
section
variable {X:Cx} {pins:List (Addr×Obj)} {σ:St} {H:Hp} {s:Shared} {a:Addr} {y d:V} {u r:Value} {o:Option V} {A:Around} {E:Value→Shared→Prop}
theorem d_get1 {Q:Value→Shared→Prop} (hu:A.units + 1 < cLine) (I:Inv X pins σ H s) (g:DGet H a y o) (ry:RelV y u) (h:∀ w' s',Inv X pins σ H s'→RelV (o.getD .non) w'→Q w' s') :
    wpAny (model X.prog X.w) A (call (.builtin "dict.get") [.ref a,u]) Q E s:=by
  rcases g with ⟨kvs,k,e,ey,l⟩ | ⟨kvs,k,b,e,ey,eb,l⟩
  · subst ey
    obtain ⟨z,hd,vs,rel,dd⟩:=dk_rd I.hok e
    refine call_meetsIn PySem.F.slot_dict_get dd.typeIs PySem.F.entry_dict_get (PySem.F.args_dict_get_2 _ _) (meets_dict_get (mixKind X.prog X.w) a (kV_is ry) hd) ⟨_,dd.mapOf,h _ _ (I.tok _) ?_⟩
    rw [l]
    exact (rel.val k).getD rfl
  · subst ey
    cases (show u = Value.ref b from ry)
    obtain ⟨z,hd,xs,rel,dd⟩:=dt_rd I.hok e
    refine call_meetsIn PySem.F.slot_dict_get dd.typeIs PySem.F.entry_dict_get (PySem.F.args_dict_get_2 _ _) (meetsH_dict_get (tupleKind (mixKind X.prog X.w)) a b hd) ⟨tupleKind_room_in1 hu,k,xs,key_of I.hok eb,dd,h _ _ (I.tok _) ?_⟩
    rw [l]
    exact (rel.val k).getD rfl
end
def tDGet1 (td ty:TE):TE:=fun σ H Q=>td σ H fun x H1=>∃ a,x = .ref a∧IsD H1 a∧ty σ H1 fun y H2=>∃ o,DGet H2 a y o∧Q (o.getD .non) H2
section
variable {X:Cx} {o e f:Expr} {apos cpos:Pos} {td ty tx:TE}
theorem pe_dget1 (hu:X.A.units + 1 < cLine) (ho:PE X o td) (he:PE X e ty) (m:M1 X o "get" apos e cpos):PE X (.Call (.Attribute o "get" apos) [e] [] cpos) (tDGet1 td ty):=by
  intro pins s σ H Q I h
  refine wpAny_Call_method m.base m.few m.line PySem.F.plainAttrs_dict PySem.F.slot_dict_get PySem.F.type_dict_get (thn (ho pins s σ H _ I h) fun u s1 ⟨x,H1,I1,rx,a,ex,d,q1⟩=>?_)
  subst ex
  obtain rfl:u = Value.ref a:=rx
  obtain ⟨t1,t2,_⟩:=isD_at I1 d
  refine ⟨t1,t2,?_⟩
  rw [m.trees]
  refine Calls.callWith_builtin rfl (Calls.evalArgs_plain (Calls.spliced_cons (thn (he pins s1 σ H1 _ I1 q1) fun iv s2 ⟨y,H2,I2,ry,ov,g,q2⟩=>Calls.spliced_nil ?_)))
  exact d_get1 hu I2 g ry fun w' s3 I3 rw'=>⟨_,H2,I3,rw',q2⟩
end
section
variable {X:Cx} {pins:List (Addr×Obj)} {σ:St} {H:Hp} {s:Shared} {a:Addr} {kvs:List (Key×V)} {A:Around} {E:Value→Shared→Prop}
end
section
variable {X:Cx} {pins:List (Addr×Obj)} {σ:St} {H:Hp} {s:Shared} {a:Addr} {y:V} {u:Value} {A:Around} {E:Value→Shared→Prop}
end
end L2
namespace L2
open PySem PySem.Spec PyProof.Rows
section
variable {X:Cx}
def rCatT3 (K:PySem.W.Frag):R2:=fun x y H Q=>∃ a b xs ys,x = .ref a∧y = .ref b∧SqT K H a xs∧SqT K H b ys∧xs.length + ys.length≤sizeLine∧
  (xs = []→Q (.ref b) H)∧(xs≠[]→ys = []→Q (.ref a) H)∧(xs≠[]→ys≠[]→∀ p,H p = none→Q (.ref p) (upd H p (.tup (xs ++ ys))))
theorem op_catT3:OpR X (binaryOp .Add) (rCatT3 X.K):=by
  intro pins s σ H x y v u Q I rx ry h
  obtain ⟨a,b,xs,ys,rfl,rfl,ha,hb,hz,q0,q1,q2⟩:=h
  by_cases hx:xs = []
  · subst hx
    cases rx
    cases ry
    obtain ⟨its,r1,p1,_⟩:=I.tuple ha
    obtain ⟨its2,r2,p2,_⟩:=I.tuple hb
    cases r1
    obtain ⟨⟨cls,dd,data,sl⟩,ho,hc,n,hd⟩:=id p1
    obtain ⟨⟨cls2,dd2,data2,sl2⟩,ho2,hc2,n2,hd2⟩:=id p2
    simp only at hc hd hc2 hd2
    subst hc hd hc2 hd2
    exact concat_meets ⟨_,ho,rfl⟩ ⟨_,ho2,rfl⟩ noFill_tuple_add seq_tuple_add PySem.F.slot_tuple_add PySem.F.entry_tuple_add (PySem.F.args_tuple_add_2 _ _) (tuple_addW0 a b _ _ n n2 dd dd2 sl sl2 rfl) ⟨ho,ho2,.ref b,H,I,rfl,q0 rfl⟩
  · exact op_catT pins s σ H _ _ v u Q I rx ry ⟨a,b,xs,ys,rfl,rfl,ha,hb,hx,hz,q1 hx,q2 hx⟩
end
inductive Tr where
  | non
  | bl (b:Bool)
  | int (i:Int)
  | str (z:Str)
  | tup (ts:List Tr)
  | lst (ts:List Tr)
mutual
def Rep (F:Addr→Prop) (H:Hp):Tr→V→Prop
  | .non,v=>v = .non
  | .bl b,v=>v = .bl b
  | .int i,v=>v = .int i
  | .str z,v=>v = .str z
  | .tup ts,v=>∃ a vs,v = .ref a∧H a = some (.tup vs)∧Reps F H ts vs
  | .lst ts,v=>∃ a vs,v = .ref a∧F a∧H a = some (.lst vs)∧Reps F H ts vs
def Reps (F:Addr→Prop) (H:Hp):List Tr→List V→Prop
  | [],vs=>vs = []
  | t :: ts,vs=>∃ v us,vs = v :: us∧Rep F H t v∧Reps F H ts us
end
mutual
def Tr.dep:Tr→Nat
  | .tup ts=>1 + Tr.deps ts
  | .lst ts=>1 + Tr.deps ts
  | _=>1
def Tr.deps:List Tr→Nat
  | []=>0
  | t :: ts=>max (Tr.dep t) (Tr.deps ts)
end
mutual
def Tr.ok:Tr→Prop
  | .str z=>z.length≤1000
  | .tup ts=>ts.length≤1000∧Tr.oks ts
  | .lst ts=>ts.length≤1000∧Tr.oks ts
  | _=>True
def Tr.oks:List Tr→Prop
  | []=>True
  | t :: ts=>Tr.ok t∧Tr.oks ts
end
mutual
theorem Rep.same {F:Addr→Prop} {H H':Hp} (s:Same H H'):∀ (t:Tr) (v:V),Rep F H t v→Rep F H' t v
  | .non,_,h=>h
  | .bl _,_,h=>h
  | .int _,_,h=>h
  | .str _,_,h=>h
  | .tup ts,_,⟨a,vs,e,ha,hr⟩=>⟨a,vs,e,s.get ha,Reps.same s ts vs hr⟩
  | .lst ts,_,⟨a,vs,e,fa,ha,hr⟩=>⟨a,vs,e,fa,s.get ha,Reps.same s ts vs hr⟩
theorem Reps.same {F:Addr→Prop} {H H':Hp} (s:Same H H'):∀ (ts:List Tr) (vs:List V),Reps F H ts vs→Reps F H' ts vs
  | [],_,h=>h
  | t :: ts,_,⟨v,us,e,h1,h2⟩=>⟨v,us,e,Rep.same s t v h1,Reps.same s ts us h2⟩
end
theorem Reps.len {F:Addr→Prop} {H:Hp}:∀ (ts:List Tr) (vs:List V),Reps F H ts vs→vs.length = ts.length
  | [],_,h=>by rw [show _ = [] from h]; rfl
  | t :: ts,_,⟨v,us,e,_,h2⟩=>by rw [e,List.length_cons,List.length_cons,Reps.len ts us h2]
theorem Reps.get {F:Addr→Prop} {H:Hp}:∀ {ts:List Tr} {vs:List V},Reps F H ts vs→∀ {i:Nat} {v:V},vs[i]? = some v→∃ t,ts[i]? = some t∧Rep F H t v
  | [],_,h,i,v,hv=>by rw [show _ = [] from h] at hv; simp at hv
  | t :: ts,_,⟨w,us,e,h1,h2⟩,0,v,hv=>by
    rw [e] at hv
    cases (Option.some.inj hv)
    exact ⟨t,rfl,h1⟩
  | t :: ts,_,⟨w,us,e,h1,h2⟩,i + 1,v,hv=>by
    rw [e] at hv
    obtain ⟨t',e1,e2⟩:=Reps.get h2 (i:=i) (v:=v) (by simpa using hv)
    exact ⟨t',by simpa using e1,e2⟩
theorem Reps.append {F:Addr→Prop} {H:Hp}:∀ {ts us:List Tr} {vs ws:List V},Reps F H ts vs→Reps F H us ws→Reps F H (ts ++ us) (vs ++ ws)
  | [],us,_,ws,h,h2=>by rw [show _ = [] from h]; exact h2
  | t :: ts,us,_,ws,⟨w,vs,e,h1,hr⟩,h2=>by
    rw [e]
    exact ⟨w,vs ++ ws,rfl,h1,Reps.append hr h2⟩
theorem Reps.one {F:Addr→Prop} {H:Hp} {t:Tr} {v:V} (h:Rep F H t v):Reps F H [t] [v]:=⟨v,[],rfl,h,rfl⟩
theorem Rep.ok {F:Addr→Prop} {H:Hp}:∀ {t:Tr} {v:V},Rep F H t v→t.ok→Ok H v
  | .non,_,h,_=>by rw [show _ = V.non from h]; trivial
  | .bl _,_,h,_=>by rw [show _ = V.bl _ from h]; trivial
  | .int _,_,h,_=>by rw [show _ = V.int _ from h]; trivial
  | .str z,_,h,o=>by rw [show _ = V.str z from h]; exact o
  | .tup ts,_,⟨a,vs,e,ha,_⟩,_=>by rw [e]; exact .inr ⟨vs,ha⟩
  | .lst ts,_,⟨a,vs,e,_,ha,_⟩,_=>by rw [e]; exact .inl ⟨vs,ha⟩
section
variable {X:Cx} {pins:List (Addr×Obj)} {σ:St} {H:Hp} {s:Shared} {F G:Addr→Prop}
mutual
theorem rep_eq (I:Inv X pins σ H s):∀ (t:Tr) (A:Around) (v u:V) (vv uu:Value),A.units + t.dep < cLine→Rep F H t v→Rep G H t u→RelV v vv→RelV u uu→SeqAt.EqAt A s vv uu true
  | .non,A,v,u,vv,uu,_,h1,h2,r1,r2=>by
    rw [show v = V.non from h1] at r1; rw [show u = V.non from h2] at r2
    cases r1; cases r2
    exact SeqAt.EqAt.same _
  | .bl b,A,v,u,vv,uu,_,h1,h2,r1,r2=>by
    rw [show v = V.bl b from h1] at r1; rw [show u = V.bl b from h2] at r2
    cases r1; cases r2
    exact SeqAt.EqAt.same _
  | .int i,A,v,u,vv,uu,_,h1,h2,r1,r2=>by
    have:=eqAt_V (A:=A) (s:=s) r1 r2 (by rw [show v = V.int i from h1]; rfl) (by rw [show u = V.int i from h2]; rfl)
    rw [show v = V.int i from h1,show u = V.int i from h2] at this
    have e:eqV (V.int i) (V.int i) = true:=by rw [pure_eq rfl rfl]; simp
    rw [e] at this
    exact this
  | .str z,A,v,u,vv,uu,_,h1,h2,r1,r2=>by
    have:=eqAt_V (A:=A) (s:=s) r1 r2 (by rw [show v = V.str z from h1]; rfl) (by rw [show u = V.str z from h2]; rfl)
    rw [show v = V.str z from h1,show u = V.str z from h2] at this
    have e:eqV (V.str z) (V.str z) = true:=by rw [pure_eq rfl rfl]; simp
    rw [e] at this
    exact this
  | .tup ts,A,v,u,vv,uu,hA,⟨a,vs,e1,ha,hr1⟩,⟨b,us,e2,hb,hr2⟩,r1,r2=>by
    subst e1 e2
    cases r1; cases r2
    by_cases hab:a = b
    · subst hab; exact SeqAt.EqAt.same _
    have hA':A.units + (1 + Tr.deps ts) < cLine:=hA
    obtain ⟨its,rv1,p1,_⟩:=I.tuple (SqT.of (K:=X.K) ha)
    obtain ⟨its2,rv2,p2,_⟩:=I.tuple (SqT.of (K:=X.K) hb)
    have l1:=rv1.length.symm.trans (Reps.len ts vs hr1)
    have l2:=rv2.length.symm.trans (Reps.len ts us hr2)
    have q:=SeqAt.RcAt.tuples (A:=A) (s:=s) (e:=fun _=>true) p1 p2 (by omega) (fun j g1 g2=>reps_eq I ts A.in1 vs us its its2 (by show A.units + 1 + Tr.deps ts < cLine; omega) hr1 hr2 rv1 rv2 j (by simpa using g1) (by simpa using g2))
    have e:((List.range (min its.toArray.size its2.toArray.size)).all (fun _=>true) && its.toArray.size == its2.toArray.size) = true:=by
      simp [l1,l2]
    rw [e] at q
    exact SeqAt.EqAt.of_refs hab q
  | .lst ts,A,v,u,vv,uu,hA,⟨a,vs,e1,_,ha,hr1⟩,⟨b,us,e2,_,hb,hr2⟩,r1,r2=>by
    subst e1 e2
    cases r1; cases r2
    by_cases hab:a = b
    · subst hab; exact SeqAt.EqAt.same _
    have hA':A.units + (1 + Tr.deps ts) < cLine:=hA
    obtain ⟨its,rv1,p1,_⟩:=I.list (SqL.of (K:=X.K) ha)
    obtain ⟨its2,rv2,p2,_⟩:=I.list (SqL.of (K:=X.K) hb)
    have l1:=rv1.length.symm.trans (Reps.len ts vs hr1)
    have l2:=rv2.length.symm.trans (Reps.len ts us hr2)
    have q:=SeqAt.RcAt.lists (A:=A) (s:=s) (e:=fun _=>true) p1.isList p2.isList (by simp [l1,l2]) (by omega) (fun j g1 g2=>reps_eq I ts A.in1 vs us its its2 (by show A.units + 1 + Tr.deps ts < cLine; omega) hr1 hr2 rv1 rv2 j (by simpa using g1) (by simpa using g2))
    have e:((List.range its.toArray.size).all (fun _=>true)) = true:=by simp
    rw [e] at q
    exact SeqAt.EqAt.of_refs hab q
theorem reps_eq (I:Inv X pins σ H s):∀ (ts:List Tr) (A:Around) (vs us:List V) (its its2:List Value),A.units + Tr.deps ts < cLine→Reps F H ts vs→Reps G H ts us→Vals vs its→Vals us its2→∀ (j:Nat) (g1:j < its.length) (g2:j < its2.length),SeqAt.EqAt A s its[j] its2[j] true
  | [],A,vs,us,its,its2,_,h1,h2,r1,r2=>fun j g1 g2=>by
    rw [show vs = [] from h1] at r1
    cases r1
    simp at g1
  | t :: ts,A,vs,us,its,its2,hA,⟨v,vr,e1,a1,b1⟩,⟨u,ur,e2,a2,b2⟩,r1,r2=>by
    subst e1 e2
    have hA':A.units + max (Tr.dep t) (Tr.deps ts) < cLine:=hA
    cases r1 with
    | cons p1 q1=>
      cases r2 with
      | cons p2 q2=>
        intro j g1 g2
        cases j with
        | zero=>exact rep_eq I t A v u _ _ (by omega) a1 a2 p1 p2
        | succ j=>exact reps_eq I ts A vr ur _ _ (by omega) b1 b2 q1 q2 j (by simpa using g1) (by simpa using g2)
end
end
section
variable {X:Cx}
def rNeR:R2:=fun x y H Q=>∃ t F G,t.dep≤100∧Rep F H t x∧Rep G H t y∧Q (.bl false) H
theorem op_neR (hu:X.A.units + 150 < cLine):OpR X (compareOp .NotEq) rNeR:=by
  intro pins s σ H x y v u Q I rx ry h
  obtain ⟨t,F,G,hd,h1,h2,q⟩:=h
  have scal:∀ z:V,pureV z = true∨(∃ b,z = .bl b)→x = z→y = z→wpAny (model X.prog X.w) X.A (compareOp .NotEq v u) (EP X pins σ Q) X.xe s:=fun z hz e1 e2=>by
    refine op_ne pins s σ H x y v u Q I rx ry ⟨?_,?_⟩
    · subst e1 e2
      rcases hz with hz | ⟨b,rfl⟩
      · cases y <;> first | rfl | exact absurd (show false = true from hz) Bool.false_ne_true
      · rfl
    · rw [e1,e2]; simpa using q
  cases t with
  | non=>exact scal _ (.inl rfl) h1 h2
  | bl b=>exact scal _ (.inr ⟨b,rfl⟩) h1 h2
  | int i=>exact scal (.int i) (.inl rfl) h1 h2
  | str z=>exact scal (.str z) (.inl rfl) h1 h2
  | tup ts=>
    obtain ⟨a,vs,rfl,ha,hr1⟩:=h1
    obtain ⟨b,us,rfl,hb,hr2⟩:=h2
    cases rx; cases ry
    have hd':1 + Tr.deps ts≤100:=hd
    obtain ⟨its,rv1,p1,_⟩:=I.tuple (SqT.of (K:=X.K) ha)
    obtain ⟨its2,rv2,p2,_⟩:=I.tuple (SqT.of (K:=X.K) hb)
    have l1:=rv1.length.symm.trans (Reps.len ts vs hr1)
    have l2:=rv2.length.symm.trans (Reps.len ts us hr2)
    have q2:=SeqAt.RcNeAt.tuples (A:=X.A) (s:=s) (e:=fun _=>true) p1 p2 (by omega) (fun j g1 g2=>reps_eq I ts X.A.in1 vs us its its2 (by show X.A.units + 1 + Tr.deps ts < cLine; omega) hr1 hr2 rv1 rv2 j (by simpa using g1) (by simpa using g2))
    have e:(!((List.range (min its.toArray.size its2.toArray.size)).all (fun _=>true) && its.toArray.size == its2.toArray.size)) = false:=by
      simp [l1,l2]
    rw [e] at q2
    exact q2 _ _ _ _ ⟨.bl _,H,I,rfl,q⟩
  | lst ts=>
    obtain ⟨a,vs,rfl,_,ha,hr1⟩:=h1
    obtain ⟨b,us,rfl,_,hb,hr2⟩:=h2
    cases rx; cases ry
    have hd':1 + Tr.deps ts≤100:=hd
    obtain ⟨its,rv1,p1,_⟩:=I.list (SqL.of (K:=X.K) ha)
    obtain ⟨its2,rv2,p2,_⟩:=I.list (SqL.of (K:=X.K) hb)
    have l1:=rv1.length.symm.trans (Reps.len ts vs hr1)
    have l2:=rv2.length.symm.trans (Reps.len ts us hr2)
    have q2:=SeqAt.RcNeAt.lists (A:=X.A) (s:=s) (e:=fun _=>true) p1.isList p2.isList (by simp [l1,l2]) (by omega) (fun j g1 g2=>reps_eq I ts X.A.in1 vs us its its2 (by show X.A.units + 1 + Tr.deps ts < cLine; omega) hr1 hr2 rv1 rv2 j (by simpa using g1) (by simpa using g2))
    have e:(!(List.range its.toArray.size).all (fun _=>true)) = false:=by simp
    rw [e] at q2
    exact q2 _ _ _ _ ⟨.bl _,H,I,rfl,q⟩
end
mutual
theorem Rep.mono {F G:Addr→Prop} {H:Hp} (h:∀ a,F a→G a):∀ (t:Tr) (v:V),Rep F H t v→Rep G H t v
  | .non,_,q=>q
  | .bl _,_,q=>q
  | .int _,_,q=>q
  | .str _,_,q=>q
  | .tup ts,_,⟨a,vs,e,ha,hr⟩=>⟨a,vs,e,ha,Reps.mono h ts vs hr⟩
  | .lst ts,_,⟨a,vs,e,fa,ha,hr⟩=>⟨a,vs,e,h a fa,ha,Reps.mono h ts vs hr⟩
theorem Reps.mono {F G:Addr→Prop} {H:Hp} (h:∀ a,F a→G a):∀ (ts:List Tr) (vs:List V),Reps F H ts vs→Reps G H ts vs
  | [],_,q=>q
  | t :: ts,_,⟨v,us,e,h1,h2⟩=>⟨v,us,e,Rep.mono h t v h1,Reps.mono h ts us h2⟩
end
mutual
theorem Rep.upd {F:Addr→Prop} {H:Hp} {l:Addr} {us us':List V} (hl:H l = some (.lst us)) (nl:¬ F l):∀ (t:Tr) (v:V),Rep F H t v→Rep F (upd H l (.lst us')) t v
  | .non,_,q=>q
  | .bl _,_,q=>q
  | .int _,_,q=>q
  | .str _,_,q=>q
  | .tup ts,_,⟨a,vs,e,ha,hr⟩=>⟨a,vs,e,by rw [upd_ne (ne_of ha hl (by intro z; cases z))]; exact ha,Reps.upd hl nl ts vs hr⟩
  | .lst ts,_,⟨a,vs,e,fa,ha,hr⟩=>⟨a,vs,e,fa,by rw [upd_ne (show a≠l from fun z=>nl (by rw [← z]; exact fa))]; exact ha,Reps.upd hl nl ts vs hr⟩
theorem Reps.upd {F:Addr→Prop} {H:Hp} {l:Addr} {us us':List V} (hl:H l = some (.lst us)) (nl:¬ F l):∀ (ts:List Tr) (vs:List V),Reps F H ts vs→Reps F (L2.upd H l (.lst us')) ts vs
  | [],_,q=>q
  | t :: ts,_,⟨v,ur,e,h1,h2⟩=>⟨v,ur,e,Rep.upd hl nl t v h1,Reps.upd hl nl ts ur h2⟩
end
theorem itIs_tup {K:PySem.W.Frag} {a:Addr} {H:Hp} {xs:List V} (h:H a = some (.tup xs)):ItIs (Itt K a) H xs:=fun H' s i=>
  ⟨fun hi=>⟨xs,xs[i],SqT.of (s.get h),by simp [hi]⟩,fun x H'' y=>⟨y.1,fun _=>y.2 xs (SqT.of (s.get h))⟩,fun hi=>⟨xs,SqT.of (s.get h),hi⟩⟩
def Tr.ty:Tr→String
  | .non=>"NoneType"
  | .bl _=>"bool"
  | .int _=>"int"
  | .str _=>"str"
  | .tup _=>"tuple"
  | .lst _=>"list"
theorem Rep.tyN {F:Addr→Prop} {H:Hp}:∀ {t:Tr} {v:V},Rep F H t v→L2.tyN H v = t.ty
  | .non,_,h=>by rw [show _ = V.non from h]; rfl
  | .bl _,_,h=>by rw [show _ = V.bl _ from h]; rfl
  | .int _,_,h=>by rw [show _ = V.int _ from h]; rfl
  | .str z,_,h=>by rw [show _ = V.str z from h]; rfl
  | .tup ts,_,⟨a,vs,e,ha,_⟩=>by rw [e]; simp only [L2.tyN,ha]; rfl
  | .lst ts,_,⟨a,vs,e,_,ha,_⟩=>by rw [e]; simp only [L2.tyN,ha]; rfl
theorem hu9_of {A:Around} {k:Nat} (hr:Room k A):A.units + 150 < cLine:=by have:=hr.un; omega
section
variable {σ:St} {H:Hp} {m k:Nat} {te:TE} {ta:TA}
theorem Tr.oks_append:∀ {ts us:List Tr},Tr.oks ts→Tr.oks us→Tr.oks (ts ++ us)
  | [],_,_,h=>h
  | _ :: ts,_,h1,h2=>⟨h1.1,Tr.oks_append h1.2 h2⟩
theorem Tr.rep_ok {ts:List Tr} (h:Tr.oks ts):∀ n:Nat,Tr.oks (List.replicate n ts).flatten
  | 0=>trivial
  | n + 1=>by rw [List.replicate_succ,List.flatten_cons]; exact Tr.oks_append h (Tr.rep_ok h n)
end
end L2
namespace L2
open PySem PySem.Spec PyProof.Rows
def MDef (P:Program) (w:World) (K:PySem.W.Frag) (mg:Str→Option Value) (base:Heap) (k:Nat) (C:Addr) (m:Str) (ps:List Str) (sp:Sp):Prop:=
  ∃ (f:Addr) (fd:FuncData),FnOk P w K mg base CX0 k f fd ps sp∧Meth K C m f∧Binds K fd ps []
def CDef (P:Program) (w:World) (K:PySem.W.Frag) (mg:Str→Option Value) (base:Heap) (k:Nat) (C:Addr) (x:Str) (ps:List Str) (sp:Sp):Prop:=
  ∃ (f:Addr) (fd:FuncData),FnOk P w K mg base CX0 k f fd ps sp∧Mk K C f∧mg x = some (.ref C)∧Binds K fd ps []
section
variable {X:Cx} {k:Nat} {x m:Str} {C:Addr} {ps:List Str} {sp:Sp} {e o:Expr} {es:List Expr} {t:TA} {ta:TE} {p apos pos:Pos}
theorem pe_cls (D:CDef X.prog X.w X.K X.mg X.base k C x ps sp) (hr:Room (k + 1) X.A) (hg:Gl X x) (ha:PA X (e :: es) t)
    (hdb:(x == ("__debug__":Str)) = false:=by decide) (he:starEach (e :: es) X.env = (false,eval e X.env) :: starEach es X.env:=by rfl) (hpl:(backTo pos (starEach es X.env)).any (·.1) = false:=by rfl) :
    PE X (.Call (.Name x p) (e :: es) [] pos) (tMake C sp [] E0 t):=by
  obtain ⟨f,fd,F,M,hm,hb⟩:=D
  exact pe_make M F hr hg hm hb .nil pass0 ha hdb he hpl
theorem pe_mth {pl:Sem Bool} (ho:PE X o ta) (c:Cls X.K C) (D:MDef X.prog X.w X.K X.mg X.base k C m ps sp) (hr:Room k X.A) (ha:PA X (e :: es) t)
    (hst:starEach (e :: es) X.env = (false,eval e X.env) :: starEach es X.env:=by rfl) (hpl:(backTo pos (starEach es X.env)).any (·.1) = false:=by rfl)
    (ht:eval (.Call (.Attribute o m apos) (e :: es) [] pos) X.env = (do
      let ov ← eval o X.env
      standAt apos.atName
      let (f,first) ← holding [ov] (getMethod ov m pl)
      callWith pos f first (backTo pos (starEach (e :: es) X.env)) (backToKw pos (keywordEach [] X.env))):=by rfl) :
    PE X (.Call (.Attribute o m apos) (e :: es) [] pos) (tMeth C m sp [] E0 ta t):=by
  obtain ⟨f,fd,F,M,hb⟩:=D
  exact pe_meth ho c M F hr hb .nil pass0 ha hst hpl ht
theorem pe_mth0 {pl:Sem Bool} (ho:PE X o ta) (c:Cls X.K C) (D:MDef X.prog X.w X.K X.mg X.base k C m ps sp) (hr:Room k X.A)
    (ht:eval (.Call (.Attribute o m apos) [] [] pos) X.env = (do
      let ov ← eval o X.env
      standAt apos.atName
      let (f,first) ← holding [ov] (getMethod ov m pl)
      callWith pos f first (backTo pos (starEach [] X.env)) (backToKw pos (keywordEach [] X.env))):=by rfl) :
    PE X (.Call (.Attribute o m apos) [] [] pos) (tMeth C m sp [] E0 ta tNil):=by
  obtain ⟨f,fd,F,M,hb⟩:=D
  exact pe_meth0 ho c M F hr hb .nil pass0 ht
end
end L2
namespace L2
open PySem PySem.Spec PyProof.Rows
theorem relV_key {P:Program} {w:World} {k:Key} {u:Value} (h:(mixKind P w).is k u = true):RelV (kV k) u:=by
  rcases keyIs_shape h with ⟨i,t,rfl,rfl⟩ | ⟨x,t,rfl,rfl⟩
  · exact ⟨t,rfl⟩
  · exact ⟨t,rfl⟩
section
variable {X:Cx} {tg:Expr}
end
end L2
namespace L2
open PySem PySem.Spec PyProof.Rows
section
variable {X:Cx}
structure M0 (X:Cx) (o:Expr) (m:Str) (apos cpos:Pos):Prop where
  base:attributeBase o m X.env (eval o X.env) = eval o X.env
  few:((backTo cpos (starEach [] X.env)).all (fun x=>!x.1) && (backToKw cpos (keywordEach [] X.env)).all (fun x=>x.1.isSome)
    && decide (([]:List Expr).length + ([]:List Keyword).length + (if ([]:List Keyword).isEmpty then 0 else 1) < 30)) = true
  line:(apos.endLine == cpos.line) = true
  trees:backTo cpos (starEach [] X.env) = []
end
theorem seq_mid {t u:TS} {D:Ends} {σ:St} {H:Hp} (M:St→Hp→Prop) (h1:∀ N:St→Hp→Prop,(∀ σ' H',M σ' H'→N σ' H')→t { D with nx:=N } σ H) (h2:∀ σ' H',M σ' H'→u D σ' H'):tSeq t u D σ H:=h1 (u D) h2
theorem comp_st {J:It} {xs:List V} {fr:List (Option Nat)} {k:Nat} {te:TE} {Q:VK} {σ:St} {H:Hp} (I:Nat→List V→Addr→Hp→Prop) (hn:xs.length≤1000000)
    (hJ:∀ i ys l H',I i ys l H'→(i < xs.length→J.go i H')∧(∀ x H'',J.yld i H' x H''→H'' = H'∧(i < xs.length→xs[i]? = some x))∧(xs.length≤i→J.stop i H'))
    (h0:∀ l,H l = none→I 0 [] l (upd H l (.lst [])))
    (step:∀ (i:Nat) (x:V) (ys:List V) (l:Addr) (H':Hp) (R:VK),xs[i]? = some x→H l = none→H' l = some (.lst ys)→ys.length = i→I i ys l H'→(∀ y H'',H'' l = some (.lst ys)→I (i + 1) (ys ++ [y]) l (upd H'' l (.lst (ys ++ [y])))→R y H'')→te ((stC fr σ).set k (some x)) H' R)
    (hQ:∀ l H' (ys:List V),H l = none→H' l = some (.lst ys)→ys.length = xs.length→I xs.length ys l H'→Q (.ref l) H'):tCompK fr (gName k) tYes te σ Q J H:=by
  intro l hl
  refine ⟨fun i m σ' H'=>m = xs.length - i∧i≤xs.length∧(∀ y,σ'.set k y = (stC fr σ).set k y)∧∃ ys:List V,H' l = some (.lst ys)∧ys.length = i∧I i ys l H',⟨xs.length,by simp,Nat.zero_le _,fun _=>rfl,[],upd_same,rfl,h0 l hl⟩,?_⟩
  rintro i m σ' H' ⟨rfl,hi,hσ,ys,hl',hlen,hI⟩
  obtain ⟨h1,h2,h3⟩:=hJ i ys l H' hI
  by_cases hlt:i < xs.length
  · refine .inr ⟨h1 hlt,fun x H'' y=>?_⟩
    obtain ⟨rfl,hx⟩:=h2 x H'' y
    have hx:=hx hlt
    show te (σ'.set k (some x)) H'' _
    rw [hσ]
    refine step i x ys l H'' _ hx hl hl' hlen hI fun y H4 hl4 hI4=>?_
    exact ⟨ys,hl4,smallLt (by omega),xs.length - (i + 1),by omega,rfl,hlt,fun y=>by rw [List.set_set],ys ++ [y],upd_same,by rw [List.length_append,hlen]; rfl,hI4⟩
  · have e:i = xs.length:=by omega
    subst e
    exact .inl ⟨h3 (Nat.le_refl _),hQ l H' ys hl hl' hlen hI⟩
theorem itr_go {lo:Int} {n i:Nat} {H:Hp}:(i < ((List.range n).map fun (i:Nat)=>V.int (lo + (i:Int))).length→(Itr lo n).go i H)∧(∀ x H'',(Itr lo n).yld i H x H''→H'' = H∧(i < ((List.range n).map fun (i:Nat)=>V.int (lo + (i:Int))).length→((List.range n).map fun (i:Nat)=>V.int (lo + (i:Int)))[i]? = some x))∧(((List.range n).map fun (i:Nat)=>V.int (lo + (i:Int))).length≤i→(Itr lo n).stop i H):=by
  rw [List.length_map,List.length_range]
  refine ⟨fun h=>h,fun x H'' y=>⟨y.1,fun h=>?_⟩,fun h=>h⟩
  rw [List.getElem?_map,List.getElem?_range h,y.2]; rfl
end L2
namespace L2
open PySem PySem.Spec PyProof.Rows
theorem ObjOk.get {P:Program} {w:World} {H:Hp} {h:Heap} {a:Addr} {o:HO} (x:ObjOk P w H h a o):∃ ob,h.get? a = some ob:=by
  cases o with
  | lst xs=>obtain ⟨_,_,_,_,e⟩:=x; exact ⟨_,e⟩
  | tup xs=>obtain ⟨_,_,_,ob,e,_⟩:=x; exact ⟨_,e⟩
  | dK kvs=>obtain ⟨_,_,_,_,o,_,_,e,_⟩:=x; exact ⟨_,e⟩
  | dT kvs=>obtain ⟨_,_,_,_,o,_,_,e,_⟩:=x; exact ⟨_,e⟩
  | set S n=>obtain ⟨o,_,_,_,e,_⟩:=x; exact ⟨_,e⟩
  | ins C dx fs=>obtain ⟨_,_,_,e,_⟩:=x; exact ⟨_,e⟩
  | own y=>obtain ⟨_,e⟩:=x; exact ⟨_,e⟩
  | xd fs=>obtain ⟨_,⟨_,_,_,e,_⟩,_⟩:=x; exact ⟨_,e⟩
  | rng lo hi=>obtain ⟨_,_,_,e⟩:=x; exact ⟨_,e⟩
  | frz ob u=>obtain ⟨e,_⟩:=x; exact ⟨_,e⟩
  | tbl ps=>exact ⟨_,x⟩
  | met f y=>exact ⟨_,x⟩
  | ext φ=>obtain ⟨_,e,_⟩:=x; exact e
structure Fly (P:Program) (w:World) (outer:List Env) (H:Hp) (s:Shared) (ea:Addr) (cls:Value) (H':Hp) (B:Heap) (a0:Value) (s':Shared):Prop where
  os:s'.os = s.os
  bare:AllBare s'.gens
  un:Un (frs outer) [] H H' s.heap s'.heap
  hok:HOk P w H' B
  fl:Heap.FlyingW B outer ea cls a0 s'.heap
  kp:∀ b o,s.heap.get? b = some o→H b = none→b ∉ frs outer→B.get? b = some o
  th:∀ b o,s.heap.get? b = some o→b ∉ frs outer→∃ o',B.get? b = some o'
def CXd (P:Program) (w:World):CXT:=fun outer H s E e s'=>∃ (ea:Addr) (cls:Value) (H':Hp) (B:Heap) (a0:Value),e = .ref ea∧Fly P w outer H s ea cls H' B a0 s'∧E cls none H'
section
variable {P:Program} {w:World} {outer:List Env} {H H':Hp} {s s':Shared} {ea:Addr} {cls a0:Value} {B h' base:Heap}
theorem Fly.stay (F:Fly P w outer H s ea cls H' B a0 s') (hl:s.heap.FunFrames base outer) (hn:∀ b∈frs outer,H b = none) (sB:B.StaysIn h') (up:s'.heap.UpToSlots h'):Un (frs outer) [] H H' s.heap h':=by
  have sl:∀ b o,s.heap.get? b = some o→b∈frs outer→∃ sl,h'.get? b = some { o with slots:=sl }:=fun b o q hb=>by
    obtain ⟨z,e⟩:=F.un.slot b o q (hn b hb) hb (by simp)
    obtain ⟨_,o',ho',hd⟩:=hl.mem hb
    rw [q] at ho'
    cases ho'
    exact up b { o with slots:=z } e hd
  refine ⟨fun b o q n hb _=>sB b o (F.kp b o q n hb),fun b o q _ hb _=>sl b o q hb,F.un.free,fun b o q _=>?_,F.un.tups,F.un.frzs,F.un.tbls⟩
  by_cases hb:b∈frs outer
  · obtain ⟨z,e⟩:=sl b o q hb
    exact ⟨_,e⟩
  · obtain ⟨o',e⟩:=F.th b o q hb
    exact ⟨o',sB b o' e⟩
theorem Fly.free (F:Fly P w outer H s ea cls H' B a0 s'):H' ea = none:=by
  cases e:H' ea with
  | none=>rfl
  | some u=>
    obtain ⟨ob,q⟩:=(F.hok ea u e).get
    rw [F.fl.2.1] at q
    cases q
end
section
variable {X:Cx} {pins:List (Addr×Obj)} {σ:St} {H H':Hp} {s s':Shared} {ea:Addr} {cls a0:Value} {B h':Heap}
theorem Inv.landed (I:Inv X pins σ H s) (F:Fly X.prog X.w X.stack H s ea cls H' B a0 s') (sB:B.StaysIn h') (up:s'.heap.UpToSlots h'):Inv X pins σ H' { s' with heap:=h' }:=
  I.call' (s':={ s' with heap:=h' }) (ch:=[]) F.os (F.stay I.stack I.stkFree sB up) (F.hok.kept sB) F.bare (fun b z=>nomatch z)
theorem Inv.hid (I:Inv X pins σ H s):HOk X.prog X.w H (PySem.W.hideAll s.heap (frs X.stack)):=fun b u e=>by
  refine (I.hok b u e).stay (fun c v hc q=>PySem.W.hideAll_get _ q fun z=>?_) (fun _ q=>q) fun _ _ q=>q
  have:=I.stkFree c z
  rcases hc with rfl | hc
  · rw [e] at this; cases this
  · rw [hc] at this; cases this
theorem Inv.hidFrames (I:Inv X pins σ H s):s.heap.FunFrames (PySem.W.hideAll s.heap (frs X.stack)) X.stack:=
  PySem.W.funFrames_hide I.stack fun env he a ha=>List.mem_filterMap.mpr ⟨env,he,ha⟩
theorem Inv.made1 {h1:Heap} {vs:List Value} {l:List Env} {t':Nat} (I:Inv X pins σ H s) (hx:Heap.MadeExcOf s.heap h1 ea cls vs) (fl:Heap.FlyingW (PySem.W.hideAll s.heap (frs X.stack)) l ea cls a0 h') (up:h1.UpToSlots h') :
    Un (frs X.stack) [] H H s.heap h':=by
  have sl:∀ b o,s.heap.get? b = some o→b∈frs X.stack→∃ sl,h'.get? b = some { o with slots:=sl }:=fun b o q hb=>by
    obtain ⟨_,o',ho',hd⟩:=I.stack.mem hb
    rw [q] at ho'
    cases ho'
    exact up b _ (hx.keeps b o q) hd
  refine ⟨fun b o q _ hb _=>fl.1 b o (PySem.W.hideAll_get _ q hb),fun b o q _ hb _=>sl b o q hb,fun b o _ n _=>n,fun b o q _=>?_,fun _ _ e=>e,fun _ _ _ e=>e,fun b ps e=>⟨#[],by rw [e]; simp⟩⟩
  by_cases hb:b∈frs X.stack
  · obtain ⟨z,e⟩:=sl b o q hb
    exact ⟨_,e⟩
  · exact ⟨o,fl.1 b o (PySem.W.hideAll_get _ q hb)⟩
end
def RUp (X:Cx) (E:XK):Prop:=∀ (pins:List (Addr×Obj)) (σ:St) (H:Hp) (s:Shared) (cls:Value) (h1:Heap) (ea:Addr) (vs:List Value),Inv X pins σ H s→Heap.MadeExcOf s.heap h1 ea cls vs→E cls none H→X.xe (.ref ea) { s with heap:=h1 }
section
variable {P:Program} {w:World} {K:PySem.W.Frag} {mg:Str→Option Value} {base:Heap} {N:List Str} {qual:Str} {scope:Scope} {f:Addr} {cd:Value} {A:Around} {outer:List Env} {s:Shared} {H:Hp} {E:XK}
theorem apart_up {pins:List (Addr×Obj)} {σ:St} {H1:Hp} {s1:Shared} (I:Inv (cxOf (CXd P w) P w K mg base N qual scope f cd A outer s H E) pins σ H1 s1) {b:Addr} {o:Obj} (q:s.heap.get? b = some o) (hb:b ∉ frs outer) :
    b ∉ frs (envOfC qual scope s.heap.objs.size f cd :: outer):=fun z=>by
  rcases List.mem_cons.mp (I.stkSub b z) with e | e
  · have h1:s.heap.objs.size≤b:=by rw [e]; exact I.ok.above
    exact absurd (Nat.lt_of_lt_of_le (Heap.lt_size q) h1) (Nat.lt_irrefl _)
  · exact hb e
theorem pass_up:Passes (CXd P w) (cxOf (CXd P w) P w K mg base N qual scope f cd A outer s H E) E:=by
  intro pins σ H1 s1 e s2 I h
  obtain ⟨ea,cls,H',B,a0,rfl,F,q⟩:=h
  have hfr:=I.ok.frames
  refine wpAny_leaves_onW (L:=s.heap.objs.size) hfr rfl F.fl fun h' fl' up=>?_
  have un:=F.stay I.stack I.stkFree fl'.1 up
  have J:=I.call' (s':={ s2 with heap:=h' }) (ch:=[]) F.os un (F.hok.kept fl'.1) F.bare (fun b z=>nomatch z)
  refine ⟨ea,cls,H',B,a0,rfl,⟨J.os,F.bare,J.base,F.hok,fl',fun b o e n hb=>?_,fun b o e hb=>?_⟩,q⟩
  · exact F.kp b o (I.base.keep b o e n hb (by intro z; cases z)) (I.base.free b o e n (by intro z; cases z)) (apart_up I e hb)
  · obtain ⟨o1,e1⟩:=I.base.there b o e (by intro z; cases z)
    exact F.th b o1 e1 (apart_up I e hb)
theorem raise_up:RUp (cxOf (CXd P w) P w K mg base N qual scope f cd A outer s H E) E:=by
  intro pins σ H1 s1 cls h1 ea vs I hx q
  have hfr:=I.ok.frames
  refine wpAny_leaves_madeW (base:=PySem.W.hideAll s1.heap (frs (envOfC qual scope s.heap.objs.size f cd :: outer))) (h:=s1.heap) (L:=s.heap.objs.size) hfr rfl (fun b o e=>PySem.W.of_hideAll _ e) I.hidFrames hx fun h' t fl' _ _ up=>?_
  have un:=I.made1 (t':=s1.toks) hx fl' up
  have J:=I.call' (s':={ s1 with heap:=h' }) (ch:=[]) rfl un (I.hid.kept fl'.1) I.bare (fun b z=>nomatch z)
  refine ⟨ea,cls,H1,_,_,rfl,⟨J.os,I.bare,J.base,I.hid,fl',fun b o e n hb=>?_,fun b o e hb=>?_⟩,q⟩
  · exact PySem.W.hideAll_get _ (I.base.keep b o e n hb (by intro z; cases z)) (apart_up I e hb)
  · obtain ⟨o1,e1⟩:=I.base.there b o e (by intro z; cases z)
    exact ⟨o1,PySem.W.hideAll_get _ e1 (apart_up I e hb)⟩
end
abbrev bmVE:List Value:=[.type "ValueError",.type "Exception",.type "BaseException",.type "object"]
theorem exc_obj {K:PySem.W.Frag} {h:Heap} {C:Addr} (Kh:K.In h) (q:PySem.W.excIn K C bmVE "ValueError.__new__" = true) :
    ∃ bm N nm qn bs hd sn sub ab col dd k0 k1 k2 k3 k5 mN,h.get? C = some (excClassObj nm qn C N bs bm hd sn sub ab col dd k0 k1 k2 k3 k5 "ValueError.__new__")∧h.Ns N mN∧mN "__init__" = none∧OwnTail h bmVE bm:=by
  unfold PySem.W.excIn at q
  split at q
  · rename_i dx ck slots found
    split at q
    · rename_i C0 tl p0 p1 p2 p3 made p5 em es
      rw [Bool.and_eq_true,Bool.and_eq_true,Bool.and_eq_true,Bool.and_eq_true,Bool.and_eq_true] at q
      obtain ⟨⟨⟨⟨⟨z1,z2⟩,z3⟩,z4⟩,z5⟩,z6⟩:=q
      have y1:C0 = C:=beq_iff_eq.mp z1
      have y2:made = "ValueError.__new__":=beq_iff_eq.mp z2
      have y3:ck.hasDel = false:=by simpa using z3
      subst y1 y2
      obtain ⟨nm,bs,mro,ns,qn,hd,sn,sub,ab,col,del⟩:=ck
      simp only at em y3 z5 z6
      subst em y3
      have es':slots = #[p0,p1,p2,p3,some (.builtin "ValueError.__new__"),p5]:=by
        obtain ⟨l⟩:=slots
        simp only at es
        rw [es]
      subst es'
      exact ⟨tl,ns,nm,qn,bs,hd,sn,sub,ab,col,dx,p0,p1,p2,p3,p5,_,Kh _ _ found,.of_isNs (PySem.W.isNs_of_in Kh z5),PySem.W.nsMap_none_of_in Kh z5 (beq_iff_eq.mp z6),PySem.W.tail_of_in Kh z4⟩
    · cases q
  · cases q
section
variable {X:Cx} {E:XK} {x:Str} {C:Addr} {np cpos pos:Pos}
theorem ps_raise0 (R:RUp X E) (hc:X.calm = true) (hm:X.mg x = some (.ref C)) (hq:PySem.W.excIn X.K C bmVE "ValueError.__new__" = true) (hg:Gl X x) (hd:(x == ("__debug__":Str)) = false:=by decide) :
    PS X (.Raise (some (.Call (.Name x np) [] [] cpos)) none pos) (fun _ _ H=>E (.ref C) none H):=by
  intro pins s σ H D I h
  obtain ⟨tl,N,nm,q,bs,hdct,sn,sub,ab,col,dd,k0,k1,k2,k3,k5,mN,hC,hN,hni,T⟩:=exc_obj I.kIn hq
  refine wpAny_Raise_call_subT (C:=C) (nm:=nm) (q:=q) (N:=N) (bs:=bs) (bm:=tl) (hdct:=hdct) (sn:=sn) (sub:=sub) (ab:=ab) (col:=col) (dd:=dd) (k0:=k0) (k1:=k1) (k2:=k2) (k3:=k3) (k5:=k5)
    PySem.F.excBase_ValueError (mN:=mN) (T.hasType PySem.F.excBase_ValueError.hasBase) (I.ok.hd hc) rfl hni (ld_glob I hg hm ⟨rfl,?_⟩ hd)
  exact evalArgs_empty ⟨rfl,Nat.zero_le _,hC,hN,T,fun h' e hx=>R pins σ H s (.ref C) h' e [] I hx h⟩
end
abbrev XS:=Value→St→Hp→Prop
abbrev TX:=Ends→XS→St→Hp→Prop
def XP (X:Cx) (pins:List (Addr×Obj)) (Ex:XS) (e:Value) (s':Shared):Prop:=
  ∃ (ea:Addr) (cls:Value) (σ':St) (H1 H':Hp) (s1:Shared) (B:Heap) (a0:Value),e = .ref ea∧Inv X pins σ' H1 s1∧Fly X.prog X.w X.stack H1 s1 ea cls H' B a0 s'∧Ex cls σ' H'
def PX (X:Cx) (st:Stmt) (t:TX):Prop:=
  ∀ (pins:List (Addr×Obj)) (s:Shared) (σ:St) (H:Hp) (D:Ends) (Ex:XS),Inv X pins σ H s→t D Ex σ H→wpAny (model X.prog X.w) X.A (exec st X.env) (SP X pins D) (XP X pins Ex) s
def PXs (X:Cx) (st:List Stmt) (t:TX):Prop:=
  ∀ (pins:List (Addr×Obj)) (s:Shared) (σ:St) (H:Hp) (D:Ends) (Ex:XS),Inv X pins σ H s→t D Ex σ H→wpAny (model X.prog X.w) X.A (execs st X.env) (SP X pins D) (XP X pins Ex) s
def PEX (X:Cx) (e:Expr) (t:(Value→Hp→Prop)→TE):Prop:=
  ∀ (pins:List (Addr×Obj)) (s:Shared) (σ:St) (H:Hp) (Q:VK) (Ex:Value→Hp→Prop),Inv X pins σ H s→t Ex σ H Q→wpAny (model X.prog X.w) X.A (eval e X.env) (EP X pins σ Q) (XP X pins fun cls σ' H'=>σ' = σ∧Ex cls H') s
section
variable {X:Cx} {st:Stmt} {rest:List Stmt} {e:Expr} {pos:Pos}
theorem px_lift {t:TS} (h:PS X.nox st t):PX X st (fun D _=>t D):=fun pins s σ H D Ex I q=>
  wpAny_mono (h pins s σ H D (I.wish _) q) (fun _ _ z=>z.unwish) fun _ _ z=>False.elim z
theorem pxs_one {t:TX} (h1:PX X st t):PXs X [st] t:=by
  intro pins s σ H D Ex I h
  refine wpAny_execs_cons (thn (h1 pins s σ H D Ex I h) fun f s1 q=>?_)
  cases f with
  | next=>exact wpAny_execs_nil q
  | ret v=>exact q
  | brk=>exact q
  | cont=>exact q
theorem xp_of {pins:List (Addr×Obj)} {σ:St} {Ex:XS} {v:Value} {s:Shared} (h:XP X pins (fun cls σ' H'=>σ' = σ∧Ex cls σ H') v s):XP X pins Ex v s:=by
  obtain ⟨ea,cls,σ',H1,H',s1,B,a0,h1,h2,h3,h4,h5⟩:=h
  subst h4
  exact ⟨ea,cls,_,H1,H',s1,B,a0,h1,h2,h3,h5⟩
def xDrop (te:(Value→Hp→Prop)→TE):TX:=fun D Ex σ H=>te (fun cls H'=>Ex cls σ H') σ H fun _ H1=>D.nx σ H1
theorem px_expr {te:(Value→Hp→Prop)→TE} (he:PEX X e te) (hs:swapsWith e none pos.line X.env = pure false:=by rfl):PX X (.Expr e pos) (xDrop te):=by
  intro pins s σ H D Ex I h
  exact wpAny_Expr_any (wpAny_mono (he pins s σ H _ _ I h) (fun v s1 ⟨x,H1,I1,r1,q1⟩=>⟨σ,H1,I1,q1⟩) fun _ _ z=>xp_of z) I.quiet hs
end
def DefX (P:Program) (w:World) (K:PySem.W.Frag) (mg:Str→Option Value) (base:Heap) (k:Nat) (x:Str) (ps:List Str) (sp:Sp):Prop:=
  ∃ (f:Addr) (fd:FuncData),FnOk P w K mg base (CXd P w) k f fd ps sp∧mg x = some (.ref f)∧PySem.W.keepIn K (.ref f) = true∧Binds K fd ps []
def MDefX (P:Program) (w:World) (K:PySem.W.Frag) (mg:Str→Option Value) (base:Heap) (k:Nat) (C:Addr) (m:Str) (ps:List Str) (sp:Sp):Prop:=
  ∃ (f:Addr) (fd:FuncData),FnOk P w K mg base (CXd P w) k f fd ps sp∧Meth K C m f∧Binds K fd ps []
theorem Fun.okX {P:Program} {w:World} {K:PySem.W.Frag} {mg:Str→Option Value} {base:Heap} {x qual:Str} {st:Stmt} {f:Addr} {fd:FuncData} {N ps:List Str} {k:Nat} {sp:Sp} (F:Fun K x qual st f fd) (S:FnScope N ps (defScope st)) (len:∀ vs H Q E,sp vs H Q E→vs.length = ps.length)
    (hbody:∀ (cdv:Value) (A:Around) (outer:List Env) (s:Shared) (H:Hp) (vs:List V) (Q:VK) (E:XK),Room k (A.deeper (envOfC qual (defScope st) s.heap.objs.size f cdv))→sp vs H Q E→
      ∃ t,PSs (cxOf (CXd P w) P w K mg base N qual (defScope st) f cdv A outer s H E) (defBody st) t∧t { nx:=fun _ H'=>Q .non H',rt:=Q } (start N vs) H):FnOk P w K mg base (CXd P w) (k + 1) f fd ps sp:=by
  obtain ⟨oc,od,kV,doc,pm,an,cdv,ct,osl,rfl,lk,hcd⟩:=F.ex
  exact fn_of lk hcd S len fun A outer s H vs Q E hr hsp=>hbody cdv A outer s H vs Q E hr hsp
section
variable {X:Cx} {k:Nat} {x m:Str} {C:Addr} {ps:List Str} {sp:Sp} {E:XK} {e o:Expr} {es:List Expr} {t:TA} {ta:TE} {p pos apos:Pos}
theorem pe_mthX {pl:Sem Bool} (ho:PE X o ta) (c:Cls X.K C) (D:MDefX X.prog X.w X.K X.mg X.base k C m ps sp) (hr:Room k X.A) (hx:Passes (CXd X.prog X.w) X E) (ha:PA X (e :: es) t)
    (hst:starEach (e :: es) X.env = (false,eval e X.env) :: starEach es X.env:=by rfl) (hpl:(backTo pos (starEach es X.env)).any (·.1) = false:=by rfl)
    (ht:eval (.Call (.Attribute o m apos) (e :: es) [] pos) X.env = (do
      let ov ← eval o X.env
      standAt apos.atName
      let (f,first) ← holding [ov] (getMethod ov m pl)
      callWith pos f first (backTo pos (starEach (e :: es) X.env)) (backToKw pos (keywordEach [] X.env))):=by rfl) :
    PE X (.Call (.Attribute o m apos) (e :: es) [] pos) (tMeth C m sp [] E ta t):=by
  obtain ⟨f,fd,F,hm,hb⟩:=D
  exact pe_meth ho c hm F hr hb .nil hx ha hst hpl ht
theorem run_fnX {CX:CXT} {f:Addr} {fd:FuncData} {pins:List (Addr×Obj)} {σ:St} {H:Hp} {s:Shared} {Q:VK} {us:List Value} {vs:List V} {Ex:Value→Hp→Prop} (F:FnOk X.prog X.w X.K X.mg X.base (CXd X.prog X.w) k f fd ps sp) (hr:Room k X.A) (hb:Binds X.K fd ps [])
    (I:Inv X pins σ H s) (r:Vals vs us) (h:sp (vs ++ []) H Q fun cls _ H'=>Ex cls H'):wpAny (model X.prog X.w) X.A (call (.ref f) us) (EP X pins σ Q) (XP X pins fun cls σ' H'=>σ' = σ∧Ex cls H') s:=by
  rw [List.append_nil] at h
  have hl:us.length = ps.length:=by rw [← r.length]; exact F.len _ _ _ _ h
  have hb':=hb s us I.kIn (by rw [List.append_nil]; exact hl)
  rw [List.append_nil] at hb'
  refine wpAny_call (codeAny_mono (F.run X.A X.stack s H ⟨us,[]⟩ us vs Q _ hr I.env0 hb' r h) fun r s' hq=>?_)
  cases r with
  | error e=>
    obtain ⟨ea,cls,H',B,a0,he,Fl,q⟩:=hq
    exact ⟨ea,cls,σ,H,H',s,B,a0,he,I,Fl,rfl,q⟩
  | ok fl=>
    cases fl with
    | ret u=>exact I.after hq
    | next=>exact False.elim hq
    | brk=>exact False.elim hq
    | cont=>exact False.elim hq
theorem pex_fn (D:DefX X.prog X.w X.K X.mg X.base k x ps sp) (hr:Room k X.A) (hg:Gl X x) (ha:PA X.nox (e :: es) t)
    (hdb:(x == ("__debug__":Str)) = false:=by decide) (he:starEach (e :: es) X.env = (false,eval e X.env) :: starEach es X.env:=by rfl) (hpl:(backTo pos (starEach es X.env)).any (·.1) = false:=by rfl) :
    PEX X (.Call (.Name x p) (e :: es) [] pos) (fun Ex=>tCall sp [] (fun cls _ H'=>Ex cls H') t):=by
  obtain ⟨f,fd,F,hm,hk,hb⟩:=D
  intro pins s σ H Q Ex I h
  refine wpAny_Call_Name_kw (ld_glob I hg hm ?_ hdb)
  refine PySem.W.callWith_K (h₀:=X.base) I.ok.mod.kin hk (wpAny_mono (ha pos pins s σ H _ (I.wish _) h) (fun us s1 ⟨vs,H1,I1,r,q⟩=>⟨I1.kIn,?_⟩) fun _ _ z=>False.elim z) he hpl
  exact run_fnX (CX:=CXd X.prog X.w) F hr hb I1.unwish r q
end
def Cx.held (X:Cx) (e:Value):Cx:={ X with A:=X.A.mark (some e),calm:=false,xe:=fun _ _=>False }
section
variable {X:Cx} {pins:List (Addr×Obj)} {σ:St} {H:Hp} {s:Shared} {e:Value}
theorem Inv.held (I:Inv X pins σ H s) (e:Value):Inv (X.held e) pins σ H s:=
  ⟨⟨I.ok.mod,I.ok.kind,I.ok.glob,I.ok.blt,I.ok.above,I.ok.inj,I.ok.has,I.ok.cab,(fun z=>nomatch z),I.ok.frames,I.ok.stk,I.ok.exf,I.ok.bs,I.ok.bsz,I.ok.noex,I.ok.exfs,I.ok.funs,I.ok.frf⟩,I.os,I.bare,I.base,I.loc,I.cell,I.free,I.freeC,I.pin,I.hok,I.len⟩
theorem Inv.unheld (J:Inv X pins σ H s) {σ':St} {H':Hp} {s':Shared} (I:Inv (X.held e) pins σ' H' s'):Inv X pins σ' H' s':=
  ⟨J.ok,I.os,I.bare,I.base,I.loc,I.cell,I.free,I.freeC,I.pin,I.hok,I.len⟩
theorem SP.unheld (J:Inv X pins σ H s) {D:Ends} {f:Flow} {s':Shared} (h:SP (X.held e) pins D f s'):SP X pins D f s':=by
  cases f with
  | next=>obtain ⟨σ',H',I,q⟩:=h; exact ⟨σ',H',J.unheld I,q⟩
  | brk=>obtain ⟨σ',H',I,q⟩:=h; exact ⟨σ',H',J.unheld I,q⟩
  | cont=>obtain ⟨σ',H',I,q⟩:=h; exact ⟨σ',H',J.unheld I,q⟩
  | ret u=>obtain ⟨v,σ',H',I,r,q⟩:=h; exact ⟨v,σ',H',J.unheld I,r,q⟩
end
section
variable {X:Cx} {x:Str} {c:Value} {body orelse suite:List Stmt} {b₀:Stmt} {np hpos pos:Pos}
def tTry (K:PySem.W.Frag) (c:Value) (tb:TX) (te ts:TS):TS:=fun D σ H=>tb { D with nx:=te D } (fun cls σ' H'=>PySem.W.exmOne K cls c = some true∧ts D σ' H') σ H
theorem ps_try {tb:TX} {te ts:TS} (hst:X.stack = X.env :: X.outer∧X.env.frame = some X.env.locals) (hm:X.mg x = some c) (hg:Gl X x) (hb:PXs X body tb) (he:PSs X orelse te) (hs:∀ e,PSs (X.held e) (b₀ :: suite) ts)
    (hd:(x == ("__debug__":Str)) = false:=by decide):PS X (.Try body [.ExceptHandler (some (.Name x np)) none (b₀ :: suite) hpos] orelse [] pos) (tTry X.K c tb te ts):=by
  intro pins s σ H D I h
  refine wpAny_Try_except (wpAny_mono (hb pins s σ H _ _ I h) (fun f s1 q=>?_) fun e s1 q=>?_)
  · cases f with
    | next=>
      obtain ⟨σ',H',I',q⟩:=q
      exact he pins s1 σ' H' D I' q
    | ret v=>exact q
    | brk=>exact q
    | cont=>exact q
  · obtain ⟨ea,cls,σ',H1,H',s2,B,a0,rfl,I2,F,hx,q⟩:=q
    have hfr:=I.ok.frames
    have fl:=F.fl
    rw [hst.1] at hfr fl
    refine wpAny_looks_onW hfr hst.2 fl fun h4 held4 up4=>?_
    refine wpAny_landsW held4 fun h5 fl5 up5=>?_
    have J5:=I2.landed F fl5.1 (up4.trans up5)
    refine wpAny_handleBy_cons (codeAny_handlers_test (ld_glob (J5.held (.ref ea)) hg hm ?_ hd)) (by intro z; cases z)
    obtain ⟨ob,hob,hcls⟩:=fl5.there
    have LT:PySem.W.Looks (model X.prog X.w) h5 (typeOf (.ref ea)) cls:=by
      subst hcls
      exact (PySem.W.Looks.ld hob).andThen .now
    refine (PySem.W.exm_one J5.kIn LT hx).here ?_
    refine codeAny_handlers_suite (lands_againW fl5 fun h6 fl6 up6=>?_)
    have J6:=I2.landed F fl6.1 ((up4.trans up5).trans up6)
    exact wpAny_mono (hs (.ref ea) pins _ σ' H' D (J6.held (.ref ea)) q) (fun f s7 z=>z.unheld J6) fun _ _ z=>False.elim z
end
end L2
namespace L2
open PySem PySem.Spec PyProof.Rows
section
variable {X:Cx}
end
end L2
namespace L2
open PySem PySem.Spec PyProof.Rows
section
variable {X:Cx}
end
end L2
namespace L2
open PySem PySem.Spec PyProof.Rows
section
variable {prog:Program} {w:World} {A:Around} {E:Value→Shared→Prop} {s:Shared} {it t:Addr} {i:Nat} {its:Array Value} {Q:Value→Shared→Prop}
end
structure ZA (z TI TO i1 i2:Addr) (f1 f2:List Addr):Prop where
  TIz:TI≠z
  TOz:TO≠z
  i1z:i1≠z
  i2z:i2≠z
  TITO:TI≠TO
  TIi1:TI≠i1
  TIi2:TI≠i2
  TOi1:TO≠i1
  TOi2:TO≠i2
  i12:i1≠i2
  z1:z ∉ f1
  o1:TO ∉ f1
  j1:i2 ∉ f1
  z2:z ∉ f2
  o2:TO ∉ f2
  j2:i1 ∉ f2
section
variable {prog:Program} {w:World} {A:Around} {E:Value→Shared→Prop} {s:Shared} {z TI TO i1 i2:Addr} {f1 f2:List Addr} {n i:Nat} {P1 P2:Nat→Value→Prop} {St1 St2:Nat→Heap→Prop} {a b:Value}
end
section
variable {prog:Program} {w:World} {A:Around} {E:Value→Shared→Prop} {s:Shared} {z TI TO i1 i2:Addr} {f1 f2:List Addr} {n i:Nat} {P1 P2:Nat→Value→Prop} {St1 St2:Nat→Heap→Prop} {a b:Value}
end
section
variable {X:Cx} {pins:List (Addr×Obj)} {σ:St} {H:Hp} {s:Shared} {h':Heap}
end
section
variable {X:Cx} {els:List Expr} {kk:Nat} {pp:Pos}
end
theorem pe_bmK {X:Cx} {K:PySem.W.Frag} {T:String} {name:Str} {id:String} {r:V→List V→Hp→VK→Prop} {o e:Expr} {es:List Expr} {to:TE} {t:TA} {apos cpos:Pos} (hK:X.K = K) (pa:PlainAttrs T) (slot:Slot T name id) (hty:typeOf (.builtin id) = pure (.type "method_descriptor")) (hm:MtR X id r) (ho:PE X o to) (ha:PA X (e :: es) t)
    (hbase:attributeBase o name X.env (eval o X.env) = eval o X.env:=by rfl)
    (hfew:((backTo cpos (starEach (e :: es) X.env)).all (fun x=>!x.1) && (backToKw cpos (keywordEach [] X.env)).all (fun x=>x.1.isSome)
      && decide ((e :: es).length + ([]:List Keyword).length + (if ([]:List Keyword).isEmpty then 0 else 1) < 30)) = true:=by rfl)
    (hline:(apos.endLine == cpos.line) = true:=by rfl) (hs:starEach (e :: es) X.env = (false,eval e X.env) :: starEach es X.env:=by rfl) (hplain:(backTo cpos (starEach es X.env)).any (·.1) = false:=by rfl) :
    PE X (.Call (.Attribute o name apos) (e :: es) [] cpos) (tBM K T r to t):=by
  subst hK
  exact pe_bm pa slot hty hm ho ha hbase hfew hline hs hplain
end L2
namespace L2
open PySem PySem.Spec PyProof.Rows
section
variable {M:Model} {A:Around} {E:Value→Shared→Prop} {s:Shared} {base:Heap} {env:Env} {outer l:List Env} {L e:Addr} {cls a0 fl:Value}
structure Retraced (base h h':Heap) (T:Addr) (ts:Array Value) (v:Value):Prop where
  here:∃ o',h'.get? T = some o'∧o'.data = .fields (ts.setIfInBounds 3 v)
  rest:∀ b o,b≠T→h.get? b = some o→h'.get? b = some o
  low:base.StaysIn h→base.StaysIn h'
  plain:∀ b o,h.get? b = some o→(∀ vs,o.data≠.fields vs)→h'.get? b = some o
end
section
variable {P:Program} {w:World} {K:PySem.W.Frag} {mg:Str→Option Value} {base:Heap} {N:List Str} {qual:Str} {scope:Scope} {f:Addr} {cd:Value} {A:Around} {outer:List Env} {s:Shared} {H:Hp} {E:XK}
end
section
variable {X:Cx}
end
end L2
namespace L2
section
open PySem PySem.Calls PyProof.Rows PySem.W Builtin Builtin.ObjectAttr Builtin.Getset_descriptor
section
variable {prog:Program} {w:World} {A:Around} {E:Value→Shared→Prop} {K:Frag} {e D:Addr}
structure IsExc (h:Heap) (e D:Addr):Prop where
  ob:∃ o,h.get? e = some o∧o.cls = .ref D∧∃ vs,o.data = .fields vs
theorem IsExc.ty {h:Heap} (z:IsExc h e D) {M:Model}:Looks M h (typeOf (.ref e)) (.ref D):=by
  obtain ⟨o,q,c,_⟩:=z.ob
  rw [← c]
  exact (Looks.ld q).andThen .now
theorem exc_descr {tp:Value} {s:Shared} {R:Result→Shared→Prop} (k:K.In s.heap) (z:IsExc s.heap e D) (hm:mroIn K D (.type "object") = some true) (q:R (.ok (.ret (.ref D))) s) :
    codeAny (model prog w) A (.call (.builtin "getset_descriptor.__get__") ⟨[.builtin "object.__class__",.ref e,tp],[]⟩) R s:=by
  obtain ⟨h1,g1,d1,t1,o1⟩:=s
  have T0:=z.ty (M:=model prog w)
  have T1:=looks_mroIn (M:=model prog w) k hm
  have slot:=KF.slot_gs
  refine codeAny_call_builtin slot.plain KF.entry_gs (slot.check _ _ _ _ _ _ _ _ KF.type_class (KF.args_gs _ _ _) ?_)
  simp only [Builtin.«getset_descriptor.__get__»,descrGet,dga_obj]
  refine wpAny_bind (wpAny_pure ?_)
  dsimp only [descrGetter,descrCheckInstance,descrNameAndClass,isInstance]
  rw [show descrOwnerAndName "object.__class__" = ("object","__class__") from KF.owner_class]
  repeat lk
  refine ⟨Code.quiet_builtin (id:="object.__class__") _ (by decide +kernel),codeAny_builtin KF.entry_class ?_⟩
  simp only [Builtin.«object.__class__»,shownTypeOf]
  repeat lk
  exact q
theorem exc_find {h:Heap} {M:Model} (k:K.In h) (ha:findIn K (.ref D) "__class__" = some (some (.builtin "object.__class__")))
    (hn:specialIn K (.builtin "object.__class__") "__get__" = some (some (.builtin "getset_descriptor.__get__"))) (ht:takesIn K (.builtin "object.__class__") = some true) :
    Looks M h (find (.ref e) (.ref D) "__class__") (.bind (.builtin "getset_descriptor.__get__") (.builtin "object.__class__")):=
  (looks_findIn k ha).andThen ((show Looks M h (getOf (some (.builtin "object.__class__"))) (some (.builtin "getset_descriptor.__get__")) from looks_specialIn k hn).andThen
    ((show Looks M h (dataDescriptor? (some (.builtin "object.__class__")) (some (.builtin "getset_descriptor.__get__"))) (some (.builtin "getset_descriptor.__get__",.builtin "object.__class__")) from (looks_takesIn k ht).andThen .now).andThen (Looks.tag .now)))
theorem exc_check {nv:Value} {s:Shared} {Q:Unit→Shared→Prop} {M:Model} (k:K.In s.heap) (z:IsExc s.heap e D) (hb:mroIn K D (.type "BaseException") = some true) (q:Q () s) :
    wpAny M A (checkBuiltinCall "BaseException.__getattribute__" ⟨[.ref e,nv],[]⟩) Q E s:=by
  obtain ⟨h1,g1,d1,t1,o1⟩:=s
  have b1:builtinKind "BaseException.__getattribute__" = some .slot:=by decide +kernel
  have b2:splitId "BaseException.__getattribute__" = some ("BaseException","__getattribute__"):=by decide +kernel
  have b3:=F.args_bexc_ga (.ref e) nv
  have T:Looks M h1 (isInstance (.ref e) (.type "BaseException")) true:=z.ty.andThen (looks_mroIn k hb)
  simp only [checkBuiltinCall,b1,b2]
  refine wpAny_bind (T.at ?_)
  rw [if_neg (by decide)]
  repeat wp_step
  exact q
theorem exc_entry {tk:Tok} {s:Shared} {Q:Fin→Shared→Prop} (k:K.In s.heap) (z:IsExc s.heap e D) (ha:findIn K (.ref D) "__class__" = some (some (.builtin "object.__class__")))
    (hn:specialIn K (.builtin "object.__class__") "__get__" = some (some (.builtin "getset_descriptor.__get__"))) (ht:takesIn K (.builtin "object.__class__") = some true) (hm:mroIn K D (.type "object") = some true) (q:Q (.done (.ret (.ref D))) s) :
    wpAny (model prog w) A (Builtin.«object.__getattribute__» ⟨[.ref e,.str "__class__" tk],[]⟩) Q E s:=by
  obtain ⟨h1,g1,d1,t1,o1⟩:=s
  have T0:=z.ty (M:=model prog w)
  have T1:=exc_find (e:=e) (M:=model prog w) k ha hn ht
  have s0:slotArgs "__getattribute__" 1 ⟨[.ref e,.str "__class__" tk],[]⟩ = pure (Value.ref e,[Value.str "__class__" tk]):=by kernel_rfl
  have s1:attrName (.str "__class__" tk) = pure "__class__":=by kernel_rfl
  simp only [Builtin.«object.__getattribute__»,s0]
  refine wpAny_bind (wpAny_pure ?_)
  dsimp only
  rw [s1]
  refine wpAny_bind (wpAny_pure (wpAny_bind (T0.at (wpAny_bind (T1.at ?_)))))
  dsimp only
  unfold bindTo
  dsimp only
  refine wpAny_bind (wpAny_call (exc_descr (s:=⟨h1,g1,d1,t1,o1⟩) k z hm ?_))
  exact wpAny_pure q
theorem exc_class {s:Shared} {Q:Option Value→Shared→Prop} (k:K.In s.heap) (z:IsExc s.heap e D) (hga:findIn K (.ref D) "__getattribute__" = some (some (.builtin "BaseException.__getattribute__"))) (hgg:findIn K (.ref D) "__getattr__" = some none)
    (ha:findIn K (.ref D) "__class__" = some (some (.builtin "object.__class__"))) (hn:specialIn K (.builtin "object.__class__") "__get__" = some (some (.builtin "getset_descriptor.__get__"))) (ht:takesIn K (.builtin "object.__class__") = some true)
    (hm:mroIn K D (.type "object") = some true) (hb:mroIn K D (.type "BaseException") = some true) (q:Q (some (.ref D)) { s with toks:=s.toks + 1 }) :
    wpAny (model prog w) A (getAttr? (.ref e) "__class__") Q E s:=by
  obtain ⟨h1,g1,d1,t1,o1⟩:=s
  have T0:=z.ty (M:=model prog w)
  have T1:=looks_findIn (M:=model prog w) k hga
  have T2:=looks_findIn (M:=model prog w) k hgg
  have B:=F.excAttr_ValueError.ga.bind (.ref e)
  simp only [getAttr?,getAttrBy?,getAttrBy]
  refine wpAny_bind (wpAny_mkText (wpAny_bind (wpAny_attempt (wpAny_holding (wpAny_bind (T0.at (wpAny_bind (T1.at ?_))))))))
  have n0:(onTheHeap (Value.ref D) && Value.builtin "BaseException.__getattribute__" == Value.builtin "object.__getattribute__") = false:=by
    have:(Value.builtin "BaseException.__getattribute__" == Value.builtin "object.__getattribute__") = false:=by decide +kernel
    rw [this]; rfl
  dsimp only
  rw [if_neg (by rw [n0]; decide)]
  unfold getAttrByItsOwn hookBefore
  rw [if_pos (by rfl)]
  refine wpAny_bind (T2.at (wpAny_bind (wpAny_attempt (wpAny_holding ?_))))
  unfold callGetattribute boundAndCalled
  rw [if_neg (by decide),B]
  refine wpAny_bind (wpAny_pure ?_)
  dsimp only
  refine wpAny_call (codeAny_call_builtin F.excAttr_ValueError.ga.plain F.entry_bexc_ga ?_)
  refine exc_check (s:=⟨h1,g1,d1,t1 + 1,o1⟩) k ⟨z.ob⟩ hb (exc_entry (s:=⟨h1,g1,d1,t1 + 1,o1⟩) k ⟨z.ob⟩ ha hn ht hm ?_)
  dsimp only
  exact handed_on rfl (wpAny_pure q)
structure ExcCls (K:Frag) (D:Addr):Prop where
  ga:findIn K (.ref D) "__getattribute__" = some (some (.builtin "BaseException.__getattribute__"))
  gg:findIn K (.ref D) "__getattr__" = some none
  cl:findIn K (.ref D) "__class__" = some (some (.builtin "object.__class__"))
  sp:specialIn K (.builtin "object.__class__") "__get__" = some (some (.builtin "getset_descriptor.__get__"))
  tk:takesIn K (.builtin "object.__class__") = some true
  mo:mroIn K D (.type "object") = some true
  mb:mroIn K D (.type "BaseException") = some true
theorem ExcCls.there (c:ExcCls K D):∃ o,K.lookup D = some o∧∃ cd,o.data = .cls cd:=by
  obtain ⟨cd,h,_⟩:=Option.bind_eq_some_iff.mp c.mo
  unfold clsIn at h
  split at h
  · rename_i o d' cd' sl' ho
    exact ⟨_,ho,_,rfl⟩
  · cases h
theorem ExcCls.kit (c:ExcCls K D):KitX K (.ref e) (.ref D) (fun h=>IsExc h e D) where
  ty:=fun _ _ _ z=>z.ty
  it:=fun M h k _=>by
    obtain ⟨⟨oc,od,oda,os⟩,h1,cd,h2⟩:=c.there
    dsimp only at h2
    subst h2
    intro A1 Q1 E1 s1 st q
    unfold isType loadHead
    exact wpAny_bind (wpAny_loadPart (st _ _ (k _ _ h1)) (wpAny_pure q))
  ne:=fun h tp dd its n sl k ht=>by
    obtain ⟨o,h1,cd,h2⟩:=c.there
    cases q:(Value.ref D == Value.ref tp) with
    | false=>rfl
    | true=>
      cases Value.ref.inj (beq_iff_eq.mp q)
      rw [k _ _ h1] at ht
      cases ht
      cases h2
  ca:=fun k z q=>exc_class k z c.ga c.gg c.cl c.sp c.tk c.mo c.mb q
end
end
open PySem PySem.Spec PyProof.Rows
def excO (e D:Addr):HO:=.ext fun h=>IsExc h e D
theorem IsExc.stays {h1 h2:Heap} {e D:Addr} (z:IsExc h1 e D) (k:∀ o,h1.get? e = some o→h2.get? e = some o):IsExc h2 e D:=by
  obtain ⟨o,q,r⟩:=z.ob
  exact ⟨o,k o q,r⟩
section
variable {X:Cx} {pins:List (Addr×Obj)} {σ:St} {H:Hp} {s:Shared}
def rIsX (K:PySem.W.Frag):List V→Hp→VK→Prop:=fun xs H Q=>∃ (e D:Addr) (c:V) (cv:Value) (b:Bool),xs = [.ref e,c]∧H e = some (excO e D)∧ExcCls K D∧(∀ u,RelV c u→u = cv)∧PySem.W.kitOne K (.ref D) cv = some b∧Q (.bl b) H
theorem call_isX:CallR X (.builtin "isinstance") (rIsX X.K):=by
  intro pins s σ H xs us Q I r h
  obtain ⟨e,D,c,cv,b,rfl,he,hc,hv,hk,q⟩:=h
  obtain ⟨u,v,rfl,ru,rv⟩:=vals2 r
  cases (show u = Value.ref e from ru)
  cases hv v rv
  have z:ObjOk X.prog X.w H s.heap e (excO e D):=I.hok e _ he
  exact PySem.W.kia_one hc.kit I.kIn z.1 hk (fun z=>nomatch z) fun tk=>⟨.bl b,H,I.tok _,rfl,q⟩
theorem call_isXK {K:PySem.W.Frag} (h:X.K = K):CallR X (.builtin "isinstance") (rIsX K):=by subst h; exact call_isX
theorem Inv.know {e:Addr} {o:HO} (I:Inv X pins σ H s) (n0:e ∉ X.ex→X.s₀.heap.get? e = none) (nl:e≠X.env.locals) (nc:∀ x c,X.env.cells.lookup x = some c→c≠e) (np:∀ p∈X.pn ++ pins,p.1≠e) (hn:H e = none)
    (ho:ObjOk X.prog X.w (upd H e o) s.heap e o):Inv X pins σ (upd H e o) s:=by
  have up:∀ {b:Addr} {u:HO},H b = some u→upd H e o b = some u:=fun {b u} q=>by rw [upd_ne (ne_of_none q hn)]; exact q
  refine ⟨I.ok,I.os,I.bare,⟨I.base.keep,I.base.slot,fun b ob q n x=>?_,I.base.there,fun b xs q=>up (I.base.tups b xs q),fun b ob u q=>up (I.base.frzs b ob u q),fun b ps q=>?_⟩,I.loc,I.cell,?_,fun x c q=>?_,fun p hp=>?_,fun b u q=>?_,I.len⟩
  · rw [upd_ne (fun z=>by subst z; rw [n0 x] at q; cases q)]
    exact I.base.free b ob q n x
  · obtain ⟨more,z⟩:=I.base.tbls b ps q
    exact ⟨more,up z⟩
  · rw [upd_ne nl.symm]; exact I.free
  · rw [upd_ne (nc x c q)]; exact I.freeC x c q
  · obtain ⟨h1,h2,h3⟩:=I.pin p hp
    exact ⟨h1,by rw [upd_ne (np p hp)]; exact h2,h3⟩
  · by_cases hb:b = e
    · subst hb
      rw [upd_same] at q
      cases q
      exact ho
    · rw [upd_ne hb] at q
      exact (I.hok b u q).stay (fun c v _ z=>z) (fun _ z=>up z) fun _ _ z=>up z
theorem goes_ok {M:Model} {A:Around} {E:Value→Shared→Prop} {i:Nat} {x:Str} {pos:Pos} {Q:Unit→Shared→Prop} (I:Inv X pins σ H s) (hN:X.N.Nodup) (hi:X.N[i]? = some x) (hk:X.env.kindOf x = some .local)
    (h:∀ s',Inv X pins (σ.set i none) H s'→Q () s'):wpAny M A (do bindName X.env x .none; unbindBehindTheSuite X.env x pos) Q E s:=by
  obtain ⟨m,hn,hl⟩:=id I.loc
  have hc:(X.env.scope.kind == .class || (X.env.scope.kind == .module && X.env.locals != X.env.globals)) = false:=by rw [I.ok.kind]; rfl
  have hiσ:i < σ.length:=by rw [I.len]; exact (List.getElem?_eq_some_iff.mp hi).1
  obtain ⟨oL,_,_,hoL,_⟩:=id hn
  refine wpAny_nameGoes_keeps hk hn hc fun h' v hn' hs=>?_
  have apart:∀ b o,X.s₀.heap.get? b = some o→b≠X.env.locals:=fun b o q=>Nat.ne_of_lt (Nat.lt_of_lt_of_le (Heap.lt_size q) I.ok.above)
  refine h _ ⟨I.ok,I.os,I.bare,⟨fun b o q n hb hx=>(hs.2 b (apart b o q)).trans (I.base.keep b o q n hb hx),fun b o q n hb hx=>?_,I.base.free,fun b o q hx=>?_,I.base.tups,I.base.frzs,I.base.tbls⟩,
    ⟨_,hn',fun j y v' e1 e2 e3=>?_⟩,fun y c q=>?_,I.free,I.freeC,fun p hp=>?_,fun b u q=>?_,by simpa using I.len⟩
  · obtain ⟨sl,z⟩:=I.base.slot b o q n hb hx
    exact ⟨sl,(hs.2 b (apart b o q)).trans z⟩
  · obtain ⟨o',z⟩:=I.base.there b o q hx
    exact ⟨o',(hs.2 b (apart b o q)).trans z⟩
  · by_cases hj:j = i
    · subst hj
      rw [List.getElem?_set_self hiσ] at e2
      cases e2
    · rw [List.getElem?_set_ne (Ne.symm hj)] at e2
      obtain ⟨u',r',q⟩:=hl j y v' e1 e2 e3
      refine ⟨u',r',?_⟩
      rcases q with ⟨k,z⟩ | ⟨k,c,z,z2⟩
      · have ny:y≠x:=fun t=>hj (nodup_ix hN e1 (t ▸ hi))
        exact .inl ⟨k,by simp [ny,z]⟩
      · exact .inr ⟨k,c,z,z2.sameBut hs (I.cne y c z)⟩
  · obtain ⟨w',z⟩:=I.cell y c q
    exact ⟨w',z.sameBut hs (I.cne y c q)⟩
  · obtain ⟨q,n,ne,nf,d⟩:=I.pin p hp
    exact ⟨(hs.2 p.1 ne).trans q,n,ne,nf,d⟩
  · have nb:∀ {c:Addr} {v':HO},H c = some v'→c≠X.env.locals:=fun {c v'} z=>ne_of_none z I.free
    refine (I.hok b u q).stay (fun c w' hc z=>(hs.2 c ?_).trans z) (fun _ z=>z) fun _ _ z=>z
    rcases hc with rfl | hc
    · exact nb q
    · exact nb hc
theorem Inv.flown {H':Hp} {s':Shared} {ea:Addr} {cls a0:Value} {B:Heap} (I:Inv X pins σ H s) (F:Fly X.prog X.w X.stack H s ea cls H' B a0 s'):s.heap.get? ea = none:=by
  cases q:s.heap.get? ea with
  | none=>rfl
  | some o=>
    by_cases hb:ea∈frs X.stack
    · obtain ⟨z,e⟩:=F.un.slot ea o q (I.stkFree ea hb) hb (by simp)
      obtain ⟨_,o',ho',hd⟩:=I.stack.mem hb
      rw [q] at ho'
      cases ho'
      obtain ⟨_,_,_,oe,vs,_,_,_,he,_,hv,_⟩:=F.fl
      rw [he] at e
      cases e
      exact absurd hv (hd vs)
    · obtain ⟨o',e⟩:=F.th ea o q hb
      rw [F.fl.2.1] at e
      cases e
theorem Inv.knowX {H':Hp} {s':Shared} {ea C:Addr} {a0:Value} {B h':Heap} (I:Inv X pins σ H s) (F:Fly X.prog X.w X.stack H s ea (.ref C) H' B a0 s') (J:Inv X pins σ H' { s' with heap:=h' }) (T:h'.TracedW B ea (.ref C) a0):Inv X pins σ (upd H' ea (excO ea C)) { s' with heap:=h' }:=by
  have n:=I.flown F
  obtain ⟨m,hn,_⟩:=id I.loc
  obtain ⟨oL,_,_,hoL,_⟩:=id hn
  obtain ⟨oe,vs,_,_,_,he,⟨hc,_⟩,hv,_⟩:=T
  have ise:IsExc h' ea C:=⟨oe,he,hc,vs,hv⟩
  refine J.know (fun x=>?_) (fun z=>?_) (fun x c q z=>?_) (fun p hp z=>?_) F.free ⟨ise,⟨oe,he⟩,fun h1 h2 z k=>z.stays k⟩
  · cases q:X.s₀.heap.get? ea with
    | none=>rfl
    | some o=>
      obtain ⟨o',z⟩:=I.base.there ea o q x
      rw [n] at z
      cases z
  · rw [← z,n] at hoL; cases hoL
  · obtain ⟨w',oc,e,_⟩:=I.cell x c q
    rw [z,n] at e; cases e
  · have:=(I.pin p hp).1
    rw [z,n] at this; cases this
end
section
variable {X:Cx} {x n:Str} {c:Value} {body orelse suite:List Stmt} {b₀:Stmt} {np hpos pos:Pos} {i:Nat}
def tTryAs (K:PySem.W.Frag) (c:Value) (i:Nat) (tb:TX) (te ts:TS):TS:=fun D σ H=>tb { D with nx:=te D } (fun cls σ' H'=>PySem.W.exmOne K cls c = some true∧∃ C:Addr,cls = .ref C∧∀ ea,H' ea = none→
  ts { nx:=fun σ H=>D.nx (σ.set i none) H,rt:=D.rt,bk:=fun σ H=>D.bk (σ.set i none) H,ct:=fun σ H=>D.ct (σ.set i none) H } (σ'.set i (some (.ref ea))) (upd H' ea (excO ea C))) σ H
theorem ps_tryAs {tb:TX} {te ts:TS} (hst:X.stack = X.env :: X.outer∧X.env.frame = some X.env.locals) (hm:X.mg x = some c) (hg:Gl X x) (hN:X.N.Nodup) (hi:X.N[i]? = some n) (hk:X.env.scope.names.lookup n = some .local) (hb:PXs X body tb) (he:PSs X orelse te) (hs:∀ e,PSs (X.held e) (b₀ :: suite) ts)
    (hd:(x == ("__debug__":Str)) = false:=by decide):PS X (.Try body [.ExceptHandler (some (.Name x np)) (some n) (b₀ :: suite) hpos] orelse [] pos) (tTryAs X.K c i tb te ts):=by
  intro pins s σ H D I h
  refine wpAny_Try_except (wpAny_mono (hb pins s σ H _ _ I h) (fun f s1 q=>?_) fun e s1 q=>?_)
  · cases f with
    | next=>
      obtain ⟨σ',H',I',q⟩:=q
      exact he pins s1 σ' H' D I' q
    | ret v=>exact q
    | brk=>exact q
    | cont=>exact q
  · obtain ⟨ea,cls,σ',H1,H',s2,B,a0,rfl,I2,F,hx,C,hC,q⟩:=q
    subst hC
    have hfr:=I.ok.frames
    have fl:=F.fl
    rw [hst.1] at hfr fl
    refine wpAny_looks_onW hfr hst.2 fl fun h4 held4 up4=>?_
    refine wpAny_landsW held4 fun h5 fl5 up5=>?_
    have J5:=I2.landed F fl5.1 (up4.trans up5)
    refine wpAny_handleBy_cons (codeAny_handlers_test (ld_glob (J5.held (.ref ea)) hg hm ?_ hd)) (by intro z; cases z)
    obtain ⟨ob,hob,hcls⟩:=fl5.there
    have LT:PySem.W.Looks (model X.prog X.w) h5 (typeOf (.ref ea)) (.ref C):=by
      rw [← hcls]
      exact (PySem.W.Looks.ld hob).andThen .now
    refine (PySem.W.exm_one J5.kIn LT hx).here ?_
    refine codeAny_handlers_suite_as (lands_againW fl5 fun h6 fl6 up6=>?_)
    have J6:=I2.landed F fl6.1 ((up4.trans up5).trans up6)
    have J7:=I2.knowX F J6 fl6.2.2.2
    refine store_ok (v:=.ref ea) J7 hN hi (.inl hk) rfl (fun s8 I8=>?_) (.inr hk)
    refine wpAny_mono (hs (.ref ea) pins s8 _ _ _ (I8.held (.ref ea)) (q ea F.free)) (fun f s9 z=>?_) fun _ _ z=>False.elim z
    have z':=z.unheld J7
    cases f with
    | next=>
      obtain ⟨σ9,H9,I9,q9⟩:=z'
      exact goes_ok I9 hN hi hk fun s10 I10=>⟨_,_,I10,q9⟩
    | brk=>
      obtain ⟨σ9,H9,I9,q9⟩:=z'
      exact goes_ok I9 hN hi hk fun s10 I10=>⟨_,_,I10,q9⟩
    | cont=>
      obtain ⟨σ9,H9,I9,q9⟩:=z'
      exact goes_ok I9 hN hi hk fun s10 I10=>⟨_,_,I10,q9⟩
    | ret u=>
      obtain ⟨v,σ9,H9,I9,r9,q9⟩:=z'
      exact goes_ok I9 hN hi hk fun s10 I10=>⟨v,_,_,I10,r9,q9⟩
end
section
variable {X:Cx} {e:Expr} {es:List Expr} {pos:Pos}
end
theorem pe_xcl {X:Cx} {x:Str} {C:Addr} {pos:Pos} (hg:Gl X x) (hm:X.mg x = some (.ref C)) (hd:(x == ("__debug__":Str)) = false:=by decide):PE X (.Name x pos) (tC (.ref C)):=pe_glob (v:=.ref C) hg hm rfl hd
theorem bt_ValueError:bootBuiltins "ValueError" = some (.type "ValueError"):=by decide +kernel
end L2
namespace L2
open PySem PySem.Spec PyProof.Rows
section
variable {X:Cx} {k:Nat} {x:Str} {f C:Addr} {fd:FuncData} {ps:List Str} {sp:Sp} {E:XK} {e:Expr} {es:List Expr} {t:TA} {p pos:Pos}
end
section
variable {X:Cx}
def rIsXT (K:PySem.W.Frag):List V→Hp→VK→Prop:=fun xs H Q=>∃ (e D tp:Addr) (cs:List V) (its:List Value) (b:Bool),xs = [.ref e,.ref tp]∧H e = some (excO e D)∧ExcCls K D∧H tp = some (.tup cs)∧(∀ us,Vals cs us→us = its)∧PySem.W.kitAny K (.ref D) its = some b∧Q (.bl b) H
theorem call_isXT {K:PySem.W.Frag} (hK:X.K = K):CallR X (.builtin "isinstance") (rIsXT K):=by
  subst hK
  intro pins s σ H xs us Q I r h
  obtain ⟨e,D,tp,cs,its,b,rfl,he,hc,ht,hv,hk,q⟩:=h
  obtain ⟨u,v,rfl,ru,rv⟩:=vals2 r
  cases (show u = Value.ref e from ru)
  cases (show v = Value.ref tp from rv)
  have z:ObjOk X.prog X.w H s.heap e (excO e D):=I.hok e _ he
  obtain ⟨_,us,r1,⟨oc,od,oda,osl⟩,g1,g2,n,g3⟩:ObjOk X.prog X.w H s.heap tp (.tup cs):=I.hok tp _ ht
  dsimp only at g2 g3
  subst g2 g3
  cases hv us r1
  exact PySem.W.kia_tup hc.kit I.kIn z.1 g1 hk (fun z=>nomatch z) fun tk=>⟨.bl b,H,I.tok _,rfl,q⟩
end
section
variable {X:Cx}
def CellV (K:PySem.W.Frag) (H:Hp):Option (List Int)→V→Prop
  | none,v=>v = .non
  | some ns,v=>∃ a,v = .ref a∧SqL K H a (ns.map V.int)
def rNeO (K:PySem.W.Frag):R2:=fun x y H Q=>∃ (o p:Option (List Int)),CellV K H o x∧CellV K H p y∧Q (.bl (!decide (o = p))) H
theorem op_neO (hu:X.A.units + 1 < cLine):OpR X (compareOp .NotEq) (rNeO X.K):=by
  intro pins s σ H x y v u Q I rx ry h
  obtain ⟨o,p,h1,h2,q⟩:=h
  match o,p,h1,h2,q with
  | none,none,rfl,rfl,q=>
    cases (show v = Value.none from rx)
    cases (show u = Value.none from ry)
    exact SeqAt.RcNeAt.none_none _ _ _ _ ⟨.bl _,H,I,rfl,q⟩
  | none,some ms,rfl,⟨b,rfl,h2⟩,q=>
    cases (show v = Value.none from rx)
    cases (show u = Value.ref b from ry)
    obtain ⟨its,r2,p2,_⟩:=I.list h2
    exact SeqAt.RcNeAt.none_list p2.isList (by omega) _ _ _ _ ⟨.bl _,H,I,rfl,q⟩
  | some ns,none,⟨a,rfl,h1⟩,rfl,q=>
    cases (show v = Value.ref a from rx)
    cases (show u = Value.none from ry)
    obtain ⟨its,r1,p1,_⟩:=I.list h1
    exact SeqAt.RcNeAt.list_none p1.isList (by omega) _ _ _ _ ⟨.bl _,H,I,rfl,q⟩
  | some ns,some ms,⟨a,rfl,h1⟩,⟨b,rfl,h2⟩,q=>
    refine op_neD hu pins s σ H _ _ v u Q I rx ry ⟨a,b,_,_,rfl,rfl,h1,h2,all_pure_int _,all_pure_int _,?_⟩
    have e:decide (ns.map V.int = ms.map V.int) = decide (some ns = some ms):=by
      rw [Bool.eq_iff_iff,decide_eq_true_eq,decide_eq_true_eq]
      refine ⟨fun z=>?_,fun z=>by rw [Option.some.inj z]⟩
      have:∀ {a b:List Int},a.map V.int = b.map V.int→a = b:=fun {a}=>by
        induction a with
        | nil=>intro b z; cases b with | nil=>rfl | cons _ _=>cases z
        | cons x a ih=>intro b z; cases b with
          | nil=>cases z
          | cons y b=>
            rw [List.map_cons,List.map_cons] at z
            injection z with z1 z2
            injection z1 with z1
            rw [z1,ih z2]
      rw [this z]
    show Q (.bl (!decide (ns.map V.int = ms.map V.int))) H
    rw [e]
    exact q
end
end L2
namespace L2
section
open PySem
open Sem (wp wp_bind' wp_mono)
def Fld2 (o:Obj):Prop:=∃ vs,o.data = .fields vs∧vs[2]? = some .none
def DictAt (h:Heap) (e:Addr) (d:Option Addr):Prop:=∃ o,h.objs[e]? = some o∧o.dict = d∧Fld2 o
def DK {α:Type} (t:Sem α):Prop:=∀ (M:Model) (Γ:Ctx) (Q:α→Pos→Shared→Prop) (E:Value→Pos→Shared→Prop) (p:Pos) (s:Shared) (e:Addr) (d:Option Addr),wp M Γ t Q E p s→DictAt s.heap e d→
  wp M Γ t (fun a p s'=>Q a p s'∧DictAt s'.heap e d) (fun v p s'=>E v p s'∧DictAt s'.heap e d) p s
variable {α β:Type}
theorem dk_pure (a:α):DK (pure a:Sem α):=fun _ _ _ _ _ _ _ _ h j=>⟨h,j⟩
theorem dk_unsup (w:String):DK (PySem.unsupported w:Sem α):=fun _ _ _ _ _ _ _ _ h _=>False.elim h
theorem dk_bind {m:Sem α} {f:α→Sem β} (h1:DK m) (h2:∀ a,DK (f a)):DK (m >>= f):=by
  intro M Γ Q E p s e d h j
  rw [wp_bind'] at h ⊢
  exact wp_mono M Γ m (fun a p' s' q=>h2 a M Γ Q E p' s' e d q.1 q.2) (fun _ _ _ q=>q) p s (h1 M Γ _ E p s e d h j)
theorem dk_load (a:Addr):DK (load a):=fun M Γ Q E p s e d ⟨o,q,h⟩ j=>⟨o,q,h,j⟩
theorem dk_stack:DK stack:=fun M Γ Q E p s e d h j=>⟨h,j⟩
theorem dk_alloc (o:Obj):DK (alloc o):=fun M Γ Q E p s e d h ⟨o1,q,hd⟩=>⟨h,o1,by
  show (s.heap.objs.push o)[e]? = some o1
  have hlt:e < s.heap.objs.size:=(Array.getElem?_eq_some_iff.mp q).1
  rw [Array.getElem?_push,if_neg (Nat.ne_of_lt hlt)]
  exact q,hd⟩
theorem dk_update (a:Addr) {f:Obj→Obj} (hf:∀ o,(f o).dict = o.dict∧(Fld2 o→Fld2 (f o))):DK (update a f):=fun M Γ Q E p s e d ⟨q0,h⟩ ⟨o1,q,hd,h2⟩=>⟨q0,h,by
  by_cases ea:a = e
  · subst ea
    refine ⟨f o1,?_,by rw [(hf o1).1]; exact hd,(hf o1).2 h2⟩
    show (s.heap.objs.modify a f)[a]? = some (f o1)
    rw [Array.getElem?_modify,if_pos rfl,q]; rfl
  · refine ⟨o1,?_,hd,h2⟩
    show (s.heap.objs.modify a f)[e]? = some o1
    rw [Array.getElem?_modify,if_neg ea]
    exact q⟩
theorem dk_ite {c:Prop} [Decidable c] {t u:Sem α} (h1:DK t) (h2:DK u):DK (if c then t else u):=by
  split
  · exact h1
  · exact h2
theorem dict_mapFields {i:Nat} (hi:i≠2) (x:Value) (o:Obj):(Obj.mapFields (·.setIfInBounds i x) o).dict = o.dict∧(Fld2 o→Fld2 (Obj.mapFields (·.setIfInBounds i x) o)):=by
  constructor
  · unfold Obj.mapFields
    split <;> rfl
  · rintro ⟨vs,h1,h2⟩
    obtain ⟨c,d,dt,sl⟩:=o
    dsimp only at h1
    subst h1
    exact ⟨_,rfl,by rw [Array.getElem?_setIfInBounds_ne hi]; exact h2⟩
theorem dk_fieldsOf (v:Value):DK (fieldsOf v):=by
  unfold fieldsOf
  split
  · refine dk_bind (dk_load _) fun o=>?_
    split
    · exact dk_pure _
    · exact dk_unsup _
  · exact dk_unsup _
theorem dk_field (v:Value) (i:Nat):DK (field v i):=by
  unfold field
  refine dk_bind (dk_fieldsOf v) fun vs=>?_
  split
  · exact dk_pure _
  · exact dk_unsup _
theorem dk_setField (v:Value) {i:Nat} (hi:i≠2) (x:Value):DK (setField v i x):=by
  unfold setField updateField
  split
  · refine dk_bind (dk_load _) fun o=>?_
    split
    · exact dk_ite (dk_update _ (dict_mapFields hi x)) (dk_unsup _)
    · exact dk_unsup _
  · exact dk_unsup _
theorem dk_newFields (ty:String) (vs:List Value):DK (newFields ty vs):=by
  unfold newFields newObj newObjAsIs
  dsimp only
  split
  · exact dk_bind (dk_unsup _) fun _=>dk_bind (dk_alloc _) fun _=>dk_pure _
  · exact dk_bind (dk_alloc _) fun _=>dk_pure _
theorem dk_newEntry (a b c d e:Value) (l:List Value):DK (EntryCells.newEntry a b c d e l):=dk_newFields _ _
theorem dk_frameEnvs:DK frameEnvs:=dk_bind dk_stack fun _=>dk_pure _
theorem dk_isImport (env:Env) (outer:List Env):DK (behindIsImport env outer):=by
  unfold behindIsImport
  refine dk_ite (dk_pure _) ?_
  refine dk_ite (dk_pure _) ?_
  exact dk_bind (dk_field _ _) fun _=>dk_pure _
theorem dk_keptBack (env:Env) (i:Bool) (outer:List Env):DK (keptBack env i outer):=by
  unfold keptBack
  split
  · refine dk_ite (dk_pure _) ?_
    refine dk_bind (dk_bind dk_stack fun _=>dk_pure _) fun _=>dk_pure _
  · exact dk_pure _
theorem dk_ready:∀ l:List Env,DK (readyFrames l)
  | []=>dk_pure _
  | env :: outer=>by
    unfold readyFrames
    split
    · refine dk_bind (dk_load _) fun o=>?_
      refine dk_ite (dk_pure _) ?_
      refine dk_bind (dk_isImport _ _) fun _=>dk_bind (dk_keptBack _ _ _) fun _=>dk_bind (dk_update _ fun _=>⟨rfl,fun h=>h⟩) fun _=>dk_ready outer
    · exact dk_unsup _
theorem dk_frameOf (env:Env):DK (frameOf env):=by
  unfold frameOf
  refine dk_bind dk_frameEnvs fun l=>?_
  refine dk_bind ?_ fun r=>?_
  · unfold frameObject
    split
    · exact dk_pure _
    · exact dk_bind (dk_ready _) fun _=>dk_pure _
  · split
    · exact dk_pure _
    · exact dk_unsup _
theorem dk_entryPlace (f:Addr) (b:Bool):DK (entryPlaceOf f b):=by
  unfold entryPlaceOf
  refine dk_bind dk_stack fun l=>?_
  split <;> exact dk_pure _
theorem dk_setFlight (e:Value) (f:Option Addr):DK (setFlight e f):=by
  unfold setFlight
  exact dk_bind (dk_field _ _) fun _=>dk_ite (dk_setField _ (by decide) _) (dk_pure _)
theorem dk_noteFrame (e:Value) (env:Env):DK (noteFrame e env):=by
  unfold noteFrame
  split
  · rename_i fa _
    refine dk_bind (dk_field _ _) fun head=>?_
    have rest:DK (do setField e 1 (← EntryCells.newEntry head (← frameOf env) .none (rawInt fa) .none (← entryPlaceOf fa (head != .none)))):=
      dk_bind (dk_frameOf _) fun _=>dk_bind (dk_entryPlace _ _) fun _=>dk_bind (dk_newEntry _ _ _ _ _ _) fun _=>dk_setField _ (by decide) _
    refine dk_ite ?_ rest
    refine dk_bind (dk_field _ _) fun _=>?_
    refine dk_ite (dk_pure _) ?_
    exact dk_bind (dk_setField _ (by decide) _) fun _=>rest
  · exact dk_unsup _
theorem dk_leaving (env:Env) (e:Value):DK (leaving env e):=dk_bind (dk_noteFrame _ _) fun _=>dk_setFlight _ _
theorem DK.also {t:Sem α} (k:DK t) {M:Model} {A:Around} {Q:α→Shared→Prop} {E:Value→Shared→Prop} {s:Shared} {e:Addr} {d:Option Addr} (j:DictAt s.heap e d) (h:wpAny M A t (fun a s'=>DictAt s'.heap e d→Q a s') E s):wpAny M A t Q E s:=fun Γ p hΓ=>
  wp_mono M Γ t (fun _ _ _ q=>q.1 q.2) (fun _ _ _ q=>q.1) p s (k M Γ _ _ p s e d (h Γ p hΓ) j)
end
section
open PySem PySem.Calls PyProof.Rows PySem.W Builtin Builtin.ObjectAttr
def veOnly:List Value→Bool
  | .ref _ :: r=>veOnly r
  | l=>l == bmVE
theorem ve_passes (self:Value):∀ {l:List Value},veOnly l = true→refuseLoop self "__setattr__" l = pure ()
  | [],e=>by cases e
  | .ref a :: r,e=>by rw [refuseLoop_ref]; exact ve_passes self (l:=r) e
  | .type n :: r,e=>by
    have:(Value.type n :: r) = bmVE:=beq_iff_eq.mp e
    rw [this]
    exact PySem.F.store_ValueError.passes self
  | .none :: _,e | .bool _ :: _,e | .int _ _ :: _,e | .float _ _ :: _,e | .str _ _ :: _,e | .builtin _ :: _,e | .notImplemented :: _,e | .ellipsis :: _,e=>by cases e
def veIn (K:Frag) (C:Addr):Bool:=(clsIn K C).any fun cd=>veOnly cd.mro
section
variable {prog:Program} {w:World} {A:Around} {E:Value→Shared→Prop} {s:Shared} {K:Frag} {x C:Addr} {vs:Array Value} {name:Str} {v:Value}
structure ExiCls (K:Frag) (C:Addr):Prop extends ExcCls K C where
  sa:findIn K (.ref C) "__setattr__" = some (some (.builtin "object.__setattr__"))
  ve:veIn K C = true
  hd:hasDictIn K C = true
theorem exc_inst (hx:s.heap.get? x = some ⟨.ref C,none,.fields vs,#[]⟩):InstAt s.heap x ⟨.ref C,none,.fields vs,#[]⟩ C none:=⟨hx,rfl,rfl,trivial⟩
theorem exc_store {Q:Unit→Shared→Prop} (X:K.In s.heap) (c:ExiCls K C) (hn:findIn K (.ref C) name = some none) (hx:s.heap.get? x = some ⟨.ref C,none,.fields vs,#[]⟩)
    (h:∀ h',h'.get? x = some ⟨.ref C,some s.heap.objs.size,.fields vs,#[]⟩→h'.Ns1 s.heap.objs.size (fun y=>if y = name then some v else none)→(∀ b o,b≠x→s.heap.get? b = some o→h'.get? b = some o)→Q () { s with heap:=h',toks:=s.toks + 2 }) :
    wpAny (model prog w) A (setAttr (.ref x) name v) Q E s:=by
  have I:=exc_inst hx
  obtain ⟨cd,hc,hm⟩:=any_some c.ve
  obtain ⟨cd2,hc2,hdd⟩:=any_some c.hd
  rw [hc] at hc2
  cases hc2
  refine set_plain X I c.sa ?_
  have inObj:Looks (model prog w) s.heap (isInstance (.ref x) (.type "object")) true:=I.type.andThen (looks_mroIn X c.mo)
  have G:=PySem.F.store_ValueError
  refine codeAny_call_builtin G.slot.plain G.entry (@check_slot (model prog w) _ _ { s with toks:=s.toks + 1 } "object.__setattr__" "object" "__setattr__" (.ref x) [.str name s.toks,v] [] _ G.kind G.split inObj (G.args (.ref x) (.str name s.toks) v) ?_)
  rw [osa_eq,refuse_eq]
  have own:Looks (model prog w) s.heap (mroOf (.ref C)) cd.mro:=(looks_clsIn X hc).andThen .now
  refine wpAny_bind (wpAny_bind (Looks.here (s:={ s with toks:=s.toks + 1 }) I.type (wpAny_bind (Looks.here (s:={ s with toks:=s.toks + 1 }) own ?_))))
  rw [ve_passes _ hm]
  refine wpAny_pure (wpAny_bind (Looks.here (s:={ s with toks:=s.toks + 1 }) I.type (wpAny_bind (Looks.here (s:={ s with toks:=s.toks + 1 }) (looks_findIn X hn) (wpAny_bind (wpAny_pure ?_))))))
  dsimp only
  refine wpAny_bind (wpAny_pure (wpAny_bind (wpAny_bind (wpAny_loadPart hx (wpAny_bind (Looks.here (s:={ s with toks:=s.toks + 1 }) (looks_clsIn X hc) ?_))))))
  rw [hdd]
  refine wpAny_bind (wpAny_alloc ?_)
  have n0:s.heap.get? s.heap.objs.size = none:=Heap.get?_none_of_le (Nat.le_refl _)
  have nx:s.heap.objs.size≠x:=fun z=>by rw [z,hx] at n0; cases n0
  have hx1:=Heap.get?_push_of_some { cls:=.type "dict",data:=.dict #[] } hx
  refine wpAny_bind (wpAny_update hx1 ?_)
  have hx2:=Heap.get?_update_self (fun o:Obj=>{ o with dict:=some s.heap.objs.size }) hx1 rfl
  have hd2:((s.heap.push { cls:=.type "dict",data:=.dict #[] }).update x (fun o:Obj=>{ o with dict:=some s.heap.objs.size })).get? s.heap.objs.size = some { cls:=.type "dict",data:=.dict #[] }:=by
    rw [Heap.get?_update_other _ _ (Ne.symm nx)]
    exact Heap.get?_push_size _ rfl
  have ns0:((s.heap.push { cls:=.type "dict",data:=.dict #[] }).update x (fun o:Obj=>{ o with dict:=some s.heap.objs.size })).Ns1 s.heap.objs.size (fun _=>none):=⟨_,_,_,hd2,rfl,(fun e he=>by simp at he),(by simp [UniqKeys]),fun _=>rfl⟩
  have keep:∀ b o,b≠x→s.heap.get? b = some o→((s.heap.push { cls:=.type "dict",data:=.dict #[] }).update x (fun o:Obj=>{ o with dict:=some s.heap.objs.size })).get? b = some o:=fun b o nb q=>by
    rw [Heap.get?_update_other _ _ (Ne.symm nb)]
    exact Heap.get?_push_of_some _ q
  generalize (s.heap.push { cls:=.type "dict",data:=.dict #[] }).update x (fun o:Obj=>{ o with dict:=some s.heap.objs.size }) = h1 at hx2 hd2 ns0 keep
  refine wpAny_pure (a:=some s.heap.objs.size) (wpAny_bind (wpAny_pure (wpAny_bind ?_)))
  refine wpAny_nsSet1 (s:={ s with heap:=h1,toks:=s.toks + 1 }) ns0 fun h2 ns2 but=>?_
  obtain ⟨oD,esD,epD,hoD,hdD,hcD⟩:=ns2.count (PySem.Within.cons (ns:=[]) name v fun _ z=>absurd rfl z)
  refine wpAny_bind (wpAny_lookBehind hoD (by rw [hdD]; exact pastItsLine_dict (Nat.le_trans hcD (by rw [sizeLine_eq]; show 1≤_; decide))) ?_)
  refine wpAny_pure (h h2 ((but.2 x (Ne.symm nx)).trans hx2) ns2 fun b o nb q=>(but.2 b fun z=>?_).trans (keep b o nb q))
  rw [z,n0] at q
  cases q
end
def exiIn (K:Frag) (C:Addr):Bool:=(K.lookup C).any fun o=>match o with
  | ⟨.type t,_,.cls cd,sl⟩=>t == "type" && !cd.hasDel && (match cd.mro with | .ref D :: tl=>D == C && tailIn K bmVE tl | _=>false) && (match sl.toList with | [_,_,_,_,some (.builtin n),_]=>n == "ValueError.__new__" | _=>false)
  | _=>false
theorem exi_obj {h:Heap} {K:Frag} {C:Addr} (X:K.In h) (q:exiIn K C = true) :
    ∃ tl N nm qn bs hd sn sub ab col dd k0 k1 k2 k3 k5,h.get? C = some (excClassObj nm qn C N bs tl hd sn sub ab col dd k0 k1 k2 k3 k5 "ValueError.__new__")∧OwnTail h bmVE tl:=by
  obtain ⟨o,found,z⟩:=any_some q
  split at z
  · rename_i t dx ck sl
    rw [Bool.and_eq_true,Bool.and_eq_true,Bool.and_eq_true] at z
    obtain ⟨⟨⟨z1,z2⟩,z3⟩,z4⟩:=z
    have y1:t = "type":=beq_iff_eq.mp z1
    have y2:ck.hasDel = false:=by simpa using z2
    split at z3
    · rename_i D tl em
      rw [Bool.and_eq_true] at z3
      have y3:D = C:=beq_iff_eq.mp z3.1
      split at z4
      · rename_i p0 p1 p2 p3 made p5 es
        have y4:made = "ValueError.__new__":=beq_iff_eq.mp z4
        subst y1 y3 y4
        obtain ⟨nm,bs,mro,ns,qn,hd,sn,sub,ab,col,del⟩:=ck
        simp only at em y2
        subst em y2
        obtain ⟨l⟩:=sl
        simp only at es
        subst es
        exact ⟨tl,ns,nm,qn,bs,hd,sn,sub,ab,col,dx,p0,p1,p2,p3,p5,X _ _ found,tail_of_in X z3.2⟩
      · cases z4
    · cases z3
  · cases z
section
variable {prog:Program} {w:World} {A:Around} {E:Value→Shared→Prop} {s:Shared} {K:Frag} {C f:Addr} {us:List Value}
def rawExc (C t:Addr) (d:Option Addr):Obj:=⟨.ref C,d,.fields #[.ref t,.none,.none,.none,.bool false,.none],#[]⟩
theorem exi_call {Q:Value→Shared→Prop} (X:K.In s.heap) (hq:exiIn K C = true) (hi:findIn K (.ref C) "__init__" = some (some (.ref f))) (hf:typeIn K (.ref f) = some (.type "function")) (hl:us.length≤sizeLine)
    (h:∀ h1,(∀ b o,s.heap.get? b = some o→h1.get? b = some o)→h1.get? (s.heap.objs.size + 1) = some (rawExc C s.heap.objs.size none)→h1.objs.size = s.heap.objs.size + 2→
      wpAny (model prog w) (A.under (.builtin "type.__call__" ⟨.ref C :: us,[]⟩)) (call (.ref f) (.ref (s.heap.objs.size + 1) :: us)) (fun r s'=>r = .none∧Q (.ref (s.heap.objs.size + 1)) s') E { s with heap:=h1 }) :
    wpAny (model prog w) A (call (.ref C) us) Q E s:=by
  obtain ⟨tl,N,nm,qn,bs,hd,sn,sub,ab,col,dd,k0,k1,k2,k3,k5,oc,T⟩:=exi_obj X hq
  obtain ⟨hp,g,d,t,os⟩:=s
  have G:=PySem.F.excBase_ValueError
  have l1:=tc_lookup
  have l2:=tc_bind (.ref C)
  have hT:(⟨hp,g,d,t,os⟩:Shared).TypeIs (.ref C) "type":=⟨_,oc,rfl⟩
  refine wpAny_call (codeAny_of_tree ?_)
  show wpAny _ _ (callAny (.ref C) _) _ _ _
  repeat (any_goals (first | assumption | (with_reducible refine wpAny_loadPart_at oc ?_) | wp_step))
  refine ⟨rfl,codeAny_call_builtin_at (Code.quiet_builtin _ (by decide +kernel)) entry_typeCall (wpAny_check_type_call_sub oc ?_)⟩
  change K.In hp at X
  change hp.get? C = _ at oc
  change OwnTail hp bmVE tl at T
  dsimp only at h
  generalize eA:A.under (Code.builtin "type.__call__" { pos:=[Value.ref C] ++ us }) = A1
  have h:∀ h1,(∀ b o,hp.get? b = some o→h1.get? b = some o)→h1.get? (hp.objs.size + 1) = some (rawExc C hp.objs.size none)→h1.objs.size = hp.objs.size + 2→wpAny (model prog w) A1 (call (.ref f) (.ref (hp.objs.size + 1) :: us)) (fun r s'=>r = .none∧Q (.ref (hp.objs.size + 1)) s') E ⟨h1,g,d,t,os⟩:=by
    rw [← eA]; exact h
  show wpAny (model prog w) A1 (Builtin.«type.__call__» ⟨.ref C :: us,[]⟩) _ _ ⟨hp,g,d,t,os⟩
  repeat (first | (with_reducible refine wpAny_loadPart_at oc ?_) | (with_reducible refine wpAny_madeBy_exc oc ?_) | wp_step)
  refine codeAny_call_builtin_code (Code.quiet_builtin _ G.quiet) (wpAny_check_new_subT G T oc (codeAny_exc_new_subT G T oc ?_ hl))
  show wpAny _ _ _ _ _ _
  have k1:∀ b o,hp.get? b = some o→((hp.push { cls:=.type "tuple",data:=.seq us.toArray }).push (rawExc C hp.objs.size none)).get? b = some o:=fun b o q=>Heap.get?_push_of_some _ (Heap.get?_push_of_some _ q)
  have z1:((hp.push { cls:=.type "tuple",data:=.seq us.toArray }).push (rawExc C hp.objs.size none)).objs.size = hp.objs.size + 2:=by rw [Heap.size_push,Heap.size_push]
  have e1:((hp.push { cls:=.type "tuple",data:=.seq us.toArray }).push (rawExc C hp.objs.size none)).get? (hp.objs.size + 1) = some (rawExc C hp.objs.size none):=by
    have:=Heap.get?_push_size (hp.push { cls:=.type "tuple",data:=.seq us.toArray }) (o:=rawExc C hp.objs.size none) rfl
    rw [Heap.size_push] at this
    exact this
  change wpAny (model prog w) A1 _ _ _ ⟨(hp.push { cls:=.type "tuple",data:=.seq us.toArray }).push (rawExc C hp.objs.size none),g,d,t,os⟩
  generalize (hp.push { cls:=.type "tuple",data:=.seq us.toArray }).push (rawExc C hp.objs.size none) = h1 at k1 z1 e1
  have I:InstAt h1 (hp.objs.size + 1) (rawExc C hp.objs.size none) C none:=⟨e1,rfl,rfl,trivial⟩
  have X1:K.In h1:=fun b o q=>k1 b o (X b o q)
  have cC:(Value.ref C :: tl).contains (.ref C) = true:=by simp
  refine wpAny_bind (wpAny_bind (Looks.here (s:=⟨h1,g,d,t,os⟩) I.type ?_))
  refine wpAny_isSubtype_exc (k1 _ _ oc) ?_
  rw [cC]
  refine wpAny_bind (wpAny_holding (special_fn (s:=⟨h1,g,d,t,os⟩) X1 I hi hf (wpAny_mono (h h1 k1 e1 z1) (fun r s' q=>?_) fun _ _ q=>q)))
  obtain ⟨rfl,q⟩:=q
  exact wpAny_pure q
end
end
section
open PySem PySem.Spec PyProof.Rows
def excN (x C:Addr) (d:Option Addr):HO:=.ext fun h=>∃ t,h.get? x = some (rawExc C t d)
theorem excN_ok {P:Program} {w:World} {H:Hp} {h:Heap} {x C t:Addr} {d:Option Addr} (e:h.get? x = some (rawExc C t d)):ObjOk P w H h x (excN x C d):=⟨⟨t,e⟩,⟨_,e⟩,fun _ _ ⟨t,z⟩ k=>⟨t,k _ z⟩⟩
variable {X:Cx} {pins:List (Addr×Obj)} {σ:St} {H:Hp} {s:Shared}
theorem setattr_exi {A:Around} {E:Value→Shared→Prop} {Q:Unit→Shared→Prop} {e C:Addr} {f:Str} {y:V} {u:Value} (I:Inv X pins σ H s) (he:H e = some (excN e C none)) (c:ExiCls X.K C) (n:PySem.W.findIn X.K (.ref C) f = some none) (ry:RelV y u)
    (h:∀ dx s',H dx = none→Inv X pins σ (upd (upd H e (excN e C (some dx))) dx (.xd [(f,y)])) s'→Q () s'):wpAny (model X.prog X.w) A (setAttr (.ref e) f u) Q E s:=by
  obtain ⟨⟨t,ob⟩,_,_⟩:ObjOk X.prog X.w H s.heap e (excN e C none):=I.hok e _ he
  refine exc_store I.kIn c n ob fun h1 ob1 ns1 k1=>?_
  have hf:H s.heap.objs.size = none:=I.hok.fresh (Nat.le_refl _)
  have n0:s.heap.get? s.heap.objs.size = none:=Heap.get?_none_of_le (Nat.le_refl _)
  have ne:s.heap.objs.size≠e:=fun z=>by rw [z,ob] at n0; cases n0
  have J:=I.write (x:=e) (e:=e) (o:=excN e C (some s.heap.objs.size)) (h':=h1) (t':=s.toks + 2) (by rw [he]; trivial) (.inl rfl) (fun b o nb q=>k1 b o nb q) ⟨_,ob1⟩ (excN_ok ob1)
  obtain ⟨m,hn,_⟩:=id I.loc
  obtain ⟨oL,_,_,hoL,_⟩:=id hn
  refine h s.heap.objs.size _ hf (J.know (fun x=>?_) (fun z=>?_) (fun x c q z=>?_) (fun p hp z=>?_) (by rw [upd_ne ne]; exact hf) ⟨_,ns1,fun g=>?_⟩)
  · cases q:X.s₀.heap.get? s.heap.objs.size with
    | none=>rfl
    | some o=>
      obtain ⟨o',z⟩:=I.base.there _ o q x
      rw [n0] at z
      cases z
  · rw [← z,n0] at hoL; cases hoL
  · obtain ⟨w',oc,e1,_⟩:=I.cell x c q
    rw [z,n0] at e1; cases e1
  · have:=(I.pin p hp).1
    rw [z,n0] at this; cases this
  · by_cases eg:g = f
    · subst eg
      rw [if_pos rfl,List.lookup_cons_self]
      exact ry
    · rw [if_neg eg,List.lookup_cons,show (g == f) = false from beq_eq_false_iff_ne.mpr eg]
      trivial
def sXfld (K:PySem.W.Frag) (ta tv:TE) (f:Str):TS:=fun D σ H=>tv σ H fun y H1=>ta σ H1 fun x H2=>∃ e C,x = .ref e∧H2 e = some (excN e C none)∧ExiCls K C∧PySem.W.findIn K (.ref C) f = some none∧
  ∀ dx,H2 dx = none→D.nx σ (upd (upd H2 e (excN e C (some dx))) dx (.xd [(f,y)]))
theorem ps_xfld {o value:Expr} {f:Str} {pos pos':Pos} {ta tv:TE} (ha:PE X o ta) (hv:PE X value tv) (hs:swapsWith value (some (.Attribute o f pos')) pos.line X.env = pure false):PS X (.Assign [.Attribute o f pos'] value pos) (sXfld X.K ta tv f):=by
  intro pins s σ H D I h
  refine plainObj_wpAny_Assign_Attribute (thn (hv pins s σ H _ I h) fun u s1 ⟨y,H1,I1,ry,q⟩=>thn (ha pins s1 σ H1 _ I1 q) fun ov s2 ⟨x,H2,I2,rx,e,C,ex,he,c,n,q2⟩=>?_) hs
  subst ex
  obtain rfl:ov = Value.ref e:=rx
  exact setattr_exi I2 he c n ry fun dx s3 hd I3=>⟨σ,_,I3,q2 dx hd⟩
structure MkX (K:PySem.W.Frag) (C f:Addr):Prop where
  ex:exiIn K C = true
  init:PySem.W.findIn K (.ref C) "__init__" = some (some (.ref f))
  fn:PySem.W.isFn K (.ref f) = true
  kp:PySem.W.keepIn K (.ref C) = true
theorem run_exi {CX:CXT} {k:Nat} {f C:Addr} {fd:FuncData} {ps:List Str} {sp:Sp} {Q:VK} {us:List Value} {vs:List V} (M:MkX X.K C f) (F:FnOk X.prog X.w X.K X.mg X.base CX k f fd ps sp) (hr:Room (k + 1) X.A) (hb:Binds X.K fd ps []) (hx:Passes CX X E0) (hl:us.length≤sizeLine)
    (I:Inv X pins σ H s) (r:Vals vs us) (hq:sp (.ref (s.heap.objs.size + 1) :: vs) (upd H (s.heap.objs.size + 1) (excN (s.heap.objs.size + 1) C none)) (fun v H2=>v = .non∧Q (.ref (s.heap.objs.size + 1)) H2) E0):wpAny (model X.prog X.w) X.A (call (.ref C) us) (EP X pins σ Q) X.xe s:=by
  refine exi_call I.kIn M.ex M.init (beq_iff_eq.mp M.fn) hl fun h1 k1 e1 z1=>?_
  have I2:=I.laid (a:=s.heap.objs.size + 1) (o:=excN (s.heap.objs.size + 1) C none) (h':=h1) (t':=s.toks) k1 (Nat.le_succ _) (excN_ok e1)
  have r2:Vals (V.ref (s.heap.objs.size + 1) :: vs) (Value.ref (s.heap.objs.size + 1) :: us):=.cons rfl r
  have hn:(Value.ref (s.heap.objs.size + 1) :: us).length = ps.length:=r2.length.symm.trans (F.len _ _ _ _ hq)
  have hb':=hb { s with heap:=h1 } (Value.ref (s.heap.objs.size + 1) :: us) I2.kIn (by rw [List.append_nil]; exact hn)
  rw [List.append_nil] at hb'
  refine wpAny_call (codeAny_mono (F.run _ X.stack _ _ ⟨Value.ref (s.heap.objs.size + 1) :: us,[]⟩ (Value.ref (s.heap.objs.size + 1) :: us) _ _ _ (hr.make C us []) (I2.env0.make C us []) hb' r2 hq) fun r s' z=>?_)
  match r,z with
  | .error e,z=>exact hx pins σ _ _ e s' I2 z
  | .ok (.ret u),z=>
    obtain ⟨v,H',I3,rv,ev,q3⟩:=I2.after z
    subst ev
    exact ⟨rv,⟨V.ref (s.heap.objs.size + 1),H',I3,rfl,q3⟩⟩
theorem exi_raise {M:Model} {A:Around} {E:Value→Shared→Prop} {K:PySem.W.Frag} {env:Env} {y:Sem Value} {Q:Flow→Shared→Prop} {s:Shared} (hh:A.handled = none)
    (h:wpAny M A y (fun v s1=>∃ e C t d,v = .ref e∧K.In s1.heap∧exiIn K C = true∧s1.heap.get? e = some (rawExc C t d)∧E (.ref e) s1) E s):wpAny M A (raiseStmt env (some y) none) Q E s:=by
  unfold raiseStmt
  refine wpAny_bind (wpAny_mono h (fun v s1 z=>?_) fun _ _ z=>z)
  obtain ⟨e,C,t,d,rfl,k,hq,he,hE⟩:=z
  obtain ⟨tl,N,nm,qn,bs,hd,sn,sub,ab,col,dd,k0,k1,k2,k3,k5,oc,T⟩:=exi_obj k hq
  obtain ⟨hp,g,dr,tk,os⟩:=s1
  change hp.get? e = some ⟨.ref C,d,.fields #[.ref t,.none,.none,.none,.bool false,.none],#[]⟩ at he
  have inB:(Value.ref C :: tl).contains (.type "BaseException") = true:=by rw [List.contains_cons,T.hasType PySem.F.excBase_ValueError.hasBase,Bool.or_true]
  repeat (first | (with_reducible refine wpAny_loadPart_at he ?_) | (with_reducible refine wpAny_loadPart_at oc ?_) | ((with_reducible refine wpAny_isSubtype_exc oc ?_); rw [inB]) | wp_step)
  exact wpAny_raiseNew_none hh hE
end
section
open PySem PySem.Spec PyProof.Rows
def del (H:Hp) (e:Addr):Hp:=fun b=>if b = e then none else H b
theorem del_same {H:Hp} {e:Addr}:del H e e = none:=by unfold del; rw [if_pos rfl]
theorem del_ne {H:Hp} {b e:Addr} (h:b≠e):del H e b = H b:=by unfold del; rw [if_neg h]
def CXe (P:Program) (w:World):CXT:=fun outer H s E e s'=>∃ (ea:Addr) (cls:Value) (H':Hp) (B:Heap) (a0:Value) (d:Option Addr),e = .ref ea∧Fly P w outer H s ea cls H' B a0 s'∧DictAt s'.heap ea d∧E cls d H'
theorem dict_of {h:Heap} {e:Addr} {o:Obj} (q:h.get? e = some o) (f:Fld2 o):DictAt h e o.dict:=by
  unfold Heap.get? at q
  split at q
  · cases q
  · exact ⟨o,q,rfl,f⟩
theorem DictAt.get {h:Heap} {e:Addr} {d:Option Addr} {o:Obj} (j:DictAt h e d) (q:h.get? e = some o):o.dict = d∧Fld2 o:=by
  obtain ⟨o1,e1,h1⟩:=j
  unfold Heap.get? at q
  rw [e1] at q
  split at q
  · cases q
  · cases q; exact h1
section
variable {P:Program} {w:World} {K:PySem.W.Frag} {mg:Str→Option Value} {base:Heap} {N:List Str} {qual:Str} {scope:Scope} {f:Addr} {cd:Value} {A:Around} {outer:List Env} {s:Shared} {H:Hp} {E:XK}
theorem apart_upE {CX:CXT} {pins:List (Addr×Obj)} {σ:St} {H1:Hp} {s1:Shared} (I:Inv (cxOf CX P w K mg base N qual scope f cd A outer s H E) pins σ H1 s1) {b:Addr} {o:Obj} (q:s.heap.get? b = some o) (hb:b ∉ frs outer) :
    b ∉ frs (envOfC qual scope s.heap.objs.size f cd :: outer):=fun z=>by
  rcases List.mem_cons.mp (I.stkSub b z) with e | e
  · have h1:s.heap.objs.size≤b:=by rw [e]; exact I.ok.above
    exact absurd (Nat.lt_of_lt_of_le (Heap.lt_size q) h1) (Nat.lt_irrefl _)
  · exact hb e
theorem raise_upE {pins:List (Addr×Obj)} {σ:St} {H1:Hp} {s1:Shared} {ea C:Addr} {d:Option Addr} (I:Inv (cxOf (CXe P w) P w K mg base N qual scope f cd A outer s H E) pins σ H1 s1) (he:H1 ea = some (excN ea C d)) (hn:s.heap.objs.size≤ea) (q:E (.ref C) d (del H1 ea)) :
    (cxOf (CXe P w) P w K mg base N qual scope f cd A outer s H E).xe (.ref ea) s1:=by
  have hfr:=I.ok.frames
  obtain ⟨⟨t,ob⟩,_,_⟩:ObjOk P w H1 s1.heap ea (excN ea C d):=I.hok ea _ he
  have nf:ea ∉ frs (envOfC qual scope s.heap.objs.size f cd :: outer):=fun z=>by
    have:=I.stkFree ea z
    rw [he] at this; cases this
  have nofs:s.heap.get? ea = none:=Heap.get?_none_of_le hn
  have hid:∀ {b:Addr} {o:Obj},s1.heap.get? b = some o→b≠ea→b ∉ frs (envOfC qual scope s.heap.objs.size f cd :: outer)→(PySem.W.hideAll s1.heap (ea :: frs (envOfC qual scope s.heap.objs.size f cd :: outer))).get? b = some o:=fun e n1 n2=>PySem.W.hideAll_get _ e fun z=>(List.mem_cons.mp z).elim n1 n2
  have ff:s1.heap.FunFrames (PySem.W.hideAll s1.heap (ea :: frs (envOfC qual scope s.heap.objs.size f cd :: outer))) (envOfC qual scope s.heap.objs.size f cd :: outer):=PySem.W.funFrames_hide I.stack fun env he a ha=>List.mem_cons_of_mem _ (List.mem_filterMap.mpr ⟨env,he,ha⟩)
  have hen:(PySem.W.hideAll s1.heap (ea :: frs (envOfC qual scope s.heap.objs.size f cd :: outer))).get? ea = none:=PySem.W.hideAll_none _ List.mem_cons_self
  refine (dk_leaving _ _).also (dict_of ob ⟨_,rfl,rfl⟩) (wpAny_leaving_firstW (base:=PySem.W.hideAll s1.heap (ea :: frs (envOfC qual scope s.heap.objs.size f cd :: outer))) (a0:=.ref t) hfr ff rfl ob (fun b o e=>PySem.W.of_hideAll _ e) hen rfl rfl rfl fun h' hL dj=>?_)
  obtain ⟨k1,⟨_,_,k2⟩,k3,k4⟩:=hL
  generalize PySem.W.hideAll s1.heap (ea :: frs (envOfC qual scope s.heap.objs.size f cd :: outer)) = B at hid ff hen k1 k2 k3
  have nt:∀ {b:Addr} {u:HO},H1 b = some u→(∀ φ,u≠.ext φ)→del H1 ea b = some u:=fun {b u} e n=>by
    rw [del_ne (fun z=>by rw [z,he] at e; cases e; exact n _ rfl)]; exact e
  have sl:∀ b o,s1.heap.get? b = some o→b∈frs (envOfC qual scope s.heap.objs.size f cd :: outer)→∃ z,h'.get? b = some { o with slots:=z }:=fun b o e hb=>by
    obtain ⟨_,o',ho',hd⟩:=I.stack.mem hb
    rw [e] at ho'
    cases ho'
    exact k4 b o e hd
  have un:Un (frs (envOfC qual scope s.heap.objs.size f cd :: outer)) [] H1 (del H1 ea) s1.heap h':=by
    refine ⟨fun b o e n hb _=>k1 b o (hid e (fun z=>by rw [z,he] at n; cases n) hb),fun b o e _ hb _=>sl b o e hb,fun b o _ n _=>?_,fun b o e _=>?_,fun b xs e=>nt e (by intro _ z; cases z),fun b o u e=>nt e (by intro _ z; cases z),fun b ps e=>⟨#[],by rw [nt e (by intro _ z; cases z)]; simp⟩⟩
    · unfold del; split
      · rfl
      · exact n
    · by_cases z:b = ea
      · rw [z]
        obtain ⟨oe,_,_,_,_,e1,_⟩:=k3
        exact ⟨_,e1⟩
      · by_cases hb:b∈frs (envOfC qual scope s.heap.objs.size f cd :: outer)
        · obtain ⟨z,e1⟩:=sl b o e hb
          exact ⟨_,e1⟩
        · exact ⟨o,k1 b o (hid e z hb)⟩
  have hok:HOk P w (del H1 ea) B:=fun b u e=>by
    have nb:b≠ea:=fun z=>by rw [z,del_same] at e; cases e
    rw [del_ne nb] at e
    refine (I.hok b u e).stay (fun c v hc z=>hid z (fun y=>?_) fun y=>?_) (fun c z=>nt z (by intro _ z; cases z)) fun c xs z=>nt z (by intro _ z; cases z)
    · rcases hc with rfl | hc
      · exact nb y
      · rw [y,he] at hc; cases hc
    · have:=I.stkFree c y
      rcases hc with rfl | hc
      · rw [e] at this; cases this
      · rw [hc] at this; cases this
  have J:=I.call' (s':={ s1 with heap:=h' }) (ch:=[]) rfl un (hok.kept k1) I.bare (fun b z=>nomatch z)
  refine ⟨ea,_,del H1 ea,B,.ref t,d,rfl,⟨J.os,I.bare,J.base,hok,⟨k1,hen,k2,k3⟩,fun b o e n hb=>?_,fun b o e hb=>?_⟩,dj,q⟩
  · exact hid (I.base.keep b o e n hb (by intro z; cases z)) (fun z=>by rw [z,nofs] at e; cases e) (apart_upE I e hb)
  · obtain ⟨o1,e1⟩:=I.base.there b o e (by intro z; cases z)
    exact ⟨o1,hid e1 (fun z=>by rw [z,nofs] at e; cases e) (apart_upE I e hb)⟩
end
end
section
open PySem PySem.Spec PyProof.Rows
def RUpE (X:Cx) (E:XK):Prop:=∀ (pins:List (Addr×Obj)) (σ:St) (H:Hp) (s:Shared) (ea C:Addr) (d:Option Addr),Inv X pins σ H s→H ea = some (excN ea C d)→X.s₀.heap.objs.size≤ea→E (.ref C) d (del H ea)→X.xe (.ref ea) s
theorem raise_upE0 {P:Program} {w:World} {K:PySem.W.Frag} {mg:Str→Option Value} {base:Heap} {N:List Str} {qual:Str} {scope:Scope} {f:Addr} {cd:Value} {A:Around} {outer:List Env} {s:Shared} {H:Hp} {E:XK}:RUpE (cxOf (CXe P w) P w K mg base N qual scope f cd A outer s H E) E:=
  fun _ _ _ _ _ _ _ I he hn q=>raise_upE I he hn q
def spXini (C:Addr) (f:Str):Sp:=fun vs H Q _=>∃ e y,vs = [.ref e,y]∧H e = some (excN e C none)∧∀ dx,H dx = none→Q .non (upd (upd H e (excN e C (some dx))) dx (.xd [(f,y)]))
def XDef (P:Program) (w:World) (K:PySem.W.Frag) (mg:Str→Option Value) (base:Heap) (k:Nat) (x:Str) (C:Addr) (f:Str) (ps:List Str):Prop:=
  ∃ (fI:Addr) (fd:FuncData),MkX K C fI∧FnOk P w K mg base CX0 k fI fd ps (spXini C f)∧mg x = some (.ref C)∧Binds K fd ps []
def sRaise1 (C:Addr) (f:Str) (E:XK) (t:TA):TS:=fun _ σ H=>t σ H fun vs H1=>∃ y,vs = [y]∧∀ dx,H1 dx = none→E (.ref C) (some dx) (upd H1 dx (.xd [(f,y)]))
variable {X:Cx} {E:XK} {x:Str} {C:Addr} {f:Str} {ps:List Str} {k:Nat} {e:Expr} {t:TA} {np cpos pos:Pos}
theorem ps_raise1 (R:RUpE X E) (hc:X.calm = true) (D:XDef X.prog X.w X.K X.mg X.base k x C f ps) (hr:Room (k + 1) X.A) (hg:Gl X x) (ha:PA X [e] t) (hdb:(x == ("__debug__":Str)) = false:=by decide) (he:starEach [e] X.env = [(false,eval e X.env)]:=by rfl) :
    PS X (.Raise (some (.Call (.Name x np) [e] [] cpos)) none pos) (sRaise1 C f E t):=by
  intro pins s σ H Dn I h
  obtain ⟨fI,fd,M,F,hm,hb⟩:=D
  rw [arm_exec_Raise]
  refine wpAny_bind (wpAny_standAt (exi_raise (K:=X.K) (I.ok.hd hc) (wpAny_bind ?_)))
  refine wpAny_Call_Name_kw (ld_glob I hg hm ?_ hdb)
  refine PySem.W.callWith_K (h₀:=X.base) I.ok.mod.kin M.kp (thn (ha cpos pins s σ H _ I h) fun us s1 ⟨vs,H1,I1,r,y,ev,q⟩=>⟨I1.kIn,?_⟩) he rfl
  subst ev
  have hl2:us.length≤sizeLine:=by rw [← r.length,sizeLine_eq]; show 1≤_; decide
  have h1:=I1.hok.fresh (Nat.le_succ s1.heap.objs.size)
  refine thn (run_exi (Q:=fun v H2=>v = .ref (s1.heap.objs.size + 1)∧∃ dx,H2 (s1.heap.objs.size + 1) = some (excN (s1.heap.objs.size + 1) C (some dx))∧E (.ref C) (some dx) (del H2 (s1.heap.objs.size + 1))) M F hr hb pass0 hl2 I1 r ⟨_,y,rfl,upd_same,fun dx hd=>⟨rfl,rfl,dx,?_,?_⟩⟩) fun v s2 z=>?_
  · have nd:s1.heap.objs.size + 1≠dx:=fun z=>by rw [← z,upd_same] at hd; cases hd
    rw [upd_ne nd,upd_same]
  · have nd:dx≠s1.heap.objs.size + 1:=fun z=>by rw [z,upd_same] at hd; cases hd
    rw [upd_ne nd] at hd
    have eq:del (upd (upd (upd H1 (s1.heap.objs.size + 1) (excN (s1.heap.objs.size + 1) C none)) (s1.heap.objs.size + 1) (excN (s1.heap.objs.size + 1) C (some dx))) dx (.xd [(f,y)])) (s1.heap.objs.size + 1) = upd H1 dx (.xd [(f,y)]):=by
      funext b
      by_cases e1:b = s1.heap.objs.size + 1
      · rw [e1,del_same,upd_ne (Ne.symm nd)]
        exact h1.symm
      · rw [del_ne e1]
        by_cases e2:b = dx
        · rw [e2,upd_same,upd_same]
        · rw [upd_ne e2,upd_ne e1,upd_ne e1,upd_ne e2]
    rw [eq]
    exact q dx hd
  · obtain ⟨v',H2,I2,rv,ev,dx,h2,q2⟩:=z
    subst ev
    obtain rfl:v = .ref (s1.heap.objs.size + 1):=rv
    obtain ⟨⟨t2,ob⟩,_,_⟩:ObjOk X.prog X.w H2 s2.heap (s1.heap.objs.size + 1) (excN (s1.heap.objs.size + 1) C (some dx)):=I2.hok _ _ h2
    refine wpAny_bind (wpAny_standAt (wpAny_pure ⟨_,C,t2,some dx,rfl,I2.kIn,M.ex,ob,R pins σ H2 s2 _ C _ I2 h2 ?_ q2⟩))
    obtain ⟨m,⟨oL,_,_,hoL,_⟩,_⟩:=id I1.loc
    exact Nat.le_of_lt (Nat.lt_of_le_of_lt I1.ok.above (Nat.lt_succ_of_lt (Heap.lt_size hoL)))
def DefE (P:Program) (w:World) (K:PySem.W.Frag) (mg:Str→Option Value) (base:Heap) (k:Nat) (x:Str) (ps:List Str) (sp:Sp):Prop:=
  ∃ (f:Addr) (fd:FuncData),FnOk P w K mg base (CXe P w) k f fd ps sp∧mg x = some (.ref f)∧PySem.W.keepIn K (.ref f) = true∧Binds K fd ps []
theorem Fun.okE {P:Program} {w:World} {K:PySem.W.Frag} {mg:Str→Option Value} {base:Heap} {x qual:Str} {st:Stmt} {f:Addr} {fd:FuncData} {N ps:List Str} {k:Nat} {sp:Sp} (F:Fun K x qual st f fd) (S:FnScope N ps (defScope st)) (len:∀ vs H Q E,sp vs H Q E→vs.length = ps.length)
    (hbody:∀ (cdv:Value) (A:Around) (outer:List Env) (s:Shared) (H:Hp) (vs:List V) (Q:VK) (E:XK),Room k (A.deeper (envOfC qual (defScope st) s.heap.objs.size f cdv))→sp vs H Q E→
      ∃ t,PSs (cxOf (CXe P w) P w K mg base N qual (defScope st) f cdv A outer s H E) (defBody st) t∧t { nx:=fun _ H'=>Q .non H',rt:=Q } (start N vs) H):FnOk P w K mg base (CXe P w) (k + 1) f fd ps sp:=by
  obtain ⟨oc,od,kV,doc,pm,an,cdv,ct,osl,rfl,lk,hcd⟩:=F.ex
  exact fn_of lk hcd S len fun A outer s H vs Q E hr hsp=>hbody cdv A outer s H vs Q E hr hsp
end
section
open PySem PySem.Spec PyProof.Rows
variable {X:Cx} {k:Nat} {x:Str} {ps:List Str} {sp:Sp} {E:XK} {e:Expr} {es:List Expr} {t:TA} {p pos:Pos}
abbrev XSe:=Value→Option Addr→St→Hp→Prop
abbrev TXe:=Ends→XSe→St→Hp→Prop
def XPe (X:Cx) (pins:List (Addr×Obj)) (Ex:XSe) (e:Value) (s':Shared):Prop:=
  ∃ (ea:Addr) (cls:Value) (σ':St) (H1 H':Hp) (s1:Shared) (B:Heap) (a0:Value) (d:Option Addr),e = .ref ea∧Inv X pins σ' H1 s1∧Fly X.prog X.w X.stack H1 s1 ea cls H' B a0 s'∧DictAt s'.heap ea d∧Ex cls d σ' H'
def PXe (X:Cx) (st:Stmt) (t:TXe):Prop:=
  ∀ (pins:List (Addr×Obj)) (s:Shared) (σ:St) (H:Hp) (D:Ends) (Ex:XSe),Inv X pins σ H s→t D Ex σ H→wpAny (model X.prog X.w) X.A (exec st X.env) (SP X pins D) (XPe X pins Ex) s
def PXes (X:Cx) (st:List Stmt) (t:TXe):Prop:=
  ∀ (pins:List (Addr×Obj)) (s:Shared) (σ:St) (H:Hp) (D:Ends) (Ex:XSe),Inv X pins σ H s→t D Ex σ H→wpAny (model X.prog X.w) X.A (execs st X.env) (SP X pins D) (XPe X pins Ex) s
def PEXe (X:Cx) (e:Expr) (t:(Value→Option Addr→Hp→Prop)→TE):Prop:=
  ∀ (pins:List (Addr×Obj)) (s:Shared) (σ:St) (H:Hp) (Q:VK) (Ex:Value→Option Addr→Hp→Prop),Inv X pins σ H s→t Ex σ H Q→wpAny (model X.prog X.w) X.A (eval e X.env) (EP X pins σ Q) (XPe X pins fun cls d σ' H'=>σ' = σ∧Ex cls d H') s
theorem xpe_of {pins:List (Addr×Obj)} {σ:St} {Ex:XSe} {v:Value} {s:Shared} (h:XPe X pins (fun cls d σ' H'=>σ' = σ∧Ex cls d σ H') v s):XPe X pins Ex v s:=by
  obtain ⟨ea,cls,σ',H1,H',s1,B,a0,d,h1,h2,h3,h4,h5,h6⟩:=h
  subst h5
  exact ⟨ea,cls,_,H1,H',s1,B,a0,d,h1,h2,h3,h4,h6⟩
def xeSet (i:Nat) (te:(Value→Option Addr→Hp→Prop)→TE):TXe:=fun D Ex σ H=>te (fun cls d H'=>Ex cls d σ H') σ H fun x H1=>D.nx (σ.set i (some x)) H1
theorem pxe_set {i:Nat} {y:Str} {te:(Value→Option Addr→Hp→Prop)→TE} {pos':Pos} (hN:X.N.Nodup) (hi:X.N[i]? = some y) (hy:Loc X.env.scope y) (he:PEXe X e te) (hs:swapsWith e (some (.Name y pos')) pos.line X.env = pure false:=by rfl)
    (hf:X.fn y = true∨X.env.scope.names.lookup y = some .local:=by first | exact .inl rfl | exact .inr rfl | assumption):PXe X (.Assign [.Name y pos'] e pos) (xeSet i te):=by
  intro pins s σ H D Ex I h
  refine wpAny_Assign_Name (wpAny_mono (he pins s σ H _ _ I h) (fun v s1 ⟨y,H1,I1,r1,q1⟩=>?_) fun _ _ z=>xpe_of z) hs
  exact store_ok I1 hN hi hy r1 (fun s2 I2=>⟨_,H1,I2,q1⟩) hf
theorem pxes_one {st:Stmt} {u:TXe} (h1:PXe X st u):PXes X [st] u:=by
  intro pins s σ H D Ex I h
  refine wpAny_execs_cons (thn (h1 pins s σ H D Ex I h) fun f s1 q=>?_)
  cases f with
  | next=>exact wpAny_execs_nil q
  | ret v=>exact q
  | brk=>exact q
  | cont=>exact q
theorem pexe_fn (D:DefE X.prog X.w X.K X.mg X.base k x ps sp) (hr:Room k X.A) (hg:Gl X x) (ha:PA X.nox (e :: es) t)
    (hdb:(x == ("__debug__":Str)) = false:=by decide) (he:starEach (e :: es) X.env = (false,eval e X.env) :: starEach es X.env:=by rfl) (hpl:(backTo pos (starEach es X.env)).any (·.1) = false:=by rfl) :
    PEXe X (.Call (.Name x p) (e :: es) [] pos) (fun Ex=>tCall sp [] (fun cls d H'=>Ex cls d H') t):=by
  obtain ⟨f,fd,F,hm,hk,hb⟩:=D
  intro pins s σ H Q Ex I h
  refine wpAny_Call_Name_kw (ld_glob I hg hm ?_ hdb)
  refine PySem.W.callWith_K (h₀:=X.base) I.ok.mod.kin hk (wpAny_mono (ha pos pins s σ H _ (I.wish _) h) (fun us s1 ⟨vs,H1,I1,r,q⟩=>⟨I1.kIn,?_⟩) fun _ _ z=>False.elim z) he hpl
  have J:=I1.unwish
  have q':sp vs H1 Q fun cls d H'=>Ex cls d H':=by rw [← List.append_nil vs]; exact q
  have hl:us.length = ps.length:=by rw [← r.length]; exact F.len _ _ _ _ q'
  have hb':=hb s1 us J.kIn (by rw [List.append_nil]; exact hl)
  rw [List.append_nil] at hb'
  refine wpAny_call (codeAny_mono (F.run X.A X.stack s1 H1 ⟨us,[]⟩ us vs Q _ hr J.env0 hb' r q') fun r s' z=>?_)
  match r,z with
  | .error e,⟨ea,cls,H',B,a0,d,he,Fl,dj,q⟩=>exact ⟨ea,cls,σ,H1,H',s1,B,a0,d,he,J,Fl,dj,rfl,q⟩
  | .ok (.ret u),z=>exact J.after z
end
section
open PySem PySem.Calls PyProof.Rows PySem.W
structure IsExcD (h:Heap) (e D:Addr) (d:Option Addr):Prop where
  is:IsExc h e D
  dj:∃ o,h.get? e = some o∧o.dict = d∧Fld2 o
theorem IsExcD.stays {h1 h2:Heap} {e D:Addr} {d:Option Addr} (z:IsExcD h1 e D d) (k:∀ o,h1.get? e = some o→h2.get? e = some o):IsExcD h2 e D d:=by
  obtain ⟨a,o,q,hd⟩:=z
  exact ⟨a.stays k,o,k o q,hd⟩
end
section
open PySem PySem.Spec PyProof.Rows
def excD (e D:Addr) (d:Option Addr):HO:=.ext fun h=>IsExcD h e D d
variable {X:Cx} {pins:List (Addr×Obj)} {σ:St} {H:Hp} {s:Shared}
theorem Inv.knowD {H':Hp} {s':Shared} {ea C:Addr} {a0:Value} {B h':Heap} {d:Option Addr} (I:Inv X pins σ H s) (F:Fly X.prog X.w X.stack H s ea (.ref C) H' B a0 s') (J:Inv X pins σ H' { s' with heap:=h' }) (T:h'.TracedW B ea (.ref C) a0) (dj:DictAt h' ea d):Inv X pins σ (upd H' ea (excD ea C d)) { s' with heap:=h' }:=by
  have n:=I.flown F
  obtain ⟨m,hn,_⟩:=id I.loc
  obtain ⟨oL,_,_,hoL,_⟩:=id hn
  obtain ⟨oe,vs,_,_,_,he,⟨hc,_⟩,hv,_⟩:=T
  have ise:IsExcD h' ea C d:=⟨⟨oe,he,hc,vs,hv⟩,oe,he,dj.get he⟩
  refine J.know (fun x=>?_) (fun z=>?_) (fun x c q z=>?_) (fun p hp z=>?_) F.free ⟨ise,⟨oe,he⟩,fun h1 h2 z k=>z.stays k⟩
  · cases q:X.s₀.heap.get? ea with
    | none=>rfl
    | some o=>
      obtain ⟨o',z⟩:=I.base.there ea o q x
      rw [n] at z
      cases z
  · rw [← z,n] at hoL; cases hoL
  · obtain ⟨w',oc,e,_⟩:=I.cell x c q
    rw [z,n] at e; cases e
  · have:=(I.pin p hp).1
    rw [z,n] at this; cases this
variable {x n:Str} {c:Value} {body orelse suite:List Stmt} {b₀:Stmt} {np hpos pos:Pos} {i:Nat}
def tTryAsE (K:PySem.W.Frag) (c:Value) (i:Nat) (tb:TXe) (te:TS) (ts:Addr→TS):TS:=fun D σ H=>tb { D with nx:=te D } (fun cls d σ' H'=>PySem.W.exmOne K cls c = some true∧∃ C:Addr,cls = .ref C∧∀ ea,H' ea = none→
  ts ea { nx:=fun σ H=>D.nx (σ.set i none) H,rt:=D.rt,bk:=fun σ H=>D.bk (σ.set i none) H,ct:=fun σ H=>D.ct (σ.set i none) H } (σ'.set i (some (.ref ea))) (upd H' ea (excD ea C d))) σ H
theorem ps_tryAsE {tb:TXe} {te:TS} {ts:Addr→TS} (hst:X.stack = X.env :: X.outer∧X.env.frame = some X.env.locals) (hm:X.mg x = some c) (hg:Gl X x) (hN:X.N.Nodup) (hi:X.N[i]? = some n) (hk:X.env.scope.names.lookup n = some .local) (hb:PXes X body tb) (he:PSs X orelse te) (hs:∀ ea:Addr,PSs (X.held (.ref ea)) (b₀ :: suite) (ts ea))
    (hd:(x == ("__debug__":Str)) = false:=by decide):PS X (.Try body [.ExceptHandler (some (.Name x np)) (some n) (b₀ :: suite) hpos] orelse [] pos) (tTryAsE X.K c i tb te ts):=by
  intro pins s σ H D I h
  refine wpAny_Try_except (wpAny_mono (hb pins s σ H _ _ I h) (fun f s1 q=>?_) fun e s1 q=>?_)
  · cases f with
    | next=>
      obtain ⟨σ',H',I',q⟩:=q
      exact he pins s1 σ' H' D I' q
    | ret v=>exact q
    | brk=>exact q
    | cont=>exact q
  · obtain ⟨ea,cls,σ',H1,H',s2,B,a0,d,rfl,I2,F,dj,hx,C,hC,q⟩:=q
    subst hC
    have hfr:=I.ok.frames
    have fl:=F.fl
    rw [hst.1] at hfr fl
    refine (dk_noteFrame _ _).also dj (wpAny_looks_onW hfr hst.2 fl fun h4 held4 up4 dj4=>?_)
    refine (dk_setFlight _ _).also dj4 (wpAny_landsW held4 fun h5 fl5 up5 dj5=>?_)
    have J5:=I2.landed F fl5.1 (up4.trans up5)
    refine wpAny_handleBy_cons (codeAny_handlers_test (ld_glob (J5.held (.ref ea)) hg hm ?_ hd)) (by intro z; cases z)
    obtain ⟨ob,hob,hcls⟩:=fl5.there
    have LT:PySem.W.Looks (model X.prog X.w) h5 (typeOf (.ref ea)) (.ref C):=by
      rw [← hcls]
      exact (PySem.W.Looks.ld hob).andThen .now
    refine (PySem.W.exm_one J5.kIn LT hx).here ?_
    refine codeAny_handlers_suite_as ((dk_setFlight _ _).also dj5 (lands_againW fl5 fun h6 fl6 up6 dj6=>?_))
    have J6:=I2.landed F fl6.1 ((up4.trans up5).trans up6)
    have J7:=I2.knowD F J6 fl6.2.2.2 dj6
    refine store_ok (v:=.ref ea) J7 hN hi (.inl hk) rfl (fun s8 I8=>?_) (.inr hk)
    refine wpAny_mono (hs ea pins s8 _ _ _ (I8.held (.ref ea)) (q ea F.free)) (fun f s9 z=>?_) fun _ _ z=>False.elim z
    have z':=z.unheld J7
    cases f with
    | next=>
      obtain ⟨σ9,H9,I9,q9⟩:=z'
      exact goes_ok I9 hN hi hk fun s10 I10=>⟨_,_,I10,q9⟩
    | brk=>
      obtain ⟨σ9,H9,I9,q9⟩:=z'
      exact goes_ok I9 hN hi hk fun s10 I10=>⟨_,_,I10,q9⟩
    | cont=>
      obtain ⟨σ9,H9,I9,q9⟩:=z'
      exact goes_ok I9 hN hi hk fun s10 I10=>⟨_,_,I10,q9⟩
    | ret u=>
      obtain ⟨v,σ9,H9,I9,r9,q9⟩:=z'
      exact goes_ok I9 hN hi hk fun s10 I10=>⟨v,_,_,I10,r9,q9⟩
end
section
open PySem PySem.Calls PyProof.Rows PySem.W Builtin Builtin.ObjectAttr Builtin.Getset_descriptor
variable {prog:Program} {w:World} {A:Around} {E:Value→Shared→Prop} {K:Frag} {e D:Addr} {oe od:Obj} {name:Str} {v:Value} {s:Shared}
theorem exc_find2 {tk:Tok} {Q:Fin→Shared→Prop} (k:K.In s.heap) (I:InstAt s.heap e oe D (some od)) (hf:findObj K D (some od) name = some (.value v)) (q:Q (.done (.ret v)) s) :
    wpAny (model prog w) A (Builtin.«object.__getattribute__» ⟨[.ref e,.str name tk],[]⟩) Q E s:=by
  have T0:=I.type (M:=model prog w)
  have T1:=looks_find (M:=model prog w) k I hf
  have s0:slotArgs "__getattribute__" 1 ⟨[.ref e,.str name tk],[]⟩ = pure (Value.ref e,[Value.str name tk]):=by kernel_rfl
  have s1:attrName (.str name tk) = pure name:=by kernel_rfl
  simp only [Builtin.«object.__getattribute__»,s0]
  refine wpAny_bind (wpAny_pure ?_)
  dsimp only
  rw [s1]
  refine wpAny_bind (wpAny_pure (wpAny_bind (T0.here (wpAny_bind (T1.here ?_)))))
  exact wpAny_pure q
theorem exc_get {expr:Bool} {Q:Value→Shared→Prop} (k:K.In s.heap) (I:InstAt s.heap e oe D (some od)) (z:IsExc s.heap e D) (c:ExcCls K D) (hf:findObj K D (some od) name = some (.value v)) (hh:handedIn v = true) (q:Q v { s with toks:=s.toks + 1 }) :
    wpAny (model prog w) A (getAttr (.ref e) name expr) Q E s:=by
  obtain ⟨h1,g1,d1,t1,o1⟩:=s
  have T0:=I.type (M:=model prog w)
  have T1:=looks_findIn (M:=model prog w) k c.ga
  have T2:=looks_findIn (M:=model prog w) k c.gg
  have B:=F.excAttr_ValueError.ga.bind (.ref e)
  unfold getAttr getAttrBy
  refine wpAny_bind (wpAny_mkText (wpAny_holding (wpAny_bind (T0.at (wpAny_bind (T1.at ?_))))))
  have n0:(onTheHeap (Value.ref D) && Value.builtin "BaseException.__getattribute__" == Value.builtin "object.__getattribute__") = false:=by
    have:(Value.builtin "BaseException.__getattribute__" == Value.builtin "object.__getattribute__") = false:=by decide +kernel
    rw [this]; rfl
  dsimp only
  rw [if_neg (by rw [n0]; decide)]
  unfold getAttrByItsOwn hookBefore
  rw [if_pos (by rfl)]
  refine wpAny_bind (T2.at (wpAny_bind (wpAny_attempt (wpAny_holding ?_))))
  unfold callGetattribute boundAndCalled
  rw [if_neg (by cases expr <;> decide),B]
  refine wpAny_bind (wpAny_pure ?_)
  dsimp only
  refine wpAny_call (codeAny_call_builtin F.excAttr_ValueError.ga.plain F.entry_bexc_ga ?_)
  refine exc_check (s:=⟨h1,g1,d1,t1 + 1,o1⟩) k z c.mb (exc_find2 (s:=⟨h1,g1,d1,t1 + 1,o1⟩) k I hf ?_)
  dsimp only
  exact handed_on hh q
end
section
open PySem PySem.Spec PyProof.Rows
variable {X:Cx} {pins:List (Addr×Obj)} {σ:St} {H:Hp} {s:Shared}
def tXfld (K:PySem.W.Frag) (ta:TE) (f:Str):TE:=fun σ H Q=>ta σ H fun x H1=>∃ e D dx fs v,x = .ref e∧H1 e = some (excD e D (some dx))∧ExiCls K D∧PySem.W.findIn K (.ref D) f = some none∧H1 dx = some (.xd fs)∧fs.lookup f = some v∧Q v H1
theorem pe_xfld {K:PySem.W.Frag} (hK:X.K = K) {o:Expr} {f:Str} {pos:Pos} {ta:TE} (he:PE X o ta) (hb:attributeBase o f X.env (eval o X.env) = eval o X.env):PE X (.Attribute o f pos) (tXfld K ta f):=by
  subst hK
  intro pins s σ H Q I h
  refine attr_of hb (thn (he pins s σ H _ I h) fun u s1 ⟨x,H1,I1,rx,e,D,dx,fs,v,ex,ee,c,n,hd,l,q⟩=>?_)
  subst ex
  obtain rfl:u = Value.ref e:=rx
  obtain ⟨⟨z,oe,q1,hde,_⟩,_,_⟩:ObjOk X.prog X.w H1 s1.heap e (excD e D (some dx)):=I1.hok e _ ee
  obtain ⟨mA,ns,r⟩:ObjOk X.prog X.w H1 s1.heap dx (.xd fs):=I1.hok dx _ hd
  obtain ⟨od,ho,hl⟩:=lookIn_ns ns
  obtain ⟨u,hu,ru⟩:=RelO.some_of (v:=v) (o:=mA f) (by rw [← l]; exact r f)
  obtain ⟨oe2,q2,hc,vs,hv⟩:=id z.ob
  rw [q1] at q2
  cases q2
  have inst:PySem.W.InstAt s1.heap e oe D (some od):=⟨q1,hc,by unfold PySem.W.notCls; rw [hv],by rw [hde]; exact ho⟩
  exact exc_get I1.kIn inst z c.toExcCls (PySem.W.findObj_own c.hd n rfl (by rw [hl,hu])) (handed_of ru) ⟨v,H1,I1.tok _,ru,q⟩
def rIsXD (K:PySem.W.Frag):List V→Hp→VK→Prop:=fun xs H Q=>∃ (e D:Addr) (d:Option Addr) (c:V) (cv:Value) (b:Bool),xs = [.ref e,c]∧H e = some (excD e D d)∧ExcCls K D∧(∀ u,RelV c u→u = cv)∧PySem.W.kitOne K (.ref D) cv = some b∧Q (.bl b) H
theorem call_isXD {K:PySem.W.Frag} (hK:X.K = K):CallR X (.builtin "isinstance") (rIsXD K):=by
  subst hK
  intro pins s σ H xs us Q I r h
  obtain ⟨e,D,d,c,cv,b,rfl,he,hc,hv,hk,q⟩:=h
  obtain ⟨u,v,rfl,ru,rv⟩:=vals2 r
  cases (show u = Value.ref e from ru)
  cases hv v rv
  have z:ObjOk X.prog X.w H s.heap e (excD e D d):=I.hok e _ he
  exact PySem.W.kia_one hc.kit I.kIn z.1.is hk (fun z=>nomatch z) fun tk=>⟨.bl b,H,I.tok _,rfl,q⟩
def rIsXTD (K:PySem.W.Frag):List V→Hp→VK→Prop:=fun xs H Q=>∃ (e D tp:Addr) (d:Option Addr) (cs:List V) (its:List Value) (b:Bool),xs = [.ref e,.ref tp]∧H e = some (excD e D d)∧ExcCls K D∧H tp = some (.tup cs)∧(∀ us,Vals cs us→us = its)∧PySem.W.kitAny K (.ref D) its = some b∧Q (.bl b) H
theorem call_isXTD {K:PySem.W.Frag} (hK:X.K = K):CallR X (.builtin "isinstance") (rIsXTD K):=by
  subst hK
  intro pins s σ H xs us Q I r h
  obtain ⟨e,D,tp,d,cs,its,b,rfl,he,hc,ht,hv,hk,q⟩:=h
  obtain ⟨u,v,rfl,ru,rv⟩:=vals2 r
  cases (show u = Value.ref e from ru)
  cases (show v = Value.ref tp from rv)
  have z:ObjOk X.prog X.w H s.heap e (excD e D d):=I.hok e _ he
  obtain ⟨_,us,r1,⟨oc,od,oda,osl⟩,g1,g2,n,g3⟩:ObjOk X.prog X.w H s.heap tp (.tup cs):=I.hok tp _ ht
  dsimp only at g2 g3
  subst g2 g3
  cases hv us r1
  exact PySem.W.kia_tup hc.kit I.kIn z.1.is g1 hk (fun z=>nomatch z) fun tk=>⟨.bl b,H,I.tok _,rfl,q⟩
end
end L2
namespace L2
section
open PySem PySem.Calls PyProof.Rows
variable {prog:Program} {w:World} {A:Around} {E:Value→Shared→Prop} {s:Shared}
theorem none_end (h:Heap):h.get? h.objs.size = none:=by
  cases e:h.get? h.objs.size with
  | none=>rfl
  | some o=>exact absurd (Heap.lt_size e) (Nat.lt_irrefl _)
def SortsTo (Q:Value→Shared→Prop) (vs:List Value) (s1:Shared):Prop:=∃ ss,StrsAre vs ss∧vs.length < 64∧
  ∀ h' p (out:List Value) ss' c,StrsAre out ss'→ss'.Perm ss→sortedS ss' = true→s1.heap.objs.size≤p→(∀ b o,s1.heap.get? b = some o→h'.get? b = some o)→
    h'.get? p = some (seqObj "list" out.toArray c)→Q (.ref p) { s1 with heap:=h' }
theorem sorted_walked {x:Value} {Q:Value→Shared→Prop} (hc:wpAny (model prog w) A.in1 (collect x) (SortsTo Q) E s):wpAny (model prog w) A (call (.builtin "sorted") [x]) Q E s:=by
  refine Calls.call_function_entry kind_sorted plain_sorted entry_sorted (args_sorted1 x) ?_
  unfold Builtin.«sorted»
  refine wpAny_bind (m:=checkCount "sorted" 1 1 _) (wpAny_pure (wpAny_bind (wpAny_mono hc (fun vs s1 z=>?_) fun _ _ e=>e)))
  obtain ⟨ss,hS,few,q⟩:=z
  refine wpAny_bind (wpAny_newList ?_)
  have there:(s1.heap.push (seqObj "list" vs.toArray 0)).get? s1.heap.objs.size = some (seqObj "list" vs.toArray 0):=Heap.get?_push_size _ rfl
  refine wpAny_bind (wpAny_holding (wpAny_call_entry slot_list_sort ⟨_,there,rfl⟩ entry_list_sort (list_sort_treeK strKind_oneLt there hS.keysOf (fun v₁ v₂ rest e=>keyKind_strs (by rw [← e]; exact hS)) few fun st' pm so=>⟨_,rfl,?_⟩) (args_list_sort _)))
  obtain ⟨ss',y1,y2,y3⟩:=sorted_out_str hS pm so
  obtain ⟨c,hp⟩:=sortedHeap_at (out:=(arrOf st').map (·.2)) there
  refine wpAny_pure ⟨_,rfl,q _ _ ((arrOf st').map (·.2)).toList ss' c y1 y2 y3 (Nat.le_refl _) (fun b o e=>?_) (by rw [Array.toArray_toList]; exact hp)⟩
  have lt:=Heap.lt_size e
  show Heap.get? _ b = some o
  rw [sortedHeap_old (Nat.ne_of_lt lt) (by rw [Heap.size_push]; exact Nat.lt_succ_of_lt lt)]
  exact Heap.get?_push_of_some _ e
def Took (S:Addr) (Q:List Value→Shared→Prop) (r:Result) (s':Shared):Prop:=∃ acc c,r = .ok (.ret (.ref S))∧s'.heap.get? S = some { cls:=.type "list",dict:=none,data:=.seq acc c,slots:=#[] }∧Q acc.toList s'
theorem collect_ext {x:Value} {Q:List Value→Shared→Prop} (h:wpAny (model prog w) A.in1 (Builtin.List.listExtendWith (.ref s.heap.objs.size) x (.ref s.heap.objs.size))
      (fun fin s'=>match fin with | .done f=>Took s.heap.objs.size Q (.ok f) s' | .again c'=>c'.quiet = true∧codeAny (model prog w) A c' (Took s.heap.objs.size Q) s') (fun e s'=>Took s.heap.objs.size Q (.error e) s')
      { s with heap:=s.heap.push { cls:=.type "list",data:=.seq #[] } }):wpAny (model prog w) A (collect x) Q E s:=by
  unfold collect
  refine wpAny_bind (wpAny_runValue (codeAny_builtin PySem.F.entry_proto_collect ?_))
  rw [Around.under_plainId PySem.F.plain_proto_collect _]
  refine wpAny_bind (wpAny_newObj_type (wpAny_pure ⟨plainId_quiet PySem.F.plain_list_iadd _,codeAny_builtin PySem.F.entry_list_iadd ?_⟩))
  rw [Around.under_plainId PySem.F.plain_list_iadd _]
  refine wpAny_mono h (fun fin s' z=>?_) (fun e s' z=>?_)
  · cases fin with
    | done f=>
      obtain ⟨acc,c,e,hS,q⟩:=z
      cases e
      exact wpAny_bind (wpAny_load hS (wpAny_pure q))
    | again c'=>
      refine ⟨z.1,codeAny_mono z.2 fun r s2 z2=>?_⟩
      obtain ⟨acc,c,rfl,hS,q⟩:=z2
      exact wpAny_bind (wpAny_load hS (wpAny_pure q))
  · obtain ⟨acc,c,e,_⟩:=z
    cases e
theorem collect_src {T:String} {r d:Addr} {n:Nat} {P:Nat→Value→Prop} {OK:Heap→Prop} {Q:List Value→Shared→Prop} (S:PySem.W.KdlSrc prog w T r d n P OK) (hh:A.handled = none) (ok:OK s.heap) (hn:n≤sizeLine)
    (q:∀ h' tk (vs:List Value),(∀ b o,s.heap.get? b = some o→h'.get? b = some o)→vs.length = n→(∀ j v,vs[j]? = some v→P j v)→Q vs { s with heap:=h',toks:=tk }):wpAny (model prog w) A (collect (.ref r)) Q E s:=by
  obtain ⟨lr,ld⟩:=S.there _ ok
  refine collect_ext (PySem.W.kdl_extend S hh (S.keep _ _ ok fun b _ o e=>Heap.get?_push_of_some _ e) s.heap.objs.size (Nat.ne_of_gt lr) (Nat.ne_of_gt ld) (.ref s.heap.objs.size) 0 (Heap.get?_push_size _ rfl) (fun h' tk acc c k hS it=>?_) hn)
  refine ⟨acc,c,rfl,hS,q h' tk acc.toList (fun b o e=>k b o (Nat.ne_of_lt (Heap.lt_size e)) (Heap.get?_push_of_some _ e)) (by rw [Array.length_toList]; exact it.1) fun j v e=>it.2 j v (by rw [← Array.getElem?_toList]; exact e)⟩
theorem sit_owner:Manifest.owners.lookup (String.ofList "rotareti_tes".toList.reverse) = some Manifest.sig_set_iterator:=by kernel_rfl
theorem sit_slot:Slot "set_iterator" "__next__" "set_iterator.__next__":=
  .of (owner:="set_iterator") (n:="__next__") (by rw [typeLookup_type,builtinLookup_eq_fast]; kernel_rfl) (by decide +kernel) (by decide +kernel) (by decide +kernel) (by first | exact .inl (by decide +kernel) | exact .inr (by decide +kernel)) (by rw [isSubtype_type]; kernel_rfl)
theorem sit_entry:entryFor table "set_iterator.__next__" = some Builtin.«set_iterator.__next__»:=entryFor_of_fast (by kernel_rfl)
theorem sit_args (a:Value):argsOk "set_iterator.__next__" ⟨[a],[]⟩:=by
  unfold argsOk
  rw [signature?_of (id:="set_iterator.__next__") (n:="__txen__".toList) (o:="rotareti_tes".toList) (by kernel_rfl) sit_owner]
  kernel_rfl
theorem set_iter_entry:entryFor table "set.__iter__" = some Builtin.«frozenset.__iter__»:=entryFor_alias (id':="frozenset.__iter__") (by kernel_rfl) rfl (by decide +kernel) (by kernel_rfl)
theorem next_gives {it:Addr} {T id:String} {B:Builtin} {Q:Option Value→Shared→Prop} (slot:Slot T "__next__" id) (hT:s.TypeIs (.ref it) T) (entry:entryFor table id = some B) (args:argsOk id ⟨[.ref it],[]⟩)
    (h:wpAny (model prog w) A.in1 (B ⟨[.ref it],[]⟩) (fun fin s'=>∃ v,fin = .done (.ret v)∧Q (some v) s') (fun _ _=>False) s):wpAny (model prog w) A (pyNext (.ref it)) Q E s:=by
  unfold pyNext
  refine wpAny_bind (wpAny_attempt (wpAny_callSpecial?_slot (name:=Str.ofString "__next__") hT slot (wpAny_call_entry slot hT entry (wpAny_mono h (fun fin s' z=>?_) fun _ _ z=>z.elim) args)))
  obtain ⟨v,rfl,q⟩:=z
  exact ⟨v,rfl,wpAny_pure q⟩
theorem next_stops {it:Addr} {T id:String} {B:Builtin} {Q:Option Value→Shared→Prop} (slot:Slot T "__next__" id) (hT:s.TypeIs (.ref it) T) (entry:entryFor table id = some B) (args:argsOk id ⟨[.ref it],[]⟩)
    (h:wpAny (model prog w) A.in1 (B ⟨[.ref it],[]⟩) (fun _ _=>False) (fun x s'=>∃ a o,x = .ref a∧s'.heap.get? a = some o∧o.cls = .type "StopIteration"∧Q none s') s):wpAny (model prog w) A (pyNext (.ref it)) Q E s:=by
  unfold pyNext
  refine wpAny_bind (wpAny_attempt (wpAny_callSpecial?_slot (name:=Str.ofString "__next__") hT slot (wpAny_call_entry slot hT entry (wpAny_mono h (fun _ _ z=>z.elim) fun x s' z=>?_) args)))
  obtain ⟨a,o,rfl,e,c,q⟩:=z
  exact wpAny_bind (wpAny_isInstance (T:="StopIteration") (b:=true) ⟨o,e,c⟩ isSubtype_stop (wpAny_pure q))
theorem stop_calm {α:Type} {Q:α→Shared→Prop} (hh:A.handled = none)
    (q:∀ h' x,(∀ b o,s.heap.get? b = some o→h'.get? b = some o)→(∃ o,h'.get? x = some o∧o.cls = .type "StopIteration")→E (.ref x) { s with heap:=h' }) :
    wpAny (model prog w) A (newExc (.type "StopIteration") [] >>= raiseNew:Sem α) Q E s:=by
  refine wpAny_bind ?_
  simp only [newExc,newTuple]
  refine wpAny_bind (wpAny_newObj_type ?_ (by size_fits))
  refine wpAny_bind (m:=firstArgMember _ _) (wpAny_of_eq (a:=Value.none) (by simp only [firstArgMember]; rfl) (wpAny_newObj_type ?_ (by size_fits)))
  unfold raiseNew
  refine wpAny_bind (wpAny_handled ?_)
  rw [hh]
  exact wpAny_throw (q _ _ (fun b o z=>Heap.get?_push_of_some _ (Heap.get?_push_of_some _ z)) ⟨_,Heap.get?_push_size _ rfl,rfl⟩)
theorem sit_slot_iter:Slot "set_iterator" "__iter__" "set_iterator.__iter__":=
  .of (owner:="set_iterator") (n:="__iter__") (by rw [typeLookup_type,builtinLookup_eq_fast]; kernel_rfl) (by decide +kernel) (by decide +kernel) (by decide +kernel) (by first | exact .inl (by decide +kernel) | exact .inr (by decide +kernel)) (by rw [isSubtype_type]; kernel_rfl)
theorem sit_entry_iter:entryFor table "set_iterator.__iter__" = some Builtin.«dict_keyiterator.__iter__»:=entryFor_alias (id':="dict_keyiterator.__iter__") (by kernel_rfl) rfl (by decide +kernel) (by kernel_rfl)
theorem sit_args_iter (a:Value):argsOk "set_iterator.__iter__" ⟨[a],[]⟩:=by
  unfold argsOk
  rw [signature?_of (id:="set_iterator.__iter__") (n:="__reti__".toList) (o:="rotareti_tes".toList) (by kernel_rfl) sit_owner]
  kernel_rfl
def SetAt (h:Heap) (a:Addr) (es:Array (Int×Value)) (ep:Nat) (t:SetTable):Prop:=∃ o,h.get? a = some o∧o.cls = .type "set"∧o.data = .set es ep t
def SetIt (h:Heap) (it a:Addr) (first:Value) (i n ep:Nat):Prop:=∃ o,h.get? it = some o∧o.cls = .type "set_iterator"∧o.data = .fields #[first,rawInt i,.ref a,rawInt n,rawInt ep]
theorem SetAt.keep {h h':Heap} {a:Addr} {es:Array (Int×Value)} {ep:Nat} {t:SetTable} (x:SetAt h a es ep t) (k:∀ o,h.get? a = some o→h'.get? a = some o):SetAt h' a es ep t:=let ⟨o,e,r⟩:=x; ⟨o,k o e,r⟩
theorem SetIt.keep {h h':Heap} {it a:Addr} {f:Value} {i n ep:Nat} (x:SetIt h it a f i n ep) (k:∀ o,h.get? it = some o→h'.get? it = some o):SetIt h' it a f i n ep:=let ⟨o,e,r⟩:=x; ⟨o,k o e,r⟩
theorem SetIt.typeIs {it a:Addr} {f:Value} {i n ep:Nat} (x:SetIt s.heap it a f i n ep):s.TypeIs (.ref it) "set_iterator":=let ⟨o,e,c,_⟩:=x; ⟨o,e,c⟩
theorem SetIt.self {it a:Addr} {f:Value} {i n ep:Nat} {Q:Value→Shared→Prop} (x:SetIt s.heap it a f i n ep) (q:Q (.ref it) s):wpAny (model prog w) A (pyIter (.ref it)) Q E s:=by
  refine wpAny_pyIter_slot x.typeIs sit_slot_iter (wpAny_call_entry sit_slot_iter x.typeIs sit_entry_iter ?_ (sit_args_iter _))
  exact wpAny_pure ⟨_,rfl,"set_iterator",_,x.typeIs,sit_slot.lookup,q⟩
theorem set_entries {a:Addr} {es:Array (Int×Value)} {ep:Nat} {t:SetTable} {Q:Array (Int×Value)→Shared→Prop} (x:SetAt s.heap a es ep t) (f:t.fits es.size = true) (q:Q es s):wpAny (model prog w) A (setEntries a) Q E s:=
  let ⟨_,e,_,d⟩:=x; wpAny_setEntries_of e d f q
end
end L2
namespace L2
section
open PySem PySem.Calls PyProof.Rows
variable {prog:Program} {w:World} {A:Around} {E:Value→Shared→Prop} {s:Shared}
theorem set_field {it:Addr} {vs:Array Value} {k:Nat} {x:Value} {Q:Unit→Shared→Prop} {o:Obj} (ho:s.heap.get? it = some o) (hc:o.cls = .type "set_iterator") (hd:o.data = .fields vs) (hk:k < vs.size)
    (q:∀ h' o',h'.get? it = some o'→o'.cls = .type "set_iterator"→o'.data = .fields (vs.setIfInBounds k x)→(∀ b o,b ∉ [it]→s.heap.get? b = some o→h'.get? b = some o)→Q () { s with heap:=h' }):wpAny (model prog w) A (setField (.ref it) k x) Q E s:=
  wpAny_setField ho hd hk (q _ _ (Heap.get?_update_self _ ho (Obj.isFreed_of_fields (Obj.data_mapFields hd _))) ((Obj.cls_mapFields ..).trans hc) (Obj.data_mapFields hd _) fun b o hb e=>(Heap.get?_update_other _ _ (fun z=>hb (by simp [z]))).trans e)
theorem walk_slot (hh:A.handled = none) (I a:Addr) (hne:a≠I) (xs:List Value) (sl:Nat→Nat) (es:Array (Int×Value)) (ep:Nat) (t:SetTable) (f:t.fits es.size = true) (hn:es.size = xs.length)
    (nx:∀ (i:Nat) (A:Around) (E:Value→Shared→Prop) (s:Shared) (Q:Option (Value×Nat)→Shared→Prop),i≤xs.length→SetAt s.heap a es ep t→Q (xs[i]?.map fun v=>(v,sl (i + 1))) s→wpAny (model prog w) A (setNext a (sl i) i ep) Q E s) :
    Walks prog w A I [I,a] [I] xs.length (fun i v=>xs[i]? = some v) (fun i h=>SetIt h I a (rawInt (sl i)) i xs.length ep∧SetAt h a es ep t) where
  sub:=fun b z=>by simp at z; simp [z]
  frame:=fun _ _ _ st k=>⟨st.1.keep fun o e=>k I (by simp) o e,st.2.keep fun o e=>k a (by simp) o e⟩
  self:=fun _ _ _ _ st q=>st.1.self q
  item:=fun i s Q E hi st qq=>by
    refine next_gives sit_slot st.1.typeIs sit_entry (sit_args _) ?_
    obtain ⟨o,ho,hc,hd⟩:=st.1
    unfold Builtin.«set_iterator.__next__»
    refine wpAny_bind (wpAny_pure ?_)
    dsimp only
    refine wpAny_bind (wpAny_fieldsOf ho hd ?_)
    refine wpAny_bind (m:=setEntries a) (set_entries st.2 f ?_)
    rw [if_neg (by rw [hn]; simp)]
    refine wpAny_bind (m:=setNext a (sl i) i ep) (nx i _ _ _ _ (Nat.le_of_lt hi) st.2 ?_)
    obtain ⟨v,hv⟩:∃ v,xs[i]? = some v:=⟨xs[i],by simp [hi]⟩
    rw [hv]
    dsimp only [Option.map]
    refine wpAny_bind (set_field ho hc hd (by simp) fun h1 o1 e1 c1 d1 k1=>?_)
    refine wpAny_bind (set_field e1 c1 d1 (by simp) fun h2 o2 e2 c2 d2 k2=>?_)
    exact wpAny_pure ⟨v,rfl,qq v h2 s.toks hv ⟨⟨o2,e2,c2,d2⟩,st.2.keep fun o e=>k2 a o (by simp [hne]) (k1 a o (by simp [hne]) e)⟩ fun b o hb e=>k2 b o hb (k1 b o hb e)⟩
  done:=fun s Q E st hQ=>by
    refine next_stops sit_slot st.1.typeIs sit_entry (sit_args _) ?_
    obtain ⟨o,ho,hc,hd⟩:=st.1
    unfold Builtin.«set_iterator.__next__»
    refine wpAny_bind (wpAny_pure ?_)
    dsimp only
    refine wpAny_bind (wpAny_fieldsOf ho hd ?_)
    refine wpAny_bind (m:=setEntries a) (set_entries st.2 f ?_)
    rw [if_neg (by rw [hn]; simp)]
    refine wpAny_bind (m:=setNext a (sl xs.length) xs.length ep) (nx xs.length _ _ _ _ (Nat.le_refl _) st.2 ?_)
    rw [List.getElem?_eq_none (Nat.le_refl _)]
    dsimp only [Option.map]
    refine wpAny_bind (set_field ho hc hd (by simp) fun h1 o1 e1 c1 d1 k1=>?_)
    refine stop_calm hh fun h2 x k2 ⟨ox,ex,cx⟩=>⟨x,ox,rfl,ex,cx,hQ h2 s.toks fun b o hb e=>k2 b o (k1 b o hb e)⟩
def TupAt (h:Heap) (tp:Addr) (vs:List Value):Prop:=∃ o n,h.get? tp = some o∧o.data = .seq vs.toArray n
theorem TupAt.keep {h h':Heap} {tp:Addr} {vs:List Value} (x:TupAt h tp vs) (k:∀ o,h.get? tp = some o→h'.get? tp = some o):TupAt h' tp vs:=let ⟨o,n,e,r⟩:=x; ⟨o,n,k o e,r⟩
theorem next_drawn {a:Addr} {es:Array (Int×Value)} {ep p:Nat} {t:SetTable} {hx:Int} {v:Value} {Q:Value→Shared→Prop} (x:SetAt s.heap a es ep t) (f:t.fits es.size = true) (e:es[p]? = some (hx,v)) (q:Q v s):wpAny (model prog w) A (setNextDrawn a p ep) Q E s:=by
  obtain ⟨o,eo,_,d⟩:=x
  unfold setNextDrawn
  refine wpAny_bind (wpAny_setState_of eo d f ?_)
  dsimp only
  rw [if_neg (by simp),e]
  exact wpAny_pure q
theorem walk_drawn (hh:A.handled = none) (I a tp:Addr) (hne:a≠I) (hnt:tp≠I) (xs:List Value) (ps:List Nat) (es:Array (Int×Value)) (ep:Nat) (t:SetTable) (f:t.fits es.size = true) (hn:es.size = xs.length) (hp:ps.length = xs.length)
    (at_:∀ (i p:Nat),ps[i]? = some p→∃ hx v,es[p]? = some (hx,v)∧xs[i]? = some v) :
    Walks prog w A I [I,a,tp] [I] xs.length (fun i v=>xs[i]? = some v) (fun i h=>SetIt h I a (.ref tp) i xs.length ep∧SetAt h a es ep t∧TupAt h tp (ps.map fun (p:Nat)=>rawInt p)) where
  sub:=fun b z=>by simp at z; simp [z]
  frame:=fun _ _ _ st k=>⟨st.1.keep fun o e=>k I (by simp) o e,st.2.1.keep fun o e=>k a (by simp) o e,st.2.2.keep fun o e=>k tp (by simp) o e⟩
  self:=fun _ _ _ _ st q=>st.1.self q
  item:=fun i s Q E hi st qq=>by
    refine next_gives sit_slot st.1.typeIs sit_entry (sit_args _) ?_
    obtain ⟨o,ho,hc,hd⟩:=st.1
    obtain ⟨ot,nt,et,dt⟩:=st.2.2
    unfold Builtin.«set_iterator.__next__»
    refine wpAny_bind (wpAny_pure ?_)
    dsimp only
    refine wpAny_bind (wpAny_fieldsOf ho hd ?_)
    refine wpAny_bind (m:=setEntries a) (set_entries st.2.1 f ?_)
    rw [if_neg (by rw [hn]; simp)]
    obtain ⟨p,hpi⟩:∃ p,ps[i]? = some p:=⟨ps[i]'(by omega),by simp [hp,hi]⟩
    obtain ⟨hx,v,ev,xv⟩:=at_ i p hpi
    refine wpAny_bind (m:=seqItems? (.ref tp)) (wpAny_seqItems et dt ?_)
    have look:(ps.map fun (p:Nat)=>rawInt p).toArray[(i:Int).toNat]? = some (rawInt p):=by simp [hpi]
    dsimp only
    rw [look]
    refine wpAny_bind (m:=setNextDrawn a p ep) (next_drawn st.2.1 f ev ?_)
    refine wpAny_bind (set_field ho hc hd (by simp) fun h1 o1 e1 c1 d1 k1=>?_)
    exact wpAny_pure ⟨v,rfl,qq v h1 s.toks xv ⟨⟨o1,e1,c1,d1⟩,st.2.1.keep fun o e=>k1 a o (by simp [hne]) e,st.2.2.keep fun o e=>k1 tp o (by simp [hnt]) e⟩ k1⟩
  done:=fun s Q E st hQ=>by
    refine next_stops sit_slot st.1.typeIs sit_entry (sit_args _) ?_
    obtain ⟨o,ho,hc,hd⟩:=st.1
    obtain ⟨ot,nt,et,dt⟩:=st.2.2
    unfold Builtin.«set_iterator.__next__»
    refine wpAny_bind (wpAny_pure ?_)
    dsimp only
    refine wpAny_bind (wpAny_fieldsOf ho hd ?_)
    refine wpAny_bind (m:=setEntries a) (set_entries st.2.1 f ?_)
    rw [if_neg (by rw [hn]; simp)]
    refine wpAny_bind (m:=seqItems? (.ref tp)) (wpAny_seqItems et dt ?_)
    have look:(ps.map fun (p:Nat)=>rawInt p).toArray[(xs.length:Int).toNat]? = none:=by simp [hp]
    dsimp only
    rw [look]
    refine wpAny_bind (set_field ho hc hd (by simp) fun h1 o1 e1 c1 d1 k1=>?_)
    refine wpAny_bind (set_field e1 c1 d1 (by simp) fun h2 o2 e2 c2 d2 k2=>?_)
    refine stop_calm hh fun h3 x k3 ⟨ox,ex,cx⟩=>⟨x,ox,rfl,ex,cx,hQ h3 s.toks fun b o hb e=>k3 b o (k2 b o hb (k1 b o hb e))⟩
theorem choose_any {src:Source} {n:Nat} {Q:Nat→Shared→Prop} (h:n≠0) (q:∀ i d,i < n→Q i { s with drawn:=d }):wpAny (model prog w) A (choose src n) Q E s:=by
  intro Γ p _
  unfold choose
  rw [Sem.wp_choose]
  exact ⟨h,by rw [Sem.wp_pure]; exact q _ _ (Nat.mod_lt _ (Nat.pos_of_ne_zero h))⟩
theorem out_perm {α:Type}:∀ {l:List α} {i:Nat} (h:i < l.length),(l[i] :: l.eraseIdx i).Perm l
  | x :: r,0,_=>List.Perm.refl _
  | x :: r,i + 1,h=>by
    have z:=out_perm (l:=r) (i:=i) (by simpa using h)
    exact (List.Perm.swap ..).trans (List.Perm.cons x z)
theorem draw_order {α:Type}:∀ (n:Nat) (xs:List α) (s:Shared) (Q:List α→Shared→Prop),n = xs.length→(∀ ys d,ys.Perm xs→Q ys { s with drawn:=d })→wpAny (model prog w) A (drawOrder n xs) Q E s
  | 0,xs,s,Q,h,q=>by
    have e:xs = []:=List.length_eq_zero_iff.mp h.symm
    subst e
    exact wpAny_pure (q [] s.drawn (List.Perm.refl _))
  | n + 1,[],s,Q,h,q=>nomatch h
  | n + 1,x :: r,s,Q,h,q=>by
    unfold drawOrder
    refine wpAny_bind (choose_any (by simp) fun i d hi=>?_)
    rw [List.getElem?_eq_getElem hi]
    dsimp only
    refine wpAny_bind (draw_order n _ _ _ (by rw [List.length_eraseIdx_of_lt hi]; simp at h ⊢; omega) fun ys d2 pm=>?_)
    exact wpAny_pure (q _ d2 ((List.Perm.cons _ pm).trans (out_perm hi)))
theorem pick_go {α:Type} (next:Nat→Nat):∀ (fuel k:Nat) (left:List α) (out:Array α),fuel = left.length→(pickOrder.go next fuel k left out).toList.Perm (out.toList ++ left)
  | 0,k,left,out,h=>by
    have e:left = []:=List.length_eq_zero_iff.mp h.symm
    subst e
    unfold pickOrder.go
    rw [List.append_nil]
  | fuel + 1,k,left,out,h=>by
    unfold pickOrder.go
    have hi:next k % left.length < left.length:=Nat.mod_lt _ (by omega)
    rw [List.getElem?_eq_getElem hi]
    dsimp only
    refine (pick_go next fuel _ _ _ (by rw [List.length_eraseIdx_of_lt hi]; omega)).trans ?_
    rw [Array.toList_push,List.append_assoc]
    exact List.Perm.append_left _ (out_perm hi)
theorem pick_perm {α:Type} (next:Nat→Nat) (xs:Array α):(pickOrder next xs).toList.Perm xs.toList:=by
  unfold pickOrder
  exact pick_go next _ _ _ _ (by simp)
def ByText (w:World):Bool:=w.params.followText "set-order"
theorem next_text {a:Addr} {es:Array (Int×Value)} {ep i sl:Nat} {t:SetTable} {Q:Option (Value×Nat)→Shared→Prop} (bt:ByText w = true) (x:SetAt s.heap a es ep t) (f:t.fits es.size = true)
    (q:Q (((pickOrder (w.params.setOrder a ep) es).toList.map (·.2))[i]?.map fun v=>(v,sl)) s):wpAny (model prog w) A (setNext a sl i ep) Q E s:=by
  obtain ⟨o,eo,_,d⟩:=x
  unfold setNext setsByText setWalk setsByText
  refine wpAny_bind (wpAny_setState_of eo d f ?_)
  dsimp only
  simp only [bind_assoc,pure_bind]
  refine wpAny_bind (wpAny_askSetting ?_)
  refine wpAny_ite_split (fun _=>?_) (fun c=>absurd bt c)
  rw [if_neg (by simp)]
  refine wpAny_bind (wpAny_setState_of eo d f ?_)
  dsimp only
  refine wpAny_bind (wpAny_askSetting ?_)
  refine wpAny_bind (wpAny_ite_split (fun _=>?_) (fun c=>absurd bt c))
  refine wpAny_bind (wpAny_askSetting (wpAny_pure ?_))
  have e:((pickOrder (w.params.setOrder a ep) es).toList.map (·.2))[i]? = ((pickOrder (w.params.setOrder a ep) es)[i]?).map (·.2):=by rw [List.getElem?_map,Array.getElem?_toList]
  rw [e,Option.map_map] at q
  exact wpAny_pure q
theorem few_fits {es:Array (Int×Value)} {t:SetTable} (f:t.fits es.size = true):t.place.size = es.size:=by
  simp only [SetTable.fits,Bool.and_eq_true,beq_iff_eq] at f
  exact f.1
theorem next_few {a:Addr} {es:Array (Int×Value)} {ep i:Nat} {t:SetTable} {Q:Option (Value×Nat)→Shared→Prop} (bt:ByText w = false) (hl:t.led = true) (few:es.size≤1) (hi:i≤es.size) (x:SetAt s.heap a es ep t) (f:t.fits es.size = true)
    (q:Q ((es.toList.map (·.2))[i]?.map fun v=>(v,if i + 1 = 0 then 0 else t.place.getD 0 0 + 1)) s):wpAny (model prog w) A (setNext a (if i = 0 then 0 else t.place.getD 0 0 + 1) i ep) Q E s:=by
  obtain ⟨o,eo,_,d⟩:=x
  unfold setNext setsByText
  refine wpAny_bind (wpAny_setState_of eo d f ?_)
  dsimp only
  simp only [bind_assoc,pure_bind]
  refine wpAny_bind (wpAny_askSetting ?_)
  refine wpAny_ite_split (fun c=>absurd (bt.symm.trans c) (by decide)) (fun _=>?_)
  refine wpAny_ite_split (fun c=>absurd c ?_) (fun _=>?_)
  · show ¬ (!t.plain && decide (es.size > 1)) = true
    rw [decide_eq_false (by omega)]
    simp
  refine wpAny_bind (?_:wpAny _ _ (if (!t.led && !es.isEmpty) = true then unsupported "set:maker-not-led" else pure ()) _ _ _)
  rw [hl,if_neg (by simp)]
  refine wpAny_pure (wpAny_pure ?_)
  have pz:=few_fits f
  clear f hl d
  revert q
  generalize t.place = pl at pz
  obtain ⟨l⟩:=es
  obtain ⟨m⟩:=pl
  match l,m,few,pz,hi with
  | [],[],_,_,hi=>
    have e:i = 0:=by simpa using hi
    subst e
    exact fun q=>q
  | [(hx,v)],[k],_,_,hi=>
    rcases (show i = 0∨i = 1 by simp at hi; omega) with rfl | rfl
    · have b:SetTable.below #[k] (if 0 = 0 then 0 else (#[k]:Array Nat).getD 0 0 + 1) = 0:=by simp [SetTable.below,SetTable.below.go]
      rw [b]
      exact fun q=>q
    · have b:SetTable.below #[k] (if 1 = 0 then 0 else (#[k]:Array Nat).getD 0 0 + 1) = 1:=by simp [SetTable.below,SetTable.below.go]
      rw [b]
      exact fun q=>q
  | _ :: _ :: _,_,few,_,_=>exact absurd few (by simp)
  | [],_ :: _,_,pz,_=>exact absurd pz (by simp)
  | [_],[],_,pz,_=>exact absurd pz (by simp)
  | [_],_ :: _ :: _,_,pz,_=>exact absurd pz (by simp)
theorem set_iter {a:Addr} {es:Array (Int×Value)} {ep:Nat} {t:SetTable} {Q:Value→Shared→Prop} (x:SetAt s.heap a es ep t) (f:t.fits es.size = true) (hl:t.led = !ByText w) (hp:es.size≠0→t.plain = false) (hb:es.size < scanBound)
    (q:∀ h' d I fp (xs:List Value) St,(∀ b o,s.heap.get? b = some o→h'.get? b = some o)→xs.Perm (es.toList.map (·.2))→(∀ A:Around,A.handled = none→Walks prog w A I fp [I] xs.length (fun i v=>xs[i]? = some v) St)→St 0 h'→
      (∀ b∈fp,b = a∨s.heap.get? b = none)→s.heap.get? I = none→Q (.ref I) { s with heap:=h',drawn:=d }):wpAny (model prog w) A (pyIter (.ref a)) Q E s:=by
  obtain ⟨o,eo,co,dd⟩:=id x
  have hT:s.TypeIs (.ref a) "set":=⟨o,eo,co⟩
  have hlt:=Heap.lt_size eo
  refine wpAny_pyIter_slot hT PySem.F.slot_set_iter (wpAny_call_entry PySem.F.slot_set_iter hT set_iter_entry ?_ (PySem.F.args_set_iter_1 _))
  unfold Builtin.«frozenset.__iter__» Builtin.Frozenset.slot0 slotArgs
  simp only [bind_assoc,bne_self_eq_false,List.isEmpty_nil,List.length_nil,Bool.not_true,Bool.false_eq_true,↓reduceIte]
  refine wpAny_bind (wpAny_pure ?_)
  dsimp only
  refine wpAny_bind (m:=Builtin.Frozenset.addrOf (.ref a)) (wpAny_pure ?_)
  unfold Builtin.Frozenset.sizeOf
  simp only [bind_assoc,pure_bind]
  refine wpAny_bind (set_entries x f ?_)
  unfold setDrawn setsByText
  simp only [bind_assoc,pure_bind]
  refine wpAny_bind (wpAny_setState_of eo dd f ?_)
  dsimp only
  refine wpAny_bind (wpAny_askSetting ?_)
  change wpAny _ _ (if (!ByText w && (!t.plain && decide (es.size > 1))) = true then _ else _) _ _ _
  refine wpAny_ite_split (fun c=>?_) (fun c=>?_)
  · simp only [Bool.and_eq_true,Bool.not_eq_true',decide_eq_true_eq] at c
    refine wpAny_bind (draw_order es.size _ _ _ (by simp) fun ps d pm=>?_)
    refine wpAny_bind (wpAny_newTuple ?_ (by rw [List.length_map,pm.length_eq,List.length_range]; exact fits_of_scanBound hb))
    refine wpAny_bind (wpAny_setEpoch_of (Heap.get?_push_of_some _ eo) dd f ?_)
    refine wpAny_bind (wpAny_newObj_type (wpAny_pure ⟨_,rfl,"set_iterator",_,⟨_,Heap.get?_push_size _ rfl,rfl⟩,sit_slot.lookup,?_⟩))
    have rg:∀ p∈ps,p < es.size:=fun p hp=>List.mem_range.mp (pm.mem_iff.mp hp)
    have ex:(List.range es.size).map (fun p=>(es[p]?.map (·.2)).getD .none) = es.toList.map (·.2):=by
      refine List.ext_getElem (by simp) fun i h1 h2=>?_
      have hi:i < es.size:=by simpa using h1
      simp [hi]
    have nt:s.heap.objs.size≠(s.heap.push { cls:=.type "tuple",data:=.seq (ps.map fun (i:Nat)=>rawInt i).toArray }).objs.size:=by rw [Heap.size_push]; exact Nat.ne_of_lt (Nat.lt_succ_self _)
    have na:a≠(s.heap.push { cls:=.type "tuple",data:=.seq (ps.map fun (i:Nat)=>rawInt i).toArray }).objs.size:=by rw [Heap.size_push]; exact Nat.ne_of_lt (Nat.lt_succ_of_lt hlt)
    have ln:es.size = (ps.map (fun p=>(es[p]?.map (·.2)).getD Value.none)).length:=by rw [List.length_map,pm.length_eq,List.length_range]
    have above:s.heap.get? (s.heap.push { cls:=.type "tuple",data:=.seq (ps.map fun (i:Nat)=>rawInt i).toArray }).objs.size = none:=by
      cases z:s.heap.get? _ with
      | none=>rfl
      | some o=>exact absurd (Heap.lt_size z) (by rw [Heap.size_push]; exact Nat.not_lt.mpr (Nat.le_succ _))
    refine q _ d _ _ _ _ (fun b o e=>Heap.get?_push_of_some _ (Heap.get?_push_of_some _ e)) ((pm.map (fun p=>(es[p]?.map (·.2)).getD Value.none)).trans (by rw [ex])) (fun A hh=>walk_drawn hh (s.heap.push { cls:=.type "tuple",data:=.seq (ps.map fun (i:Nat)=>rawInt i).toArray }).objs.size a s.heap.objs.size na nt _ ps es ep t f ln (by rw [List.length_map]) fun i p hi=>?_) ⟨⟨_,Heap.get?_push_size _ rfl,rfl,?_⟩,x.keep fun o e=>Heap.get?_push_of_some _ (Heap.get?_push_of_some _ e),⟨_,_,Heap.get?_push_of_some _ (Heap.get?_push_size _ rfl),rfl⟩⟩ (fun b hb=>?_) above
    · have hp':=rg p (List.mem_of_getElem? hi)
      refine ⟨es[p].1,es[p].2,by simp [hp'],?_⟩
      rw [List.getElem?_map,hi]
      simp [hp']
    · rw [← ln]; rfl
    · simp only [List.mem_cons,List.not_mem_nil,or_false] at hb
      rcases hb with rfl | rfl | rfl
      · exact .inr above
      · exact .inl rfl
      · exact .inr (none_end _)
  · refine wpAny_bind (wpAny_setEpoch_of eo dd f ?_)
    refine wpAny_bind (wpAny_newObj_type (wpAny_pure ⟨_,rfl,"set_iterator",_,⟨_,Heap.get?_push_size _ rfl,rfl⟩,sit_slot.lookup,?_⟩))
    have kk:∀ b o,s.heap.get? b = some o→(s.heap.push { cls:=.type "set_iterator",data:=.fields [rawInt 0,rawInt 0,.ref a,rawInt es.size,rawInt ep].toArray }).get? b = some o:=fun b o e=>Heap.get?_push_of_some _ e
    have fresh:∀ b∈[s.heap.objs.size,a],b = a∨s.heap.get? b = none:=fun b hb=>by
      simp only [List.mem_cons,List.not_mem_nil,or_false] at hb
      rcases hb with rfl | rfl
      · exact .inr (none_end _)
      · exact .inl rfl
    cases bt:ByText w with
    | true=>
      have ln:es.size = ((pickOrder (w.params.setOrder a ep) es).toList.map (·.2)).length:=by rw [List.length_map,(pick_perm _ es).length_eq,Array.length_toList]
      refine q _ s.drawn s.heap.objs.size _ _ _ kk ((pick_perm _ es).map _) (fun A hh=>walk_slot hh s.heap.objs.size a (Nat.ne_of_lt hlt) ((pickOrder (w.params.setOrder a ep) es).toList.map (·.2)) (fun _=>0) es ep t f ln fun i A E s Q _ x q=>next_text bt x f q) ⟨⟨_,Heap.get?_push_size _ rfl,rfl,?_⟩,x.keep fun o e=>kk a o e⟩ fresh (none_end _)
      rw [← ln]; rfl
    | false=>
      have few:es.size≤1:=by
        rw [bt] at c
        by_cases z:es.size = 0
        · omega
        · rw [hp z] at c
          simpa using c
      rw [bt] at hl
      refine q _ s.drawn s.heap.objs.size _ _ _ kk (List.Perm.refl _) (fun A hh=>walk_slot hh s.heap.objs.size a (Nat.ne_of_lt hlt) (es.toList.map (·.2)) (fun i=>if i = 0 then 0 else t.place.getD 0 0 + 1) es ep t f (by simp) fun i A E s Q li x q=>next_few bt hl few (by simpa using li) x f q) ⟨⟨_,Heap.get?_push_size _ rfl,rfl,?_⟩,x.keep fun o e=>kk a o e⟩ fresh (none_end _)
      simp
theorem hint_set {a:Addr} {Q:Bool→Shared→Prop} (hT:s.TypeIs (.ref a) "set") (q:Q false s):wpAny (model prog w) A (Builtin.List.listLengthHint (.ref a)) Q E s:=by
  unfold Builtin.List.listLengthHint
  refine wpAny_bind (wpAny_specialOf hT PySem.F.slot_set_len.lookup ?_)
  generalize e0:("set.__len__":String) = d0
  wp_delta
  rw [show splitId d0 = some ("set","__len__") from by subst e0; decide +kernel]
  subst e0
  refine wpAny_bind (wpAny_isInstance (T:="set") (b:=true) hT (by rw [isSubtype_type]; kernel_rfl) ?_)
  refine wpAny_ite_split (fun c=>absurd c (by decide)) (fun _=>wpAny_ite_split (fun _=>?_) (fun c=>absurd (by decide +kernel) c))
  exact wpAny_bind (wpAny_typeOf hT (wpAny_pure q))
theorem items_list {xs:List Value} {acc:Array Value} (z:ItemsOf (fun i v=>xs[i]? = some v) acc xs.length):acc.toList = xs:=by
  refine List.ext_getElem? fun i=>?_
  rw [Array.getElem?_toList]
  cases e:acc[i]? with
  | some v=>exact (z.2 i v e).symm
  | none=>
    have:acc.size≤i:=by simpa using e
    rw [z.1] at this
    exact (List.getElem?_eq_none this).symm
theorem collect_set {a:Addr} {es:Array (Int×Value)} {ep:Nat} {t:SetTable} {Q:List Value→Shared→Prop} (hh:A.handled = none) (x:SetAt s.heap a es ep t) (f:t.fits es.size = true) (hl:t.led = !ByText w) (hp:es.size≠0→t.plain = false) (hb:es.size < scanBound)
    (q:∀ h' d tk (vs:List Value),(∀ b o,s.heap.get? b = some o→h'.get? b = some o)→vs.Perm (es.toList.map (·.2))→Q vs { s with heap:=h',drawn:=d,toks:=tk }):wpAny (model prog w) A (collect (.ref a)) Q E s:=by
  refine collect_ext ?_
  have x1:SetAt (s.heap.push { cls:=.type "list",data:=.seq #[] }) a es ep t:=x.keep fun o e=>Heap.get?_push_of_some _ e
  have lt:a < s.heap.objs.size:=let ⟨_,e,_⟩:=x; Heap.lt_size e
  unfold Builtin.List.listExtendWith
  have hT:Shared.TypeIs { s with heap:=s.heap.push { cls:=.type "list",data:=.seq #[] } } (.ref a) "set":=let ⟨o,e,c,_⟩:=x1; ⟨o,e,c⟩
  refine wpAny_bind (wpAny_typeOf hT ?_)
  have n1:Builtin.List.listSameRef (.ref s.heap.objs.size) (.ref a) = false:=by simp [Builtin.List.listSameRef,Nat.ne_of_gt lt]
  have n2:(Value.type "set" == Value.type "list") = false:=by decide
  have n3:(Value.type "set" == Value.type "tuple") = false:=by decide
  simp only [n1,n2,n3,Bool.or_false,Bool.false_eq_true,if_false]
  refine wpAny_bind (set_iter x1 f hl hp hb fun h1 d I fp xs St k1 pm W st fr nI0=>?_)
  have hS1:h1.get? s.heap.objs.size = some { cls:=.type "list",data:=.seq #[] }:=k1 _ _ (Heap.get?_push_size _ rfl)
  have hSf:s.heap.objs.size ∉ fp:=fun hm=>by
    rcases fr _ hm with z | z
    · exact absurd z (Nat.ne_of_gt lt)
    · rw [show (s.heap.push { cls:=.type "list",data:=.seq #[] }).get? s.heap.objs.size = some { cls:=.type "list",data:=.seq #[] } from Heap.get?_push_size _ rfl] at z
      cases z
  have nI:∀ b o,s.heap.get? b = some o→b ∉ s.heap.objs.size :: [I]:=fun b o e hm=>by
    rcases List.mem_cons.mp hm with z | z
    · exact absurd (Heap.lt_size e) (by rw [z]; exact Nat.lt_irrefl _)
    · rw [List.mem_singleton] at z
      subst z
      rw [Heap.get?_push_of_some _ e] at nI0
      cases nI0
  refine wpAny_bind (wpAny_holding (hint_set (let ⟨o,e,c,_⟩:=x1; ⟨o,k1 _ _ e,c⟩) ?_))
  refine wpAny_ite_split (fun _=>?_) (fun c=>absurd (by decide) c)
  refine wpAny_bind (wpAny_rule ?_)
  refine wpAny_bind ?_
  show wpAny _ _ (updateSeq s.heap.objs.size (·.push .none) >>= fun _=>updateSeq s.heap.objs.size (·.pop)) _ _ _
  refine wpAny_bind (wpAny_updateSeq hS1 rfl ?_)
  have hS2:=Heap.get?_update_self (Obj.mapSeq (·.push Value.none)) hS1 rfl
  refine wpAny_updateSeq (hz:=by seq_fits) hS2 rfl ?_
  have hS3:=Heap.get?_update_self (Obj.mapSeq (·.pop)) hS2 rfl
  have oth:∀ b o,b≠s.heap.objs.size→h1.get? b = some o→((h1.update s.heap.objs.size (Obj.mapSeq (·.push Value.none))).update s.heap.objs.size (Obj.mapSeq (·.pop))).get? b = some o:=
    fun b o n e=>(Heap.get?_update_other _ _ (Ne.symm n)).trans ((Heap.get?_update_other _ _ (Ne.symm n)).trans e)
  refine wpAny_pure ⟨plainId_quiet PySem.F.plain_extend_loop _,codeAny_extend_loopS (W A.in1 hh).toS (by rw [pm.length_eq,List.length_map,Array.length_toList]; exact fits_of_scanBound hb) s.heap.objs.size hSf (.ref s.heap.objs.size) xs.length 0 _ #[] _ rfl (Nat.zero_le _) ((W A hh).frame 0 _ _ st fun b hb o e=>oth b o (fun z=>hSf (z ▸ hb)) e) hS3 (ItemsOf.nil _) fun s' acc c hm hS' it=>?_⟩
  refine ⟨acc,c,rfl,hS',?_⟩
  rw [items_list it,Moved.eq_with hm]
  exact q _ _ _ xs (fun b o e=>hm.heap b o (nI b o e) (oth b o (Nat.ne_of_lt (Heap.lt_size e)) (k1 b o (Heap.get?_push_of_some _ e)))) pm
end
end L2
namespace L2
section
open PySem PySem.Calls PyProof.Rows
variable {prog:Program} {w:World} {A:Around} {E:Value→Shared→Prop} {s:Shared}
theorem lay_led (t:SetTable) (es:Array (Int×Value)) (h:Int) (x:Value):(layNew t es h x).2.1.led = t.led:=by
  unfold layNew
  split
  · dsimp only [SetTable.put,SetTable.orStandIn]
    split <;> split <;> rfl
  · rfl
theorem relay_led (t:SetTable) (es:Array (Int×Value)) (n:Nat):(relayAll t es n).2.1.led = t.led:=by
  unfold relayAll
  split
  · rename_i t' order e
    unfold SetTable.relaid SetTable.laid at e
    cases z:SetTable.layClean (SetTable.sizeAbove n - 1) (es.map (·.1)) with
    | none=>rw [z] at e; cases e
    | some ow=>
      rw [z] at e
      injection e with e
      injection e with e1 e2
      dsimp only
      split
      · rw [← e1]
      · rfl
  · rfl
theorem relay_plain (t:SetTable) (es:Array (Int×Value)) (n:Nat) (p:t.plain = false):(relayAll t es n).2.1.plain = false:=by
  unfold relayAll
  split
  · rename_i t' order e
    unfold SetTable.relaid SetTable.laid at e
    cases z:SetTable.layClean (SetTable.sizeAbove n - 1) (es.map (·.1)) with
    | none=>rw [z] at e; cases e
    | some ow=>
      rw [z] at e
      injection e with e
      injection e with e1 e2
      dsimp only
      split
      · rw [← e1]; exact p
      · rfl
  · rfl
def TxtSet (prog:Program) (w:World) (h:Heap) (a:Addr) (ks:List Str):Prop:=∃ o es ep t ss,h.get? a = some o∧o.ExactSet∧o.data = .set es ep t∧ElemsOf (PySem.strKind prog w) es.toList∧t.fits es.size = true∧t.led = (!ByText w)∧(es.size≠0→t.plain = false)∧
  StrsAre (es.toList.map (·.2)) ss∧ss.Perm ks
theorem is_str {k:Str} {v:Value} (h:Value.isStrOf k v = true):∃ t,v = .str k t:=Value.isStrOf_shape h
theorem txt_new (led:Bool) (hl:led = !ByText w) {h:Heap} {a:Addr} (e:h.get? a = some { cls:=.type "set",dict:=none,data:=.set #[] 0 (.fresh 0 0 led) }):TxtSet prog w h a []:=
  ⟨_,#[],0,_,[],e,⟨rfl,rfl,rfl⟩,rfl,fun e he=>by simp at he,by rfl,hl,fun z=>absurd rfl z,.nil,List.Perm.refl _⟩
theorem strs_perm {vs us:List Value} {ss:List Str} (h:StrsAre vs ss) (p:us.Perm vs):∃ ts,StrsAre us ts∧ts.Perm ss:=by
  refine ⟨us.map strOf,strsAre_map us fun v hv=>h.all v (p.mem_iff.mp hv),?_⟩
  have:=p.map strOf
  rw [h.strs] at this
  exact this
theorem strs_app:∀ {vs us:List Value} {ss ts:List Str},StrsAre vs ss→StrsAre us ts→StrsAre (vs ++ us) (ss ++ ts)
  | _,_,_,_,.nil,h=>h
  | _,_,_,_,.cons x t g,h=>.cons x t (strs_app g h)
theorem mem_strs {es:Array (Int×Value)} {ss:List Str} {k:Str} (hs:StrsAre (es.toList.map (·.2)) ss):k∈ss↔∃ e∈es.toList,Value.isStrOf k e.2 = true:=by
  rw [← hs.strs,List.mem_map]
  constructor
  · rintro ⟨v,hv,rfl⟩
    obtain ⟨e,he,rfl⟩:=List.mem_map.mp hv
    obtain ⟨x,t,ex⟩:=hs.all _ hv
    refine ⟨e,he,?_⟩
    rw [ex]
    simp [Value.isStrOf,strOf]
  · rintro ⟨e,he,hk⟩
    obtain ⟨t,ex⟩:=is_str hk
    exact ⟨e.2,List.mem_map.mpr ⟨e,he,rfl⟩,by rw [ex]; rfl⟩
theorem add_tail {g:Bool→Sem Unit} (hg:∀ (b:Bool) (s₁:Shared) (Q':Unit→Shared→Prop),Q' () s₁→wpAny (model prog w) A (g b) Q' E s₁) {a:Addr} {o:Obj} {es es1:Array (Int×Value)} {ep:Nat} {t t2:SetTable} {wd:Bool} {R:Option Bool→Shared→Prop}
    (ho:s.heap.get? a = some o) (hd:o.data = .set es ep t) (hb:es1.size < scanBound) (hf:t2.fits es1.size = true) (hp:t2.plain = false)
    (q:∀ h' es' ep' t',Heap.SameBut a s.heap h'→h'.get? a = some { o with data:=.set es' ep' t' }→es'.toList.Perm es1.toList→t'.fits es'.size = true→t'.led = t2.led→t'.plain = false→R (some true) { s with heap:=h' }) :
    wpAny (model prog w) A (storeSet a es1 t2 >>= fun _=>if (!wd && t2.tooFull) = true then g (relayAll t2 es1 (SetTable.grown es1.size)).2.2 >>= fun _=>storeSet a (relayAll t2 es1 (SetTable.grown es1.size)).1 (relayAll t2 es1 (SetTable.grown es1.size)).2.1 >>= fun _=>pure (some true) else pure (some true)) R E s:=by
  have put:∀ (h:Heap) (o:Obj) (es ep t es' t'),h.get? a = some o→o.data = .set es ep t→(h.update a (Obj.putSet es' t')).get? a = some { o with data:=.set es' (ep + 1) t' }:=fun h o es ep t es' t' e d=>by
    have z:=Heap.get?_update_self (Obj.putSet es' t') e (by rw [putSet_of es' t' d]; rfl)
    rw [putSet_of es' t' d] at z
    exact z
  refine wpAny_bind (wpAny_storeSet_of ho hd ?_ (fits_of_scanBound hb))
  have h1:=put s.heap o es ep t es1 t2 ho hd
  refine wpAny_ite_split (fun _=>?_) (fun _=>wpAny_pure (q _ es1 (ep + 1) t2 (Heap.SameBut.update ..) h1 (List.Perm.refl _) hf rfl hp))
  have pm:=relayAll_perm t2 es1 (SetTable.grown es1.size)
  have sz:(relayAll t2 es1 (SetTable.grown es1.size)).1.size = es1.size:=by rw [← Array.length_toList,pm.length_eq,Array.length_toList]
  refine wpAny_bind (hg _ _ _ (wpAny_bind (wpAny_storeSet_of h1 rfl ?_ (fits_of_scanBound (by rw [sz]; exact hb)))))
  exact wpAny_pure (q _ _ (ep + 1 + 1) _ ((Heap.SameBut.update ..).trans (Heap.SameBut.update ..)) (put _ { o with data:=.set es1 (ep + 1) t2 } es1 (ep + 1) t2 _ _ h1 rfl) pm (relayAll_fits ..) (relay_led ..) (relay_plain _ _ _ hp))
theorem set_add_txt {a:Addr} {ks:List Str} {k:Str} {tk:Tok} {Q:Bool→Shared→Prop} (S:TxtSet prog w s.heap a ks) (room:ks.length + 1 < scanBound)
    (q:∀ b h',Heap.SameBut a s.heap h'→TxtSet prog w h' a (if k∈ks then ks else ks ++ [k])→Q b { s with heap:=h',toks:=s.toks + 1 }):wpAny (model prog w) A (setAdd a (.str k tk)) Q E s:=by
  obtain ⟨o,es,ep,t,ss,ho,hex,hd,hel0,hf,hl,hp,hs,pm⟩:=S
  have hel:ElemsOf (PySem.strKind prog w) es.toList:=hel0
  have hkey:(PySem.strKind prog w).is k (.str k tk) = true:=by show Value.isStrOf k (.str k tk) = true; simp [Value.isStrOf]
  have ln:es.size = ks.length:=by rw [← pm.length_eq,← hs.length,List.length_map,Array.length_toList]
  have hb:es.size < scanBound:=by omega
  unfold setAdd
  refine wpAny_holding (wpAny_bind ((PySem.strKind prog w).pyHash hkey ?_))
  unfold setAddHashed
  unfold setAddHashedIn
  refine wpAny_holding (wpAny_bind (wpAny_setState_of (s:={ s with toks:=s.toks + 1 }) ho hd hf ?_))
  dsimp only
  rw [byScan_of rfl hb hel]
  simp only [↓reduceIte]
  unfold setAddByScan
  refine wpAny_bind (wpAny_bind (wpAny_rule (wpAny_bind (wpAny_setScan_of hkey ho hd hf hel ?_))))
  cases hr:List.findIdx? (fun e=>(PySem.strKind prog w).is k e.2) es.toList with
  | some j=>
    dsimp only
    obtain ⟨hj,hpj,_⟩:=List.findIdx?_eq_some_iff_getElem.mp hr
    have hm:k∈ks:=pm.mem_iff.mp ((mem_strs hs).mpr ⟨_,List.getElem_mem hj,hpj⟩)
    refine wpAny_pure (wpAny_pure (q false s.heap (Heap.SameBut.refl a s.heap) ?_))
    rw [if_pos hm]
    exact ⟨o,es,ep,t,ss,ho,hex,hd,hel,hf,hl,hp,hs,pm⟩
  | none=>
    dsimp only
    have hm:k ∉ ks:=fun z=>by
      obtain ⟨e,he,hk⟩:=(mem_strs hs).mp (pm.mem_iff.mpr z)
      have:=List.findIdx?_eq_none_iff.mp hr e he
      exact absurd (hk.symm.trans this) (by decide)
    rw [if_neg hm] at q
    have gw:∀ (b:Bool) (s₁:Shared) (Q':Unit→Shared→Prop),Q' () s₁→wpAny (model prog w) A (match b with | true=>rule "set.scan.the-table-gave-way" | false=>pure ()) Q' E s₁:=fun b s₁ Q' hq=>by
      cases b
      · exact wpAny_pure hq
      · exact wpAny_rule hq
    have lp:=layNew_perm t es ((PySem.strKind prog w).hash k) (.str k tk)
    have lf:=layNew_fits t es ((PySem.strKind prog w).hash k) (.str k tk)
    have ll:=lay_led t es ((PySem.strKind prog w).hash k) (.str k tk)
    generalize layNew t es ((PySem.strKind prog w).hash k) (.str k tk) = L at lp lf ll
    obtain ⟨es1,t1,wd,gave⟩:=L
    dsimp only at lp lf ll ⊢
    rw [Array.toList_push] at lp
    have hel1:ElemsOf (PySem.strKind prog w) es1.toList:=(hel.push hkey rfl).perm lp
    have sz1:es1.size = es.size + 1:=by rw [← Array.length_toList,lp.length_eq,List.length_append,Array.length_toList]; rfl
    have str1:∃ ts,StrsAre (es1.toList.map (·.2)) ts∧ts.Perm (ks ++ [k]):=by
      have h0:StrsAre ((es.toList ++ [((PySem.strKind prog w).hash k,Value.str k tk)]).map (·.2)) (ss ++ [k]):=by
        rw [List.map_append]
        exact strs_app hs (.cons k tk .nil)
      obtain ⟨ts,y1,y2⟩:=strs_perm h0 (lp.map (·.2))
      exact ⟨ts,y1,y2.trans (pm.append_right _)⟩
    have fin:∀ h' es' ep' t',Heap.SameBut a s.heap h'→h'.get? a = some { o with data:=.set es' ep' t' }→es'.toList.Perm es1.toList→t'.fits es'.size = true→t'.led = t.led→t'.plain = false→TxtSet prog w h' a (ks ++ [k]):=fun h' es' ep' t' _ e pe fe le pl=>by
      obtain ⟨ts,y1,y2⟩:=str1
      obtain ⟨us,z1,z2⟩:=strs_perm y1 (pe.map (·.2))
      exact ⟨_,es',ep',t',us,e,hex,rfl,hel1.perm pe,fe,le.trans hl,fun _=>pl,z1,z2.trans y2⟩
    refine wpAny_bind (gw _ _ _ ?_)
    refine wpAny_ite_split (fun c=>?_) (fun c=>?_)
    · rw [hashByValue_scannable 8 rfl]
      refine wpAny_bind (wpAny_pure ?_)
      refine add_tail gw ho hd (by rw [sz1,ln]; exact room) (SetTable.fits_plain_off lf) rfl fun h' es' ep' t' sb e pe fe le pl=>wpAny_pure (q true h' sb (fin h' es' ep' t' sb e pe fe (le.trans ll) pl))
    · refine wpAny_bind (wpAny_pure ?_)
      have pl1:t1.plain = false:=by simpa using c
      refine add_tail gw ho hd (by rw [sz1,ln]; exact room) lf pl1 fun h' es' ep' t' sb e pe fe le pl=>wpAny_pure (q true h' sb (fin h' es' ep' t' sb e pe fe (le.trans ll) pl))
def onceS (ss:List Str):List Str:=ss.foldl (fun ks k=>if k∈ks then ks else ks ++ [k]) []
theorem once_len (ss:List Str):(onceS ss).length≤ss.length:=by
  have z:∀ (l ks:List Str),(l.foldl (fun ks k=>if k∈ks then ks else ks ++ [k]) ks).length≤ks.length + l.length:=fun l=>by
    induction l with
    | nil=>intro ks; exact Nat.le_refl _
    | cons k r ih=>
      intro ks
      refine Nat.le_trans (ih _) ?_
      rw [List.length_cons]
      dsimp only
      split
      · omega
      · rw [List.length_append,List.length_singleton]; omega
  have:=z ss []
  rw [List.length_nil,Nat.zero_add] at this
  exact this
theorem once_step {ss:List Str} {i:Nat} {k:Str} (h:ss[i]? = some k):onceS (ss.take (i + 1)) = if k∈onceS (ss.take i) then onceS (ss.take i) else onceS (ss.take i) ++ [k]:=by
  have e:ss.take (i + 1) = ss.take i ++ [k]:=by rw [List.take_add_one,h]; rfl
  unfold onceS
  rw [e,List.foldl_append]
  rfl
theorem TxtSet.keep {h h':Heap} {a:Addr} {ks:List Str} (S:TxtSet prog w h a ks) (k:∀ o,h.get? a = some o→h'.get? a = some o):TxtSet prog w h' a ks:=let ⟨o,es,ep,t,ss,e,r⟩:=S; ⟨o,es,ep,t,ss,k o e,r⟩
theorem strs_at:∀ {vs:List Value} {ss:List Str},StrsAre vs ss→∀ (i:Nat) (v:Value),vs[i]? = some v→∃ k t,v = .str k t∧ss[i]? = some k
  | _,_,.nil,i,v,h=>by simp at h
  | _,_,.cons x t r,0,v,h=>⟨x,t,by simpa using h.symm,rfl⟩
  | _,_,.cons x t r,i + 1,v,h=>strs_at r i v h
theorem fill_loop {R:Result→Shared→Prop} {I S:Addr} {fp:List Addr} {vs:List Value} {ss:List Str} {St:Nat→Heap→Prop} (W:Walks prog w A.in1 I fp [I] vs.length (fun i v=>vs[i]? = some v) St) (nS:S ∉ fp) (hs:StrsAre vs ss) (hb:vs.length + 1 < scanBound) :
    ∀ (k i:Nat) (s:Shared),vs.length - i = k→i≤vs.length→St i s.heap→TxtSet prog w s.heap S (onceS (ss.take i))→
      (∀ h' tk,(∀ b o,b ∉ [S,I]→s.heap.get? b = some o→h'.get? b = some o)→TxtSet prog w h' S (onceS ss)→R (.ok (.ret .none)) { s with heap:=h',toks:=tk })→codeAny (model prog w) A (.builtin "set.update.loop" ⟨[.ref S,.ref I],[]⟩) R s:=by
  have nI:S ∉ [I]:=fun z=>nS (W.sub _ z)
  have ln:vs.length = ss.length:=hs.length
  intro k
  induction k with
  | zero=>
    intro i s hk hi st T q
    have e:i = vs.length:=by omega
    subst e
    refine codeAny_builtin PyProof.Rows.F.entry_set_update_loop ?_
    rw [Around.under_plainId PyProof.Rows.F.plain_set_update_loop _]
    refine wpAny_bind (m:=pyNext (.ref I)) (W.done s _ _ st fun h' tk k'=>?_)
    rw [ln,List.take_length] at T
    exact wpAny_pure (q h' tk (fun b o n e=>k' b o (fun z=>n (List.mem_cons_of_mem _ z)) e) (T.keep fun o e=>k' S o nI e))
  | succ k ih=>
    intro i s hk hi st T q
    have lt:i < vs.length:=by omega
    refine codeAny_builtin PyProof.Rows.F.entry_set_update_loop ?_
    rw [Around.under_plainId PyProof.Rows.F.plain_set_update_loop _]
    refine wpAny_bind (m:=pyNext (.ref I)) (W.item i s _ _ lt st fun v h' tk hv st' k'=>?_)
    obtain ⟨x,t,rfl,hx⟩:=strs_at hs i v hv
    refine wpAny_bind (m:=holding [Value.str x t] (setAdd S (.str x t))) (wpAny_holding (set_add_txt (T.keep fun o e=>k' S o nI e) ?_ fun b h2 sb T2=>?_))
    · have:=once_len (ss.take i)
      rw [List.length_take] at this
      omega
    rw [← once_step hx] at T2
    refine wpAny_pure ⟨plainId_quiet PyProof.Rows.F.plain_set_update_loop _,ih (i + 1) _ (by omega) lt (W.frame _ _ _ st' fun b hb o e=>?_) T2 fun h3 tk3 k3 T3=>?_⟩
    · rw [sb.2 b (fun z=>nS (z ▸ hb))]; exact e
    · refine q h3 tk3 (fun b o n e=>k3 b o n ?_) T3
      rw [sb.2 b (fun z=>n (by simp [z]))]
      exact k' b o (fun z=>n (List.mem_cons_of_mem _ z)) e
theorem set_made (x:Value) {Q₁:Value→Shared→Prop} (q:Q₁ (.ref s.heap.objs.size) { s with heap:=s.heap.push { cls:=.type "set",dict:=none,data:=.set #[] 0 (.fresh 0 0 (!ByText w)) } }) :
    codeAny (model prog w) A (.call (.builtin "set.__new__") ⟨[.type "set",x],[]⟩) (wants Q₁ E) s:=by
  refine codeAny_of_tree ?_
  refine wpAny_bind (m:=checkBuiltinCall "set.__new__" ⟨[.type "set",x],[]⟩) (wpAny_of_eq (PySem.F.newCall_set_1 x) (wpAny_pure ⟨plainId_quiet PySem.F.plain_set_new _,codeAny_builtin PySem.F.entry_set_new ?_⟩))
  rw [Around.under_plainId PySem.F.plain_set_new _]
  unfold Builtin.«set.__new__»
  unfold Builtin.Frozenset.newClass
  have hsub:=sub_set_self
  obtain ⟨hp,g,d,tk,os⟩:=s
  dsimp only
  wp_walk
  refine wpAny_askSetting (wpAny_pure ?_)
  dsimp only
  simp only [newObj]
  exact wpAny_bind (wpAny_alloc (wpAny_pure (wpAny_pure q)))
end
end L2
namespace L2
section
open PySem PySem.Calls PyProof.Rows
variable {prog:Program} {w:World} {A:Around} {E:Value→Shared→Prop} {s:Shared}
theorem set_call {lq:Addr} {vs:List Value} {ss:List Str} {Q:Value→Shared→Prop} (hh:A.handled = none) (hl:s.heap.IsList lq vs.toArray) (hs:StrsAre vs ss) (hb:vs.length + 1 < scanBound)
    (q:∀ h' tk,(∀ b o,s.heap.get? b = some o→h'.get? b = some o)→TxtSet prog w h' s.heap.objs.size (onceS ss)→Q (.ref s.heap.objs.size) { s with heap:=h',toks:=tk }):wpAny (model prog w) A (call (.type "set") [.ref lq]) Q E s:=by
  obtain ⟨c,tl,hmro⟩:=PySem.F.called_set.mro
  have hmade:=PySem.F.called_set.made
  have hsub:=PySem.F.called_set.sub
  refine wpAny_call (codeAny_of_tree (wpAny_pure ⟨Code.quiet_builtin _ (by decide +kernel),codeAny_builtin PySem.F.entry_type_call ?_⟩))
  rw [Around.under_plain (weight_type_call_type "set" [.ref lq] []) rfl]
  have h1:=PySem.F.called_set.notType
  have h2:=PySem.F.called_set.canCreate
  have hct:=PySem.F.typeCall_set_1 (.ref lq)
  repeat (any_goals (first | assumption | wp_step))
  refine codeAny_mono (set_made (.ref lq) (E:=E) (Q₁:=fun obj s₁=>obj = .ref s.heap.objs.size∧s₁ = { s with heap:=s.heap.push { cls:=.type "set",dict:=none,data:=.set #[] 0 (.fresh 0 0 (!ByText w)) } }) ⟨rfl,rfl⟩) fun r s₁ hr=>?_
  match r,hr with
  | .error e,hr=>exact hr
  | .ok (.ret obj),hr=>
    obtain ⟨rfl,rfl⟩:=hr
    have hS:(s.heap.push { cls:=.type "set",dict:=none,data:=.set #[] 0 (.fresh 0 0 (!ByText w)) }).get? s.heap.objs.size = some { cls:=.type "set",dict:=none,data:=.set #[] 0 (.fresh 0 0 (!ByText w)) }:=Heap.get?_push_size _ rfl
    have hT:Shared.TypeIs { s with heap:=s.heap.push { cls:=.type "set",dict:=none,data:=.set #[] 0 (.fresh 0 0 (!ByText w)) } } (.ref s.heap.objs.size) "set":=⟨_,hS,rfl⟩
    have hli:=PySem.F.called_set.init.lookup
    have hbi:=PySem.F.called_set.init.bind (.ref s.heap.objs.size)
    repeat (any_goals (first | assumption | wp_step))
    refine codeAny_mono (codeAny_call_builtin (R:=wants (fun r s₂=>r = .none∧∃ h' tk,s₂ = { s with heap:=h',toks:=tk }∧(∀ b o,s.heap.get? b = some o→h'.get? b = some o)∧TxtSet prog w h' s.heap.objs.size (onceS ss)) E) PySem.F.called_set.init.plain PySem.F.entry_set_init (check_set_init_1 hT ?_)) fun r₂ s₂ hr₂=>?_
    · obtain ⟨⟨cl,dl,tl,sl⟩,el,hcl,nl,hdl⟩:=hl
      simp only at hcl hdl
      subst hcl; subst hdl
      have el':=Heap.get?_push_of_some ({ cls:=.type "set",dict:=none,data:=.set #[] 0 (.fresh 0 0 (!ByText w)) }:Obj) el
      have lt:lq < s.heap.objs.size:=Heap.lt_size el
      have l1:(s.heap.push { cls:=.type "set",dict:=none,data:=.set #[] 0 (.fresh 0 0 (!ByText w)) }).IsList lq vs.toArray:=⟨_,el',rfl,nl,rfl⟩
      have n1:=PySem.F.sub_list_set
      have n2:=PySem.F.sub_list_frozenset
      have n3:(Value.type "list" == Value.type "dict") = false:=by decide
      unfold Builtin.«set.__init__» Builtin.Frozenset.updateFrom noKeywords
      generalize ePI:pyIter = PI
      wp_walk
      subst ePI
      refine wpAny_pyIter_list l1 (wpAny_bind (wpAny_runValue ?_))
      have nI:lq≠(s.heap.push { cls:=.type "set",dict:=none,data:=.set #[] 0 (.fresh 0 0 (!ByText w)) }).objs.size:=by rw [Heap.size_push]; exact Nat.ne_of_lt (Nat.lt_succ_of_lt lt)
      have nS:s.heap.objs.size ∉ [(s.heap.push { cls:=.type "set",dict:=none,data:=.set #[] 0 (.fresh 0 0 (!ByText w)) }).objs.size,lq]:=by
        rw [Heap.size_push]
        simp only [List.mem_cons,List.not_mem_nil,or_false,not_or]
        exact ⟨Nat.ne_of_lt (Nat.lt_succ_self _),Nat.ne_of_gt lt⟩
      have hA:A.in1.in1.in1.handled = none:=by simp [hh]
      have W:=Walks.list (prog:=prog) (w:=w) hA (s.heap.push { cls:=.type "set",dict:=none,data:=.set #[] 0 (.fresh 0 0 (!ByText w)) }).objs.size lq nI vs.toArray
      have W2:Walks prog w A.in1.in1.in1 (s.heap.push { cls:=.type "set",dict:=none,data:=.set #[] 0 (.fresh 0 0 (!ByText w)) }).objs.size [(s.heap.push { cls:=.type "set",dict:=none,data:=.set #[] 0 (.fresh 0 0 (!ByText w)) }).objs.size,lq] [(s.heap.push { cls:=.type "set",dict:=none,data:=.set #[] 0 (.fresh 0 0 (!ByText w)) }).objs.size] vs.length (fun i v=>vs[i]? = some v) (fun i h=>h.IsListIter (s.heap.push { cls:=.type "set",dict:=none,data:=.set #[] 0 (.fresh 0 0 (!ByText w)) }).objs.size lq i∧h.IsList lq vs.toArray):=by
        simpa only [List.size_toArray,List.getElem?_toArray] using W
      refine fill_loop W2 nS hs hb vs.length 0 _ (by omega) (Nat.zero_le _) ⟨⟨_,Heap.get?_push_size _ rfl,rfl,rfl⟩,l1.push _⟩ (txt_new (!ByText w) rfl (Heap.get?_push_of_some _ hS)) fun h' tk k' T=>?_
      refine wpAny_pure (wpAny_pure ⟨rfl,h',tk,rfl,fun b o e=>k' b o (fun z=>?_) (Heap.get?_push_of_some _ (Heap.get?_push_of_some _ e)),T⟩)
      have lb:=Heap.lt_size e
      rw [Heap.size_push] at z
      simp only [List.mem_cons,List.not_mem_nil,or_false] at z
      rcases z with rfl | rfl
      · exact absurd lb (Nat.lt_irrefl _)
      · exact absurd lb (Nat.not_lt.mpr (Nat.le_succ _))
    · match r₂,hr₂ with
      | .error e,hr₂=>exact hr₂
      | .ok (.ret r),hr₂=>
        obtain ⟨rfl,h',tk,rfl,k',T⟩:=hr₂
        repeat (any_goals (first | assumption | wp_step))
        exact q _ _ k' T
      | .ok .next,hr₂=>exact hr₂.elim
end
end L2
namespace L2
section
open PySem PySem.Calls PyProof.Rows
variable {X:Cx} {pins:List (Addr×Obj)} {σ:St} {H:Hp} {s:Shared}
theorem Inv.drew {d':Drawn} (I:Inv X pins σ H s):Inv X pins σ H { s with drawn:=d' }:=⟨I.ok,I.os,I.bare,I.base,I.loc,I.cell,I.free,I.freeC,I.pin,I.hok,I.len⟩
theorem strs_of_vals:∀ {ss:List Str} {its:List Value},Vals (ss.map V.str) its→StrsAre its ss
  | [],_,.nil=>.nil
  | x :: r,_,.cons h t=>by
    obtain ⟨k,rfl⟩:=h
    exact .cons x k (strs_of_vals t)
theorem vals_of_strs:∀ {ss:List Str} {its:List Value},StrsAre its ss→Vals (ss.map V.str) its
  | _,_,.nil=>.nil
  | _,_,.cons x t h=>.cons ⟨t,rfl⟩ (vals_of_strs h)
theorem strs_by:∀ {us:List Value} {ss:List Str},us.length = ss.length→(∀ (j:Nat) (v:Value),us[j]? = some v→∃ k t,v = .str k t∧ss[j]? = some k)→StrsAre us ss
  | [],[],_,_=>.nil
  | [],_ :: _,h,_=>nomatch h
  | _ :: _,[],h,_=>nomatch h
  | u :: us,k :: ss,h,f=>by
    obtain ⟨k',t,rfl,e⟩:=f 0 u rfl
    cases e
    exact .cons _ t (strs_by (Nat.succ.inj h) fun j v e=>f (j + 1) v e)
theorem kv_keys:∀ {kvs:List (Key×V)} {vs:List (Key×Value)},KV kvs vs→vs.map (·.1) = kvs.map (·.1)
  | _,_,.nil=>rfl
  | _,_,.cons h t=>by rw [List.map_cons,List.map_cons,kv_keys t,h.1]
def SetT (P:Program) (w:World) (p:Addr) (ks:List Str):HO:=.ext fun h=>TxtSet P w h p ks
def rSetT (P:Program) (w:World) (K:PySem.W.Frag):List V→Hp→VK→Prop:=fun xs H Q=>∃ (a:Addr) (ss:List Str),xs = [.ref a]∧SqL K H a (ss.map V.str)∧ss.length≤1000∧∀ p,H p = none→Q (.ref p) (upd H p (SetT P w p (onceS ss)))
theorem call_setT {P:Program} {w:World} {K:PySem.W.Frag} (hP:X.prog = P) (hw:X.w = w) (hK:X.K = K) (hc:X.calm = true):CallR X (.type "set") (rSetT P w K):=by
  subst hP hw hK
  intro pins s σ H xs us Q I r h
  obtain ⟨a,ss,rfl,h1,few,q⟩:=h
  obtain ⟨u,rfl,ru⟩:=vals1 r
  cases ru
  obtain ⟨its,r1,p1,_⟩:=I.list h1
  have hs:=strs_of_vals r1
  have ln:=hs.length
  refine set_call (I.ok.hd hc) p1.isList hs (by rw [ln]; unfold scanBound; omega) fun h' tk k T=>⟨.ref s.heap.objs.size,_,I.laid (t':=tk) k (Nat.le_refl _) (?_:ObjOk X.prog X.w _ h' _ (SetT X.prog X.w s.heap.objs.size (onceS ss))),rfl,q _ (I.hok.fresh (Nat.le_refl _))⟩
  exact ⟨T,let ⟨o,_,_,_,_,e,_⟩:=T; ⟨o,e⟩,fun h1 h2 T1 kk=>T1.keep kk⟩
def GivesS (H:Hp) (ks:List Str) (Q:VK):Prop:=∀ ts p,ts.Perm ks→sortedS ts = true→H p = none→Q (.ref p) (upd H p (.lst (ts.map V.str)))
theorem sorts_to {Q:VK} {ks:List Str} {d':Drawn} {tk:Nat} {h1:Heap} {vs:List Value} {ss:List Str} (I:Inv X pins σ H s) (k:∀ b o,s.heap.get? b = some o→h1.get? b = some o) (hs:StrsAre vs ss) (pm:ss.Perm ks) (few:ks.length < 64) (q:GivesS H ks Q) :
    SortsTo (EP X pins σ Q) vs { s with heap:=h1,drawn:=d',toks:=tk }:=by
  have I1:Inv X pins σ H { s with heap:=h1,drawn:=d',toks:=tk }:=(I.drew (d':=d')).kept (t':=tk) k
  refine ⟨ss,hs,by rw [hs.length,pm.length_eq]; exact few,fun h' p out ss' c ho pe so lp k' e=>⟨.ref p,_,I1.laid (t':=tk) k' lp (?_:ObjOk X.prog X.w _ h' p (.lst (ss'.map V.str))),rfl,q ss' p (pe.trans pm) so (I1.hok.fresh lp)⟩⟩
  refine ⟨?_,out,c,vals_of_strs ho,e⟩
  rw [List.length_map,pe.length_eq,pm.length_eq,sizeLine_eq]
  omega
def rSortT (P:Program) (w:World):List V→Hp→VK→Prop:=fun xs H Q=>∃ (a:Addr) (ks:List Str),xs = [.ref a]∧H a = some (SetT P w a ks)∧ks.length < 64∧GivesS H ks Q
theorem call_sortT {P:Program} {w:World} (hP:X.prog = P) (hw:X.w = w) (hc:X.calm = true):CallR X (.builtin "sorted") (rSortT P w):=by
  subst hP hw
  intro pins s σ H xs us Q I r h
  obtain ⟨a,ks,rfl,h1,few,q⟩:=h
  obtain ⟨u,rfl,ru⟩:=vals1 r
  cases ru
  obtain ⟨T,_⟩:ObjOk X.prog X.w H s.heap a (SetT X.prog X.w a ks):=I.hok a _ h1
  obtain ⟨o,es,ep,t,ss,e,ex,d,el,f,hl,hp,hs,pm⟩:=T
  have ln:es.size = ks.length:=by rw [← pm.length_eq,← hs.length,List.length_map,Array.length_toList]
  refine sorted_walked (collect_set (by simpa using I.ok.hd hc) ⟨o,e,ex.1,d⟩ f hl hp (by rw [ln]; unfold scanBound; omega) fun h' d' tk vs k pv=>?_)
  obtain ⟨ts,y1,y2⟩:=strs_perm hs pv
  exact sorts_to I k y1 (y2.trans pm) few q
def rSortD:List V→Hp→VK→Prop:=fun xs H Q=>∃ (d:Addr) (kvs:List (Key×V)) (ss:List Str),xs = [.ref d]∧H d = some (.dK kvs)∧kvs.map (·.1) = ss.map .inr∧ss.length < 64∧GivesS H ss Q
theorem call_sortD (hc:X.calm = true):CallR X (.builtin "sorted") rSortD:=by
  intro pins s σ H xs us Q I r h
  obtain ⟨d,kvs,ss,rfl,h1,hk,few,q⟩:=h
  obtain ⟨u,rfl,ru⟩:=vals1 r
  cases ru
  obtain ⟨_,lo,vs,rv,o,es,ep,ho,h2,h3,h4⟩:ObjOk X.prog X.w H s.heap d (.dK kvs):=I.hok d _ h1
  have D:s.heap.DictAt (mixKind X.prog X.w) d vs ep:=⟨o,es,ho,h2,h3,h4⟩
  have ln:vs.length = ss.length:=by
    have:=congrArg List.length hk
    rw [List.length_map,List.length_map] at this
    rw [← this]; exact rv.length.symm
  refine sorted_walked (collect_src (PySem.W.kdl_dict (knd:=mixKind X.prog X.w) (kvs:=vs) (ep:=ep) lo) (by simpa using I.ok.hd hc) D (by rw [ln,sizeLine_eq]; omega) fun h' tk us k lu it=>?_)
  have hs:StrsAre us ss:=by
    refine strs_by (by rw [lu,ln]) fun j v e=>?_
    obtain ⟨ky,x,e1,e2⟩:=it j v e
    have e3:(kvs.map (·.1))[j]? = some ky:=by rw [← kv_keys rv,List.getElem?_map,e1]; rfl
    rw [hk,List.getElem?_map] at e3
    cases z:ss[j]? with
    | none=>rw [z] at e3; cases e3
    | some y=>
      rw [z] at e3
      injection e3 with e3
      subst e3
      obtain ⟨t,rfl⟩:=relV_key e2
      exact ⟨_,t,rfl,rfl⟩
  exact sorts_to (d':=s.drawn) I k hs (List.Perm.refl _) few q
end
end L2
namespace L2
open PySem
theorem op_catT3K {X:Cx} {K:PySem.W.Frag} (h:X.K = K):OpR X (binaryOp .Add) (rCatT3 K):=by
  subst h
  exact op_catT3
end L2
namespace L2
open PySem PySem.Spec PyProof.Rows
section
variable {X:Cx} {els:List Expr} {kk:Nat} {pp:Pos}
end
end L2
namespace L2
open PySem PySem.Spec PyProof.Rows
section
variable {X:Cx}
end
end L2
namespace L2
open PySem PySem.Spec PyProof.Rows
section
variable {X:Cx}
end
end L2
namespace L2
open PySem PySem.Spec PyProof.Rows
theorem vals_of_ints:∀ {ns:List Int} {its:List Value},IntsAre its ns→Vals (ns.map V.int) its
  | [],_,.nil=>.nil
  | _ :: _,_,.cons n t h=>.cons ⟨_,rfl⟩ (vals_of_ints h)
def rSortI (K:PySem.W.Frag):List V→Hp→VK→Prop:=fun xs H Q=>∃ (a:Addr) (ns:List Int),xs = [.ref a]∧SqL K H a (ns.map V.int)∧ns.length < 64∧∀ (ms:List Int) (p:Addr),ms.Perm ns→ms.Pairwise (·≤·)→H p = none→Q (.ref p) (upd H p (.lst (ms.map V.int)))
theorem call_sortI {X:Cx} {K:PySem.W.Frag} (hK:X.K = K):CallR X (.builtin "sorted") (rSortI K):=by
  subst hK
  intro pins s σ H xs us Q I r h
  obtain ⟨a,ns,rfl,h1,few,q⟩:=h
  obtain ⟨u,rfl,ru⟩:=vals1 r
  cases ru
  obtain ⟨its,r1,p1,_⟩:=I.list h1
  have hs:=intsAre_of r1
  have hl:=IntsAre.length hs
  refine sorted_ints p1.isList hs (by omega) fun out ns' a1 a2 a3=>?_
  obtain ⟨e,he⟩:=sortedAll_at s.heap its out
  have lp:s.heap.objs.size≤s.heap.objs.size + 1:=Nat.le_succ _
  refine ⟨.ref (s.heap.objs.size + 1),_,I.laid (t':=s.toks) (o:=.lst (ns'.map V.int)) (fun b o y=>sortedAll_old y) lp ?_,rfl,q ns' _ a2 a3 (I.hok.fresh lp)⟩
  refine ⟨?_,out.toList,e,vals_of_ints a1,he⟩
  rw [List.length_map,a2.length_eq,sizeLine_eq]
  omega
end L2
namespace L2
open PySem PySem.Spec PyProof.Rows
def PAXe (X:Cx) (es:List Expr) (t:(Value→Option Addr→Hp→Prop)→TA):Prop:=
  ∀ (pos:Pos) (pins:List (Addr×Obj)) (s:Shared) (σ:St) (H:Hp) (Q:List V→Hp→Prop) (Ex:Value→Option Addr→Hp→Prop),Inv X pins σ H s→t Ex σ H Q→wpAny (model X.prog X.w) X.A (spliced (backTo pos (starEach es X.env))) (AP X pins σ Q) (XPe X pins fun cls d σ' H'=>σ' = σ∧Ex cls d H') s
section
variable {X:Cx} {e:Expr} {es:List Expr} {pos:Pos}
theorem pexe_lift {t:TE} (h:PE X.nox e t):PEXe X e (fun _=>t):=fun pins s σ H Q Ex I q=>
  wpAny_mono (h pins s σ H Q (I.wish _) q) (fun _ _ ⟨v,H',I',r,q'⟩=>⟨v,H',I'.unwish,r,q'⟩) fun _ _ z=>False.elim z
theorem paxe_nil:PAXe X [] (fun _=>tNil):=fun _ _ _ _ H Q _ I h=>Calls.spliced_nil ⟨[],H,I,.nil,h⟩
theorem paxe_cons {te:(Value→Option Addr→Hp→Prop)→TE} {t:(Value→Option Addr→Hp→Prop)→TA} (ha:PEXe X e te) (hr:PAXe X es t) (hs:starEach (e :: es) X.env = (false,eval e X.env) :: starEach es X.env:=by rfl):PAXe X (e :: es) (fun Ex=>tCons (te Ex) (t Ex)):=by
  intro pos pins s σ H Q Ex I h
  rw [hs]
  change wpAny _ _ (spliced ((false,eval e X.env) :: backTo pos (starEach es X.env))) _ _ s
  refine Calls.spliced_cons (thn (ha pins s σ H _ Ex I h) fun u s1 ⟨x,H1,I1,r1,q1⟩=>?_)
  exact thn (hr pos pins s1 σ H1 _ Ex I1 q1) fun us s2 ⟨xs,H2,I2,r2,q2⟩=>⟨x :: xs,H2,I2,.cons r1 r2,q2⟩
theorem pexe_tup {x1} {t:(Value→Option Addr→Hp→Prop)→TA} (h:PAXe X es t):PEXe X (.Tuple es x1 pos) (fun Ex=>tTup (t Ex)):=by
  intro pins s σ H Q Ex I hq
  refine wpAny_Tuple_spliced (thn (h pos pins s σ H _ Ex I hq) fun us s1 ⟨xs,H1,I1,r,z,q⟩=>⟨by rw [← r.length]; exact z,?_⟩)
  have hf:H1 s1.heap.objs.size = none:=I1.hok.fresh (Nat.le_refl _)
  refine ⟨.ref s1.heap.objs.size,_,I1.laid (t':=s1.toks) (o:=.tup xs) (fun b u e=>Heap.get?_push_of_some _ e) (Nat.le_refl _) ?_,rfl,q _ hf⟩
  exact ⟨z,us,r,⟨_,Heap.get?_push_size _ rfl,rfl,_,rfl⟩⟩
end
end L2
namespace M06
def wsum:Nat→List Int→Int
  | _,[]=>0
  | k,x :: xs=>x * ((k:Int) + 1) + wsum (k + 1) xs
def mk (ns:List Int):Int:=wsum 0 ns % 2147483647
theorem wsum_append:∀ (xs ys:List Int) (k:Nat),wsum k (xs ++ ys) = wsum k xs + wsum (k + xs.length) ys
  | [],ys,k=>by simp [wsum]
  | x :: xs,ys,k=>by
    rw [List.cons_append,wsum,wsum,wsum_append xs ys (k + 1),List.length_cons,show k + 1 + xs.length = k + (xs.length + 1) by omega]
    omega
theorem wsum_take {ns:List Int} {i:Nat} (h:i < ns.length):wsum 0 (ns.take (i + 1)) = wsum 0 (ns.take i) + ns[i] * ((i:Int) + 1):=by
  rw [List.take_add_one,List.getElem?_eq_getElem h,wsum_append,List.length_take,Nat.min_eq_left (by omega),Nat.zero_add]
  simp [wsum]
theorem range_sum (ns:List Int):((List.range ns.length).map fun i=>ns.getD i 0 * ((i:Int) + 1)).sum = wsum 0 ns:=by
  have key:∀ i,i≤ns.length→((List.range i).map fun i=>ns.getD i 0 * ((i:Int) + 1)).sum = wsum 0 (ns.take i):=by
    intro i
    induction i with
    | zero=>intro _; simp [wsum]
    | succ i ih=>
      intro hi
      rw [List.range_succ,List.map_append,List.sum_append,ih (by omega),wsum_take (by omega)]
      simp [List.getD,List.getElem?_eq_getElem (show i < ns.length by omega)]
  have:=key ns.length (Nat.le_refl _)
  rw [List.take_of_length_le (Nat.le_refl _)] at this
  exact this
def inB (x:Int):Bool:=decide (0≤x) && decide (x≤2147483646)
def sound (ns:List Int):Bool:=(!decide (ns = [])) && (ns.all inB && decide (ns.getLastD 0 = mk ns.dropLast))
theorem mk_in (ns:List Int):0≤mk ns∧mk ns≤2147483646:=by
  unfold mk
  omega
theorem inB_iff {x:Int}:inB x = true↔0≤x∧x≤2147483646:=by simp [inB]
theorem sound_iff {ns:List Int}:sound ns = true↔ns≠[]∧(∀ x∈ns,0≤x∧x≤2147483646)∧ns.getLastD 0 = mk ns.dropLast:=by
  unfold sound
  simp only [Bool.and_eq_true,Bool.not_eq_true',decide_eq_false_iff_not,List.all_eq_true,inB_iff,decide_eq_true_eq]
theorem sound_sealed {ns:List Int} (h:∀ x∈ns,0≤x∧x≤2147483646):sound (ns ++ [mk ns]) = true:=by
  rw [sound_iff]
  refine ⟨by simp,fun x hx=>?_,by simp⟩
  rcases List.mem_append.mp hx with hx | hx
  · exact h x hx
  · rw [List.mem_singleton.mp hx]; exact mk_in ns
def co (r:List Int) (i:Nat):Int:=if i + 1 = r.length then -1 else (i:Int) + 1
end M06
set_option maxHeartbeats 4000000
namespace K18
open PySem L2 M06
def top (i:Nat):Stmt:=PySem.Challenge.pw_stemshelf_k18_laid_in_turn.main.body.getD i (.Pass ⟨0,0,0,0⟩)
abbrev s_is_whole:Stmt:=top 2
theorem sc_is_whole:FnScope ["thing"] ["thing"] (defScope s_is_whole):=⟨rfl,rfl,rfl,by decide +kernel,rfl,by decide +kernel,by decide +kernel⟩
abbrev s_is_between:Stmt:=top 3
theorem sc_is_between:FnScope ["thing","least","most"] ["thing","least","most"] (defScope s_is_between):=⟨rfl,rfl,rfl,by decide +kernel,rfl,by decide +kernel,by decide +kernel⟩
abbrev s_is_tuple_of:Stmt:=top 4
theorem sc_is_tuple_of:FnScope ["thing","many"] ["thing","many"] (defScope s_is_tuple_of):=⟨rfl,rfl,rfl,by decide +kernel,rfl,by decide +kernel,by decide +kernel⟩
abbrev s_number_of:Stmt:=top 7
theorem sc_number_of:FnScope ["sign"] ["sign"] (defScope s_number_of):=⟨rfl,rfl,rfl,by decide +kernel,rfl,by decide +kernel,by decide +kernel⟩
abbrev s_sign_of:Stmt:=top 8
theorem sc_sign_of:FnScope ["number"] ["number"] (defScope s_sign_of):=⟨rfl,rfl,rfl,by decide +kernel,rfl,by decide +kernel,by decide +kernel⟩
abbrev s_is_text:Stmt:=top 9
theorem sc_is_text:FnScope ["thing","least","most"] ["thing","least","most"] (defScope s_is_text):=⟨rfl,rfl,rfl,by decide +kernel,rfl,by decide +kernel,by decide +kernel⟩
abbrev s_Lost_init:Stmt:=inClass (top 16) 0
theorem sc_Lost_init:FnScope ["self","number"] ["self","number"] (defScope s_Lost_init):=⟨rfl,rfl,rfl,by decide +kernel,rfl,by decide +kernel,by decide +kernel⟩
abbrev s_words_of:Stmt:=top 25
theorem sc_words_of:FnScope ["thing","words","part"] ["thing"] (defScope s_words_of):=⟨rfl,rfl,rfl,by decide +kernel,rfl,by decide +kernel,by decide +kernel⟩
abbrev s_thing_of:Stmt:=top 26
theorem sc_thing_of:FnScope ["words","reader","thing"] ["words"] (defScope s_thing_of):=⟨rfl,rfl,rfl,by decide +kernel,rfl,by decide +kernel,by decide +kernel⟩
abbrev s_WordReader_init:Stmt:=inClass (top 27) 0
theorem sc_WordReader_init:FnScope ["self","words"] ["self","words"] (defScope s_WordReader_init):=⟨rfl,rfl,rfl,by decide +kernel,rfl,by decide +kernel,by decide +kernel⟩
abbrev s_WordReader_is_through:Stmt:=inClass (top 27) 1
theorem sc_WordReader_is_through:FnScope ["self"] ["self"] (defScope s_WordReader_is_through):=⟨rfl,rfl,rfl,by decide +kernel,rfl,by decide +kernel,by decide +kernel⟩
abbrev s_WordReader_word_to:Stmt:=inClass (top 27) 2
theorem sc_WordReader_word_to:FnScope ["self","most"] ["self","most"] (defScope s_WordReader_word_to):=⟨rfl,rfl,rfl,by decide +kernel,rfl,by decide +kernel,by decide +kernel⟩
abbrev s_read_thing:Stmt:=top 28
theorem sc_read_thing:FnScope ["reader","deep","first","many"] ["reader","deep"] (defScope s_read_thing):=⟨rfl,rfl,rfl,by decide +kernel,rfl,by decide +kernel,by decide +kernel⟩
abbrev s_read_text:Stmt:=top 29
theorem sc_read_text:FnScope ["reader","many"] ["reader"] (defScope s_read_text):=⟨rfl,rfl,rfl,by decide +kernel,rfl,by decide +kernel,by decide +kernel⟩
abbrev s_is_name:Stmt:=top 45
theorem sc_is_name:FnScope ["thing"] ["thing"] (defScope s_is_name):=⟨rfl,rfl,rfl,by decide +kernel,rfl,by decide +kernel,by decide +kernel⟩
abbrev s_is_tag:Stmt:=top 46
theorem sc_is_tag:FnScope ["thing"] ["thing"] (defScope s_is_tag):=⟨rfl,rfl,rfl,by decide +kernel,rfl,by decide +kernel,by decide +kernel⟩
abbrev s_is_block:Stmt:=top 47
theorem sc_is_block:FnScope ["thing"] ["thing"] (defScope s_is_block):=⟨rfl,rfl,rfl,by decide +kernel,rfl,by decide +kernel,by decide +kernel⟩
abbrev s_are_row_tags:Stmt:=top 48
theorem sc_are_row_tags:FnScope ["thing","level"] ["thing","level"] (defScope s_are_row_tags):=⟨rfl,rfl,rfl,by decide +kernel,rfl,by decide +kernel,by decide +kernel⟩
abbrev s_are_entries:Stmt:=top 49
theorem sc_are_entries:FnScope ["thing","names"] ["thing"] (defScope s_are_entries):=⟨rfl,rfl,rfl,by decide +kernel,rfl,by decide +kernel,by decide +kernel⟩
abbrev s_is_entry:Stmt:=top 50
theorem sc_is_entry:FnScope ["thing"] ["thing"] (defScope s_is_entry):=⟨rfl,rfl,rfl,by decide +kernel,rfl,by decide +kernel,by decide +kernel⟩
abbrev s_sum_of:Stmt:=top 51
theorem sc_sum_of:FnScope ["block","total","number"] ["block"] (defScope s_sum_of):=⟨rfl,rfl,rfl,by decide +kernel,rfl,by decide +kernel,by decide +kernel⟩
abbrev s_numbers_told:Stmt:=top 52
theorem sc_numbers_told:FnScope ["block","told","name","kind","tag"] ["block"] (defScope s_numbers_told):=⟨rfl,rfl,rfl,by decide +kernel,rfl,by decide +kernel,by decide +kernel⟩
abbrev s_mark_of:Stmt:=top 55
theorem sc_mark_of:FnScope ["words"] ["words"] (defScope s_mark_of):=⟨rfl,rfl,rfl,by decide +kernel,rfl,by decide +kernel,by decide +kernel⟩
abbrev s_sealed:Stmt:=top 56
theorem sc_sealed:FnScope ["words"] ["words"] (defScope s_sealed):=⟨rfl,rfl,rfl,by decide +kernel,rfl,by decide +kernel,by decide +kernel⟩
abbrev s_unsealed:Stmt:=top 57
theorem sc_unsealed:FnScope ["row","words"] ["row"] (defScope s_unsealed):=⟨rfl,rfl,rfl,by decide +kernel,rfl,by decide +kernel,by decide +kernel⟩
abbrev s_lay:Stmt:=top 59
theorem sc_lay:FnScope ["boards","number","birth","block","row","board"] ["boards","number","birth","block"] (defScope s_lay):=⟨rfl,rfl,rfl,by decide +kernel,rfl,by decide +kernel,by decide +kernel⟩
abbrev s_right_copies:Stmt:=top 60
theorem sc_right_copies:FnScope ["boards","tag"] ["boards","tag"] (defScope s_right_copies):=⟨rfl,rfl,rfl,by decide +kernel,rfl,by decide +kernel,by decide +kernel⟩
abbrev s_fetched:Stmt:=top 61
theorem sc_fetched:FnScope ["boards","tag","board","block"] ["boards","tag"] (defScope s_fetched):=⟨rfl,rfl,rfl,by decide +kernel,rfl,by decide +kernel,by decide +kernel⟩
abbrev s_block_on:Stmt:=top 62
theorem sc_block_on:FnScope ["boards","board","tag","told"] ["boards","board","tag"] (defScope s_block_on):=⟨rfl,rfl,rfl,by decide +kernel,rfl,by decide +kernel,by decide +kernel⟩
abbrev s_thing_on:Stmt:=top 63
theorem sc_thing_on:FnScope ["boards","board","number","row","words"] ["boards","board","number"] (defScope s_thing_on):=⟨rfl,rfl,rfl,by decide +kernel,rfl,by decide +kernel,by decide +kernel⟩
abbrev s_Boards_init:Stmt:=inClass (top 67) 0
theorem sc_Boards_init:FnScope ["self","many"] ["self","many"] (defScope s_Boards_init):=⟨rfl,rfl,rfl,by decide +kernel,rfl,by decide +kernel,by decide +kernel⟩
abbrev s_Boards_many:Stmt:=inClass (top 67) 1
theorem sc_Boards_many:FnScope ["self"] ["self"] (defScope s_Boards_many):=⟨rfl,rfl,rfl,by decide +kernel,rfl,by decide +kernel,by decide +kernel⟩
abbrev s_Boards_write:Stmt:=inClass (top 67) 2
theorem sc_Boards_write:FnScope ["self","board","number","row","shelf"] ["self","board","number","row"] (defScope s_Boards_write):=⟨rfl,rfl,rfl,by decide +kernel,rfl,by decide +kernel,by decide +kernel⟩
abbrev s_Boards_cell:Stmt:=inClass (top 67) 3
theorem sc_Boards_cell:FnScope ["self","board","number","row"] ["self","board","number"] (defScope s_Boards_cell):=⟨rfl,rfl,rfl,by decide +kernel,rfl,by decide +kernel,by decide +kernel⟩
abbrev s_Boards_stop:Stmt:=inClass (top 67) 6
theorem sc_Boards_stop:FnScope ["self","many"] ["self","many"] (defScope s_Boards_stop):=⟨rfl,rfl,rfl,by decide +kernel,rfl,by decide +kernel,by decide +kernel⟩
abbrev s_Boards_written:Stmt:=inClass (top 67) 7
theorem sc_Boards_written:FnScope ["self"] ["self"] (defScope s_Boards_written):=⟨rfl,rfl,rfl,by decide +kernel,rfl,by decide +kernel,by decide +kernel⟩
abbrev s_Boards_twins:Stmt:=inClass (top 67) 8
theorem sc_Boards_twins:FnScope ["self","number"] ["self","number"] (defScope s_Boards_twins):=⟨rfl,rfl,rfl,by decide +kernel,rfl,by decide +kernel,by decide +kernel⟩
abbrev s_Boards_shelf:Stmt:=inClass (top 67) 10
theorem sc_Boards_shelf:FnScope ["self","board"] ["self","board"] (defScope s_Boards_shelf):=⟨rfl,rfl,rfl,by decide +kernel,rfl,by decide +kernel,by decide +kernel⟩
abbrev s__law_cell_at:Stmt:=top 69
theorem sc__law_cell_at:FnScope ["_law_script","_law_k"] ["_law_script","_law_k"] (defScope s__law_cell_at):=⟨rfl,rfl,rfl,by decide +kernel,rfl,by decide +kernel,by decide +kernel⟩
abbrev s__law_numbers:Stmt:=top 70
theorem sc__law_numbers:FnScope ["_law_cell","_law_many","_law_found","_law_number","_law_k"] ["_law_cell","_law_many"] (defScope s__law_numbers):=⟨rfl,rfl,rfl,by decide +kernel,rfl,by decide +kernel,by decide +kernel⟩
abbrev s__law_signs:Stmt:=top 71
theorem sc__law_signs:FnScope ["_law_some"] [] (defScope s__law_signs):=⟨rfl,rfl,rfl,by decide +kernel,rfl,by decide +kernel,by decide +kernel⟩
abbrev s__law_words:Stmt:=top 72
theorem sc__law_words:FnScope ["_law_thing","_law_words_here","_law_part"] ["_law_thing"] (defScope s__law_words):=⟨rfl,rfl,rfl,by decide +kernel,rfl,by decide +kernel,by decide +kernel⟩
abbrev s__law_sealed:Stmt:=top 73
theorem sc__law_sealed:FnScope ["_law_words_here","_law_mark","_law_place"] ["_law_words_here"] (defScope s__law_sealed):=⟨rfl,rfl,rfl,by decide +kernel,rfl,by decide +kernel,by decide +kernel⟩
abbrev s__law_tag:Stmt:=top 74
theorem sc__law_tag:FnScope ["_law_number","_law_found"] ["_law_number"] (defScope s__law_tag):=⟨rfl,rfl,rfl,by decide +kernel,rfl,by decide +kernel,by decide +kernel⟩
abbrev s__law_name:Stmt:=top 75
theorem sc__law_name:FnScope ["_law_number","_law_size","_law_signs_here"] ["_law_number"] (defScope s__law_name):=⟨rfl,rfl,rfl,by decide +kernel,rfl,by decide +kernel,by decide +kernel⟩
abbrev s__law_block:Stmt:=top 76
theorem sc__law_block:FnScope ["_law_some","_law_level","_law_many","_law_entries","_law_number"] ["_law_some"] (defScope s__law_block):=⟨rfl,rfl,rfl,by decide +kernel,rfl,by decide +kernel,by decide +kernel⟩
abbrev s__law_told:Stmt:=top 77
theorem sc__law_told:FnScope ["_law_block_here","_law_told_here","_law_name_here","_law_kind","_law_tag_here"] ["_law_block_here"] (defScope s__law_told):=⟨rfl,rfl,rfl,by decide +kernel,rfl,by decide +kernel,by decide +kernel⟩
abbrev s__law_sum:Stmt:=top 78
theorem sc__law_sum:FnScope ["_law_block_here","_law_found","_law_number"] ["_law_block_here"] (defScope s__law_sum):=⟨rfl,rfl,rfl,by decide +kernel,rfl,by decide +kernel,by decide +kernel⟩
abbrev s__law_laid:Stmt:=top 79
theorem sc__law_laid:FnScope ["_law_boards","_law_number","_law_birth","_law_block_here","_law_found","e","_law_alone"] ["_law_boards","_law_number","_law_birth","_law_block_here"] (defScope s__law_laid):=⟨rfl,rfl,rfl,by decide +kernel,rfl,by decide +kernel,by decide +kernel⟩
abbrev s__law_told_of:Stmt:=top 80
theorem sc__law_told_of:FnScope ["_law_boards","_law_tag_here","_law_found","e","_law_alone"] ["_law_boards","_law_tag_here"] (defScope s__law_told_of):=⟨rfl,rfl,rfl,by decide +kernel,rfl,by decide +kernel,by decide +kernel⟩
abbrev s__law_seen:Stmt:=top 81
theorem sc__law_seen:FnScope ["_law_boards","_law_tag_here","_law_row","_law_right","_law_block_here","_law_board","_law_due","_law_turn","_law_found"] ["_law_boards","_law_tag_here","_law_row","_law_right","_law_block_here"] (defScope s__law_seen):=⟨rfl,rfl,rfl,by decide +kernel,rfl,by decide +kernel,by decide +kernel⟩
abbrev s_law:Stmt:=top 82
theorem sc_law:FnScope ["_law_script","_law_boards","_law_many","_law_taken","_law_cell","_law_some","_law_number","_law_birth","_law_block_here","_law_tag_here","_law_row","_law_twins","_law_before","_law_stop","_law_went"] ["_law_script"] (defScope s_law):=⟨rfl,rfl,rfl,by decide +kernel,rfl,by decide +kernel,by decide +kernel⟩
structure Txt (K:PySem.W.Frag) (mg:Str→Option Value) (C_WordReader:Addr) (C_Boards:Addr) (XC:Nat→Addr):Prop where
  cl_WordReader:Cls K C_WordReader
  n_WordReader_words:NoAttr K C_WordReader "words"
  n_WordReader_place:NoAttr K C_WordReader "place"
  cl_Boards:Cls K C_Boards
  n_Boards_shelves:NoAttr K C_Boards "shelves"
  n_Boards_writes:NoAttr K C_Boards "writes"
  n_Boards_writes_left:NoAttr K C_Boards "writes_left"
  x_Stopped:mg "Stopped" = some (.ref (XC 0))
  x_Lost:mg "Lost" = some (.ref (XC 1))
  x_StemError:mg "StemError" = some (.ref (XC 2))
  x_NoBoards:mg "NoBoards" = some (.ref (XC 3))
  x_NoThing:mg "NoThing" = some (.ref (XC 4))
  x_NoHouse:mg "NoHouse" = some (.ref (XC 5))
  q_Stopped:PySem.W.excIn K (XC 0) [.type "ValueError",.type "Exception",.type "BaseException",.type "object"] "ValueError.__new__" = true
  m_Stopped_StemError:PySem.W.exmOne K (.ref (XC 0)) (.ref (XC 2)) = some true
  m_Lost_StemError:PySem.W.exmOne K (.ref (XC 1)) (.ref (XC 2)) = some true
  e_Stopped:ExcCls K (XC 0)
  i_Lost:ExiCls K (XC 1)
  f_Lost:PySem.W.findIn K (.ref (XC 1)) "number" = some none
  k_Stopped_Stopped:PySem.W.kitOne K (.ref (XC 0)) (.ref (XC 0)) = some true
  k_Stopped_ValueError:PySem.W.kitOne K (.ref (XC 0)) (.type "ValueError") = some true
  k_Stopped_Lost:PySem.W.kitOne K (.ref (XC 0)) (.ref (XC 1)) = some false
  k_Stopped_NoBoards:PySem.W.kitOne K (.ref (XC 0)) (.ref (XC 3)) = some false
  k_Stopped_NoThing:PySem.W.kitOne K (.ref (XC 0)) (.ref (XC 4)) = some false
  k_Lost_Lost:PySem.W.kitOne K (.ref (XC 1)) (.ref (XC 1)) = some true
  k_Lost_ValueError:PySem.W.kitOne K (.ref (XC 1)) (.type "ValueError") = some true
  k_Lost_Stopped:PySem.W.kitOne K (.ref (XC 1)) (.ref (XC 0)) = some false
  k_Lost_NoHouse:PySem.W.kitOne K (.ref (XC 1)) (.ref (XC 5)) = some false
  k_Lost_NoThing:PySem.W.kitOne K (.ref (XC 1)) (.ref (XC 4)) = some false
  b_ValueError:mg "ValueError" = none
  b_all:mg "all" = none
  b_bool:mg "bool" = none
  b_enumerate:mg "enumerate" = none
  b_int:mg "int" = none
  b_isinstance:mg "isinstance" = none
  b_len:mg "len" = none
  b_list:mg "list" = none
  b_max:mg "max" = none
  b_min:mg "min" = none
  b_range:mg "range" = none
  b_set:mg "set" = none
  b_sorted:mg "sorted" = none
  b_str:mg "str" = none
  b_sum:mg "sum" = none
  b_tuple:mg "tuple" = none
  c_SIGNS:∃ t,mg "SIGNS" = some (.str (PySem.Str.ofString " !\"#$&'()*+,-./0123456789:;<=>?@ABCDEFGHIJKLMNOPQRSTUVWXYZ[\\]^_`abcdefghijklmnopqrstuvwxyz{|}~") t)
  c_MOST_NUMBER:∃ t,mg "MOST_NUMBER" = some (.int 999999999 t)
  c_MOST_SIGNS:∃ t,mg "MOST_SIGNS" = some (.int 400 t)
  c_MOST_PARTS:∃ t,mg "MOST_PARTS" = some (.int 100 t)
  c_MOST_DEEP:∃ t,mg "MOST_DEEP" = some (.int 8 t)
  c_NUMBER_WORD:∃ t,mg "NUMBER_WORD" = some (.int 0 t)
  c_TEXT_WORD:∃ t,mg "TEXT_WORD" = some (.int 1 t)
  c_TUPLE_WORD:∃ t,mg "TUPLE_WORD" = some (.int 2 t)
  c_PIECE:∃ t,mg "PIECE" = some (.int 0 t)
  c_ROW:∃ t,mg "ROW" = some (.int 1 t)
  c_FOLDER:∃ t,mg "FOLDER" = some (.int 2 t)
  c_FILE_ENTRY:∃ t,mg "FILE_ENTRY" = some (.int 1 t)
  c_FOLDER_ENTRY:∃ t,mg "FOLDER_ENTRY" = some (.int 2 t)
  c_NAME_SIGNS:∃ t,mg "NAME_SIGNS" = some (.str (PySem.Str.ofString "0123456789abcdefghijklmnopqrstuvwxyz") t)
  c_MOST_NAME_SIGNS:∃ t,mg "MOST_NAME_SIGNS" = some (.int 8 t)
  c_MOST_CELL:∃ t,mg "MOST_CELL" = some (.int 999999 t)
  c_MOST_BIRTH:∃ t,mg "MOST_BIRTH" = some (.int 999999999 t)
  c_SUM_RESTS:∃ t,mg "SUM_RESTS" = some (.int 997 t)
  c_MOST_PIECE_SIGNS:∃ t,mg "MOST_PIECE_SIGNS" = some (.int 8 t)
  c_MOST_LEVEL:∃ t,mg "MOST_LEVEL" = some (.int 9 t)
  c_MOST_TAGS:∃ t,mg "MOST_TAGS" = some (.int 8 t)
  c_MOST_ENTRIES:∃ t,mg "MOST_ENTRIES" = some (.int 16 t)
  c_MARK_RESTS:∃ t,mg "MARK_RESTS" = some (.int 2147483647 t)
  c_LEAST_BOARDS:∃ t,mg "LEAST_BOARDS" = some (.int 2 t)
  c_MOST_BOARDS:∃ t,mg "MOST_BOARDS" = some (.int 4 t)
abbrev SG:Str:=PySem.Str.ofString " !\"#$&'()*+,-./0123456789:;<=>?@ABCDEFGHIJKLMNOPQRSTUVWXYZ[\\]^_`abcdefghijklmnopqrstuvwxyz{|}~"
theorem sg_len:SG.cps.toList.length = 94:=by decide +kernel
theorem sg_len2:SG.length≤sizeLine:=small (by decide +kernel)
theorem sg_find:∀ k:Nat,k < 94→PySem.Txt.find SG ⟨#[SG.cps.toList.getD k 0]⟩ = (k:Int):=by decide +kernel
theorem sg_at {i:Int} (h0:0≤i) (h1:i < 94):atI SG.cps.toList i = some (SG.cps.toList.getD i.toNat 0):=by
  have hk:i.toNat < SG.cps.toList.length:=by rw [sg_len]; omega
  have q:atI SG.cps.toList ((i.toNat:Nat):Int) = some (SG.cps.toList.getD i.toNat 0):=atI_nat (by rw [List.getElem?_eq_getElem hk]; simp only [List.getD,List.getElem?_eq_getElem hk,Option.getD_some])
  have ek:((i.toNat:Nat):Int) = i:=by omega
  rw [ek] at q
  exact q
section
variable {P:Program} {w:World} {K:PySem.W.Frag} {mg:Str→Option Value} {base:Heap} {f C_WordReader C_Boards:Addr} {XC:Nat→Addr} {fd:FuncData}
def sp__law_cell_at (K:PySem.W.Frag):Sp:=fun vs H Q _=>∃ (a:Addr) (ns:List Int) (k:Int),vs = [.ref a,.int k]∧0≤k∧SqL K H a (ns.map V.int)∧∀ z:Int,Q (.int z) H
theorem ok__law_cell_at (T:Txt K mg C_WordReader C_Boards XC) (F:Fun K "_law_cell_at" "_law_cell_at" s__law_cell_at f fd):FnOk P w K mg base CX0 1 f fd ["_law_script","_law_k"] (sp__law_cell_at K):=by
  refine F.ok sc__law_cell_at (fun vs H Q E h=>?_) (fun cdv A outer s H vs Q E hr h=>?_)
  · obtain ⟨a,ns,k,rfl,_⟩:=h
    rfl
  obtain ⟨a,ns,k,rfl,hk,hS,q⟩:=h
  refine ⟨_,(@pss_cons _ _ _ _ _ (@ps_if _ _ _ _ _ _ _ _ (@pt_cmpR _ _ _ _ _ _ _ _ op_lt (pv 1) (@pe_callB _ _ _ _ _ _ _ _ _ call_len_seq (by rfl) T.b_len bt_len (@pa_cons _ _ _ _ _ (pv 0) (@pa_nil _) (by rfl)) (by decide) (by decide) (by rfl) (by rfl)) (nomark _)) (@pss_one _ _ _ (@ps_ret _ _ _ _ (@pe_ix _ _ _ _ _ _ _ ix_list (pv 0) (pv 1) (fun _ _=>rfl)))) (@pss_nil _)) (@pss_one _ _ _ (@ps_ret _ _ _ _ (@pe_int _ _ _ _)))),?_⟩
  refine ⟨_,rfl,_,rfl,a,_,rfl,.inl hS,_,_,rfl,rfl,_,rfl,ite2 (fun c=>?_) (fun c=>q 0)⟩
  have c':=dec_true c
  rw [List.length_map] at c'
  exact ⟨_,rfl,_,rfl,a,_,_,_,rfl,rfl,hS,at_int hk c',q _⟩
def sp__law_numbers (K:PySem.W.Frag):Sp:=fun vs H Q _=>∃ (c m:Int),vs = [.int c,.int m]∧0≤m∧m≤1000∧
  ∀ (r:Addr) (H':Hp) (ns:List Int),Same H H'→H r = none→H' r = some (.lst (ns.map V.int))→ns.length = m.toNat→(∀ x∈ns,0≤x∧x < 2147483647)→Q (.ref r) H'
theorem ok__law_numbers (T:Txt K mg C_WordReader C_Boards XC) (F:Fun K "_law_numbers" "_law_numbers" s__law_numbers f fd):FnOk P w K mg base CX0 1 f fd ["_law_cell","_law_many"] (sp__law_numbers K):=by
  refine F.ok sc__law_numbers (fun vs H Q E h=>?_) (fun cdv A outer s H vs Q E hr h=>?_)
  · obtain ⟨c,m,rfl,_⟩:=h
    rfl
  obtain ⟨c,m,rfl,hm0,hm1,q⟩:=h
  refine ⟨_,(@pss_cons _ _ _ _ _ (@ps_set _ _ (2) _ _ _ _ sc__law_numbers.nd rfl (by first | exact Or.inl rfl | exact Or.inr rfl) (@pe_lst _ _ _ _ (@pa_nil _)) (by rfl) (by first | exact .inl rfl | exact .inr rfl | assumption)) (@pss_cons _ _ _ _ _ (@ps_set _ _ (3) _ _ _ _ sc__law_numbers.nd rfl (by first | exact Or.inl rfl | exact Or.inr rfl) (@pe_op _ _ _ _ _ _ _ _ op_sub (pv 0) (@pe_op _ _ _ _ _ _ _ _ op_pow (@pe_int _ _ _ _) (@pe_int _ _ _ _))) (by rfl) (by first | exact .inl rfl | exact .inr rfl | assumption)) (@pss_cons _ _ _ _ _ (@ps_if _ _ _ _ _ _ _ _ (@pt_cmpR _ _ _ _ _ _ _ _ op_ge (pv 3) (@pe_int _ _ _ _) (nomark _)) (@pss_cons _ _ _ _ _ (@ps_for _ _ _ _ _ _ _ _ PassesOwn.never rfl (@pi_range1 _ _ _ _ _ _ rfl T.b_range (@pa_cons _ _ _ _ _ (pv 1) (@pa_nil _) (by rfl)) (by rfl)) (@pg_name _ _ (4) _ sc__law_numbers.nd rfl (by first | exact Or.inl rfl | exact Or.inr rfl) (by first | exact .inl rfl | exact .inr rfl | assumption)) (@pss_cons _ _ _ _ _ (@ps_expr _ _ _ _ (@pe_bm _ _ _ _ _ _ _ _ _ _ _ _ PySem.F.plainAttrs_list PySem.F.slot_list_append PySem.F.type_list_append mt_append (pv 2) (@pa_cons _ _ _ _ _ (@pe_op _ _ _ _ _ _ _ _ op_mod (pv 3) (@pe_int _ _ _ _)) (@pa_nil _) (by rfl)) (by rfl) (by rfl) (by rfl) (by rfl) (by rfl)) (by rfl)) (@pss_one _ _ _ (@ps_set _ _ (3) _ _ _ _ sc__law_numbers.nd rfl (by first | exact Or.inl rfl | exact Or.inr rfl) (@pe_op _ _ _ _ _ _ _ _ op_fdiv (pv 3) (@pe_int _ _ _ _)) (by rfl) (by first | exact .inl rfl | exact .inr rfl | assumption)))) (by intro _; rfl)) (@pss_one _ _ _ (@ps_ret _ _ _ _ (pv 2)))) (@pss_nil _)) (@pss_cons _ _ _ _ _ (@ps_set _ _ (3) _ _ _ _ sc__law_numbers.nd rfl (by first | exact Or.inl rfl | exact Or.inr rfl) (@pe_op _ _ _ _ _ _ _ _ op_mod (pv 0) (@pe_int _ _ _ _)) (by rfl) (by first | exact .inl rfl | exact .inr rfl | assumption)) (@pss_cons _ _ _ _ _ (@ps_for _ _ _ _ _ _ _ _ PassesOwn.never rfl (@pi_range1 _ _ _ _ _ _ rfl T.b_range (@pa_cons _ _ _ _ _ (@pe_op _ _ _ _ _ _ _ _ op_add (pv 1) (@pe_int _ _ _ _)) (@pa_nil _) (by rfl)) (by rfl)) (@pg_name _ _ (4) _ sc__law_numbers.nd rfl (by first | exact Or.inl rfl | exact Or.inr rfl) (by first | exact .inl rfl | exact .inr rfl | assumption)) (@pss_cons _ _ _ _ _ (@ps_set _ _ (3) _ _ _ _ sc__law_numbers.nd rfl (by first | exact Or.inl rfl | exact Or.inr rfl) (@pe_op _ _ _ _ _ _ _ _ op_mod (@pe_op _ _ _ _ _ _ _ _ op_mul (@pe_op _ _ _ _ _ _ _ _ op_add (@pe_op _ _ _ _ _ _ _ _ op_add (pv 3) (pv 4)) (@pe_int _ _ _ _)) (@pe_int _ _ _ _)) (@pe_int _ _ _ _)) (by rfl) (by first | exact .inl rfl | exact .inr rfl | assumption)) (@pss_one _ _ _ (@ps_expr _ _ _ _ (@pe_bm _ _ _ _ _ _ _ _ _ _ _ _ PySem.F.plainAttrs_list PySem.F.slot_list_append PySem.F.type_list_append mt_append (pv 2) (@pa_cons _ _ _ _ _ (@pe_op _ _ _ _ _ _ _ _ op_mod (@pe_op _ _ _ _ _ _ _ _ op_mul (pv 3) (@pe_int _ _ _ _)) (@pe_int _ _ _ _)) (@pa_nil _) (by rfl)) (by rfl) (by rfl) (by rfl) (by rfl) (by rfl)) (by rfl)))) (by intro _; rfl)) (@pss_one _ _ _ (@ps_ret _ _ _ _ (@pe_slice _ _ _ _ _ _ _ _ _ _ sl_list (pv 2) (@po_some _ _ _ (@pe_int _ _ _ _)) (@po_none _))))))))),?_⟩
  refine ⟨small (by show 0≤1000000; decide),fun g hg=>?_⟩
  refine ⟨_,rfl,_,_,rfl,rfl,⟨by decide,by decide,by decide⟩,_,_,rfl,rfl,?_⟩
  refine ⟨_,rfl,_,_,rfl,rfl,_,rfl,?_⟩
  refine ite2 (fun c1=>?_) (fun c1=>?_)
  · refine ⟨_,rfl,m,rfl,by omega,by omega,for_range (lo:=0) (n:=m.toNat) (fun i σ H2=>∃ (ns:List Int) (z:Int) (v:Option V),σ = [some (.int c),some (.int m),some (.ref g),some (.int z),v]∧Same H H2∧H2 g = some (.lst (ns.map V.int))∧ns.length = i∧∀ x∈ns,0≤x∧x < 2147483647)
      ⟨[],_,none,rfl,same_new hg _,upd_same,rfl,fun _ h=>nomatch h⟩ ?_ ?_⟩
    · rintro i σ H2 hi ⟨ns,z,v,rfl,s2,hg2,hl,hb⟩
      refine ⟨_,rfl,.inl ⟨rfl,_,SqL.of hg2⟩,_,rfl,_,_,rfl,rfl,(by show (0:Int) < 5040; decide),g,_,_,rfl,rfl,hg2,smallLt (by rw [List.length_map]; omega),?_⟩
      refine ⟨_,rfl,_,_,rfl,rfl,⟨by decide,by decide⟩,?_⟩
      refine ⟨ns ++ [z % 5040],_,_,rfl,same_upd s2 hg _,?_,?_,fun x hx=>?_⟩
      · rw [upd_same,List.map_append]; rfl
      · rw [List.length_append,hl]; rfl
      · rcases List.mem_append.mp hx with hx | hx
        · exact hb x hx
        · rw [List.mem_singleton.mp hx]; omega
    · rintro σ H2 ⟨ns,z,v,rfl,s2,hg2,hl,hb⟩
      exact ⟨_,rfl,q g _ ns s2 hg hg2 hl hb⟩
  · refine ⟨_,rfl,_,_,rfl,rfl,(by show (0:Int) < 2147483647; decide),?_⟩
    refine ⟨_,rfl,_,_,rfl,rfl,m + 1,rfl,by omega,by omega,for_range (lo:=0) (n:=(m + 1).toNat) (fun i σ H2=>∃ (ns:List Int) (z:Int) (v:Option V),σ = [some (.int c),some (.int m),some (.ref g),some (.int z),v]∧Same H H2∧H2 g = some (.lst (ns.map V.int))∧ns.length = i∧∀ x∈ns,0≤x∧x < 2147483647)
      ⟨[],_,none,rfl,same_new hg _,upd_same,rfl,fun _ h=>nomatch h⟩ ?_ ?_⟩
    · rintro i σ H2 hi ⟨ns,z,v,rfl,s2,hg2,hl,hb⟩
      refine ⟨_,rfl,_,rfl,_,_,rfl,rfl,_,_,rfl,rfl,_,_,rfl,rfl,.inr ⟨by decide,by decide⟩,_,_,rfl,rfl,(by show (0:Int) < 2147483647; decide),?_⟩
      refine ⟨_,rfl,.inl ⟨rfl,_,SqL.of hg2⟩,_,rfl,_,_,rfl,rfl,.inr ⟨by decide,by decide⟩,_,_,rfl,rfl,(by show (0:Int) < 2147483629; decide),g,_,_,rfl,rfl,hg2,smallLt (by rw [List.length_map]; omega),?_⟩
      refine ⟨ns ++ [(z + (0 + (i:Int)) + 1) * 48271 % 2147483647 * 69621 % 2147483629],_,_,rfl,same_upd s2 hg _,?_,?_,fun x hx=>?_⟩
      · rw [upd_same,List.map_append]; rfl
      · rw [List.length_append,hl]; rfl
      · rcases List.mem_append.mp hx with hx | hx
        · exact hb x hx
        · rw [List.mem_singleton.mp hx]; omega
    · rintro σ H2 ⟨ns,z,v,rfl,s2,hg2,hl,hb⟩
      refine ⟨_,rfl,_,rfl,g,_,rfl,SqL.of hg2,fun p hp=>?_⟩
      refine q p _ (ns.drop 1) (s2.trans (same_new hp _)) (s2.free hp) ?_ ?_ fun x hx=>hb x (List.mem_of_mem_drop hx)
      · rw [upd_same,cut_lo (by decide),List.map_drop]; rfl
      · rw [List.length_drop,hl]; omega
def sp__law_signs (K:PySem.W.Frag):Sp:=fun vs H Q _=>vs = []∧Q (.str SG) H
theorem ok__law_signs (T:Txt K mg C_WordReader C_Boards XC) (F:Fun K "_law_signs" "_law_signs" s__law_signs f fd):FnOk P w K mg base CX0 1 f fd [] (sp__law_signs K):=by
  refine F.ok sc__law_signs (fun vs H Q E h=>?_) (fun cdv A outer s H vs Q E hr h=>?_)
  · obtain ⟨rfl,_⟩:=h
    rfl
  obtain ⟨rfl,q⟩:=h
  refine ⟨_,(@pss_cons _ _ _ _ _ (@ps_set _ _ (0) _ _ _ _ sc__law_signs.nd rfl (by first | exact Or.inl rfl | exact Or.inr rfl) (@pe_str _ _ _ _) (by rfl) (by first | exact .inl rfl | exact .inr rfl | assumption)) (@pss_one _ _ _ (@ps_ret _ _ _ _ (@pe_op _ _ _ _ _ _ _ _ op_add_str (pv 0) (@pe_str _ _ _ _))))),?_⟩
  refine ⟨_,rfl,_,_,rfl,rfl,small (by decide +kernel),?_⟩
  have e:(PySem.Str.ofString " !\"#$&'()*+,-./0123456789:;<=>?@ABCDEFGHIJKLMNOPQRSTUVWXYZ[\\]^_`" ++ PySem.Str.ofString "abcdefghijklmnopqrstuvwxyz{|}~") = SG:=by decide +kernel
  rw [e]
  exact q
def sp_is_whole (K:PySem.W.Frag):Sp:=fun vs H Q _=>∃ v,vs = [v]∧Ok H v∧Q (.bl (wholeB H v)) H
theorem ok_is_whole (T:Txt K mg C_WordReader C_Boards XC) (F:Fun K "is_whole" "is_whole" s_is_whole f fd):FnOk P w K mg base CX0 1 f fd ["thing"] (sp_is_whole K):=by
  refine F.ok sc_is_whole (fun vs H Q E h=>?_) (fun cdv A outer s H vs Q E hr h=>?_)
  · obtain ⟨c,rfl,_⟩:=h
    rfl
  obtain ⟨v,rfl,ok,q⟩:=h
  refine ⟨_,(@pss_one _ _ _ (@ps_ret _ _ _ _ (@pe_and _ _ _ _ _ _ _ (@pe_callB _ _ _ _ _ _ _ _ _ call_isinst (by rfl) T.b_isinstance bt_isinstance (@pa_cons _ _ _ _ _ (pv 0) (@pa_cons _ _ _ _ _ (@pe_ty _ _ _ _ rfl T.b_int bt_int (by decide) (by decide)) (@pa_nil _) (by rfl)) (by rfl)) (by decide) (by decide) (by rfl) (by rfl)) (@pe_one _ _ _ _ _ (@pe_not _ _ _ _ (@pe_callB _ _ _ _ _ _ _ _ _ call_isinst (by rfl) T.b_isinstance bt_isinstance (@pa_cons _ _ _ _ _ (pv 0) (@pa_cons _ _ _ _ _ (@pe_ty _ _ _ _ rfl T.b_bool bt_bool (by decide) (by decide)) (@pa_nil _) (by rfl)) (by rfl)) (by decide) (by decide) (by rfl) (by rfl))))))),?_⟩
  exact tAndV_p _ _ (fun R q=>⟨_,rfl,_,_,_,_,rfl,ok.ty K,ok.kit K,q⟩) (fun _ R q=>⟨_,rfl,_,_,_,_,rfl,ok.ty K,ok.kit K,_,rfl,q⟩) q
def sp_is_between (K:PySem.W.Frag):Sp:=fun vs H Q _=>∃ v a b,vs = [v,.int a,.int b]∧Ok H v∧Q (.bl (betw a b v)) H
theorem ok_is_between (T:Txt K mg C_WordReader C_Boards XC) (F:Fun K "is_between" "is_between" s_is_between f fd) (D_is_whole:Def P w K mg base 1 "is_whole" ["thing"] (sp_is_whole K)):FnOk P w K mg base CX0 2 f fd ["thing","least","most"] (sp_is_between K):=by
  refine F.ok sc_is_between (fun vs H Q E h=>?_) (fun cdv A outer s H vs Q E hr h=>?_)
  · obtain ⟨v,a,b,rfl,_⟩:=h
    rfl
  obtain ⟨v,a,b,rfl,ok,q⟩:=h
  refine ⟨_,(@pss_one _ _ _ (@ps_ret _ _ _ _ (@pe_and _ _ _ _ _ _ _ (@pe_fn _ _ _ _ _ _ _ _ _ _ D_is_whole (hr.mono (by decide)) rfl (@pa_cons _ _ _ _ _ (pv 0) (@pa_nil _) (by rfl)) (by decide) (by rfl) (by rfl)) (@pe_one _ _ _ _ _ (@pe_chain _ _ _ _ _ _ _ _ _ _ _ _ op_le op_le (pv 1) (pv 0) (pv 2) (by with_unfolding_all rfl)))))),?_⟩
  refine tAndV_p (wholeB H v) (betw a b v) (fun R q=>⟨_,rfl,v,rfl,ok,q⟩) (fun hw R q=>?_) ?_
  · obtain ⟨i,rfl⟩:=whole_of ok hw
    refine ⟨_,rfl,_,rfl,_,_,rfl,rfl,_,rfl,?_⟩
    refine ite2 (fun c=>?_) (fun c=>?_)
    · have e:betw a b (.int i) = decide (i≤b):=by show (decide (a≤i) && decide (i≤b)) = _; rw [c]; rfl
      rw [e] at q
      exact ⟨_,rfl,_,_,rfl,rfl,q⟩
    · have e:betw a b (.int i) = false:=by show (decide (a≤i) && decide (i≤b)) = _; rw [Bool.eq_false_iff.mpr c]; rfl
      rw [e] at q
      exact q
  · cases hw:wholeB H v with
    | true=>exact q
    | false=>rw [betw_eq hw] at q; exact q
def allIn (t:Str) (z:Str):Bool:=(cod z).all fun c=>decide (c∈cod t)
def textB (a b:Int):V→Bool
  | .str z=>decide (a≤(z.length:Int)) && decide ((z.length:Int)≤b) && allIn SG z
  | _=>false
theorem textB_no {H:Hp} {v:V} {a b:Int} (h:isA (tyN H v) "str" = false):textB a b v = false:=by
  cases v with
  | str z=>exact absurd (show isA "str" "str" = false from h) (by decide)
  | _=>rfl
def sp_is_text (K:PySem.W.Frag):Sp:=fun vs H Q _=>∃ v a b,vs = [v,.int a,.int b]∧Ok H v∧∀ H',Same H H'→Q (.bl (textB a b v)) H'
theorem signs_all (t z:Str):((cod z).map fun c=>V.str ⟨#[c]⟩).map (fun v=>match v with | V.str y=>V.bl (!(Builtin.Str.occurrences t y 0 t.length 1).isEmpty) | _=>V.non) = ((cod z).map fun c=>decide (c∈cod t)).map V.bl:=by
  rw [List.map_map,List.map_map]
  refine List.map_congr_left fun c _=>?_
  show V.bl (!(Builtin.Str.occurrences t ⟨#[c]⟩ 0 t.length 1).isEmpty) = V.bl (decide (c∈cod t))
  rw [PySem.StrLaws.found_one]
theorem ok_is_text (T:Txt K mg C_WordReader C_Boards XC) (F:Fun K "is_text" "is_text" s_is_text f fd):FnOk P w K mg base CX0 1 f fd ["thing","least","most"] (sp_is_text K):=by
  refine F.ok sc_is_text (fun vs H Q E h=>?_) (fun cdv A outer s H vs Q E hr h=>?_)
  · obtain ⟨v,a,b,rfl,_⟩:=h
    rfl
  obtain ⟨v,a,b,rfl,ok,q⟩:=h
  refine ⟨_,(@pss_cons _ _ _ _ _ (@ps_if _ _ _ _ _ _ _ _ (@PW.pt _ _ _ (@pw_or _ _ _ _ _ _ _ (@pt_not _ _ _ _ (@pt_val _ _ _ (@pe_callB _ _ _ _ _ _ _ _ _ call_isinst (by rfl) T.b_isinstance bt_isinstance (@pa_cons _ _ _ _ _ (pv 0) (@pa_cons _ _ _ _ _ (@pe_ty _ _ _ _ rfl T.b_str bt_str (by decide) (by decide)) (@pa_nil _) (by rfl)) (by rfl)) (by decide) (by decide) (by rfl) (by rfl)) (by intro _; rfl))) (@pw_or1 _ _ _ _ (@pt_not _ _ _ _ (@pt_chain _ _ _ _ _ _ _ _ _ _ _ _ op_le op_le (pv 1) (@pe_callB _ _ _ _ _ _ _ _ _ call_len_str (by rfl) T.b_len bt_len (@pa_cons _ _ _ _ _ (pv 0) (@pa_nil _) (by rfl)) (by decide) (by decide) (by rfl) (by rfl)) (pv 2) (by with_unfolding_all rfl)))))) (@pss_one _ _ _ (@ps_ret _ _ _ _ (@pe_bl _ _ _ _))) (@pss_nil _)) (@pss_one _ _ _ (@ps_ret _ _ _ _ (@pe_callB _ _ _ _ _ _ _ _ _ (call_all rfl) (by rfl) T.b_all bt_all (@pa_cons _ _ _ _ _ (@pe_comp0 _ ["sign"] _ _ _ _ _ _ _ _ _ _ rfl (@pi_str _ _ _ _ (pv 0)) (by decide +kernel) (fun C s H fp=>⟨(@pg_name _ _ (0) _ (show (["sign"]:List Str).Nodup by decide +kernel) rfl (by first | exact Or.inl rfl | exact Or.inr rfl) (by first | exact .inl rfl | exact .inr rfl | assumption)),(@pifs_nil _),(@pe_cmpR _ _ _ _ _ _ _ _ op_in_str (pv 0) (@pe_globS _ _ _ _ rfl T.c_SIGNS (by decide)) rfl)⟩) (by intro _; rfl)) (@pa_nil _) (by rfl)) (by decide) (by decide) (by rfl) (by rfl))))),?_⟩
  refine ⟨_,rfl,_,_,_,_,rfl,ok.ty K,ok.kit K,_,rfl,?_⟩
  cases hw:isA (tyN H v) "str" with
  | false=>
    refine iteTc rfl ?_
    have:=q H (Same.refl _)
    rw [textB_no hw] at this
    exact this
  | true=>
    refine iteFc rfl ?_
    obtain ⟨z,rfl,hz⟩:=str_of ok hw
    have zl:=cod_len z
    refine ⟨_,rfl,_,rfl,_,rfl,small (by omega),_,_,rfl,rfl,_,rfl,?_⟩
    refine ite2 (fun c=>?_) (fun c=>?_)
    · refine ⟨_,rfl,_,_,rfl,rfl,_,rfl,?_⟩
      refine ite2 (fun d=>?_) (fun d=>?_)
      · have d':decide ((z.length:Int)≤b) = false:=by simpa using d
        have e:textB a b (.str z) = false:=by show (decide (a≤(z.length:Int)) && decide ((z.length:Int)≤b) && allIn SG z) = _; rw [d',Bool.and_false]; rfl
        have:=q H (Same.refl _)
        rw [e] at this
        exact this
      · have d':decide ((z.length:Int)≤b) = true:=by simpa using d
        refine ⟨_,rfl,z,rfl,?_⟩
        refine comp_map (fun v=>match v with | .str y=>.bl (!(Builtin.Str.occurrences SG y 0 SG.length 1).isEmpty) | _=>.non) itIs_str (by rw [List.length_map]; exact Nat.le_trans (Nat.le_of_eq zl) (by omega)) (fun x H' R hx s' hR=>?_) fun l H7 n7 s7 h7=>?_
        · obtain ⟨u,_,rfl⟩:=List.mem_map.mp hx
          exact ⟨_,rfl,_,_,rfl,rfl,hR H' (Same.refl _)⟩
        rw [signs_all] at h7
        refine ⟨l,_,rfl,SqL.of h7,?_⟩
        have e:textB a b (.str z) = ((cod z).map fun c=>decide (c∈cod SG)).all id:=by
          show (decide (a≤(z.length:Int)) && decide ((z.length:Int)≤b) && allIn SG z) = _; unfold allIn; rw [c,d',List.all_map]; rfl
        have:=q H7 s7
        rw [e] at this
        exact this
    · have c':decide (a≤(z.length:Int)) = false:=Bool.eq_false_iff.mpr c
      have e:textB a b (.str z) = false:=by show (decide (a≤(z.length:Int)) && decide ((z.length:Int)≤b) && allIn SG z) = _; rw [c',Bool.false_and]; rfl
      have:=q H (Same.refl _)
      rw [e] at this
      exact ⟨_,rfl,this⟩
abbrev NS:Str:=PySem.Str.ofString "0123456789abcdefghijklmnopqrstuvwxyz"
abbrev LN:Str:=PySem.Str.ofString "abcdefghijklmnopqrstuvwxyz0123456789"
theorem ns_ln:(∀ c∈cod NS,c∈cod LN)∧∀ c∈cod LN,c∈cod NS∧c∈cod SG:=by decide +kernel
def nameB:V→Bool
  | .str z=>decide ((1:Int)≤z.length) && decide ((z.length:Int)≤8) && allIn LN z
  | _=>false
theorem allIn_two (z:Str):(allIn SG z && allIn NS z) = allIn LN z:=by
  unfold allIn
  rw [Bool.eq_iff_iff,Bool.and_eq_true,List.all_eq_true,List.all_eq_true,List.all_eq_true]
  simp only [decide_eq_true_eq]
  exact ⟨fun h c hc=>ns_ln.1 c (h.2 c hc),fun h=>⟨fun c hc=>(ns_ln.2 c (h c hc)).2,fun c hc=>(ns_ln.2 c (h c hc)).1⟩⟩
theorem name_text (v:V):nameB v = match v with | .str z=>textB 1 8 v && allIn NS z | _=>false:=by
  cases v with
  | str z=>
    show (decide ((1:Int)≤z.length) && decide ((z.length:Int)≤8) && allIn LN z) = ((decide ((1:Int)≤(z.length:Int)) && decide ((z.length:Int)≤8) && allIn SG z) && allIn NS z)
    rw [← allIn_two z]
    simp only [Bool.and_assoc]
  | _=>rfl
def sp_is_name (K:PySem.W.Frag):Sp:=fun vs H Q _=>∃ v,vs = [v]∧Ok H v∧∀ H',Same H H'→Q (.bl (nameB v)) H'
theorem ok_is_name (T:Txt K mg C_WordReader C_Boards XC) (F:Fun K "is_name" "is_name" s_is_name f fd) (D_is_text:Def P w K mg base 1 "is_text" ["thing","least","most"] (sp_is_text K)):FnOk P w K mg base CX0 2 f fd ["thing"] (sp_is_name K):=by
  refine F.ok sc_is_name (fun vs H Q E h=>?_) (fun cdv A outer s H vs Q E hr h=>?_)
  · obtain ⟨v,rfl,_⟩:=h
    rfl
  obtain ⟨v,rfl,ok,q⟩:=h
  refine ⟨_,(@pss_one _ _ _ (@ps_ret _ _ _ _ (@pe_and _ _ _ _ _ _ _ (@pe_fn _ _ _ _ _ _ _ _ _ _ D_is_text (hr.mono (by decide)) rfl (@pa_cons _ _ _ _ _ (pv 0) (@pa_cons _ _ _ _ _ (@pe_int _ _ _ _) (@pa_cons _ _ _ _ _ (@pe_globI _ _ _ _ rfl T.c_MOST_NAME_SIGNS (by decide)) (@pa_nil _) (by rfl)) (by rfl)) (by rfl)) (by decide) (by rfl) (by rfl)) (@pe_one _ _ _ _ _ (@pe_callB _ _ _ _ _ _ _ _ _ (call_all rfl) (by rfl) T.b_all bt_all (@pa_cons _ _ _ _ _ (@pe_comp0 _ ["sign"] _ _ _ _ _ _ _ _ _ _ rfl (@pi_str _ _ _ _ (pv 0)) (by decide +kernel) (fun C s H fp=>⟨(@pg_name _ _ (0) _ (show (["sign"]:List Str).Nodup by decide +kernel) rfl (by first | exact Or.inl rfl | exact Or.inr rfl) (by first | exact .inl rfl | exact .inr rfl | assumption)),(@pifs_nil _),(@pe_cmpR _ _ _ _ _ _ _ _ op_in_str (pv 0) (@pe_globS _ _ _ _ rfl T.c_NAME_SIGNS (by decide)) rfl)⟩) (by intro _; rfl)) (@pa_nil _) (by rfl)) (by decide) (by decide) (by rfl) (by rfl)))))),?_⟩
  refine ⟨_,rfl,v,1,8,rfl,ok,fun H1 s1=>⟨_,rfl,?_⟩⟩
  have en:=name_text v
  refine ite2 (fun c=>?_) (fun c=>?_)
  · cases v with
    | str z=>
      have hz:z.length≤1000:=ok
      have zl:=cod_len z
      refine ⟨_,rfl,z,rfl,?_⟩
      refine comp_map (fun v=>match v with | .str y=>.bl (!(Builtin.Str.occurrences NS y 0 NS.length 1).isEmpty) | _=>.non) itIs_str (by rw [List.length_map]; exact Nat.le_trans (Nat.le_of_eq zl) (by omega)) (fun x H' R hx s' hR=>?_) fun l H7 n7 s7 h7=>?_
      · obtain ⟨u,_,rfl⟩:=List.mem_map.mp hx
        exact ⟨_,rfl,_,_,rfl,rfl,hR H' (Same.refl _)⟩
      rw [signs_all] at h7
      refine ⟨l,_,rfl,SqL.of h7,?_⟩
      have e:nameB (.str z) = ((cod z).map fun c=>decide (c∈cod NS)).all id:=by
        rw [en]; show (textB 1 8 (.str z) && allIn NS z) = _; rw [c]; unfold allIn; rw [List.all_map]; rfl
      have:=q H7 (s1.trans s7)
      rw [e] at this
      exact this
    | _=>exact absurd (show false = true from c) Bool.false_ne_true
  · have e:nameB v = false:=by
      rw [en]
      cases v with
      | str z=>show (textB 1 8 (.str z) && allIn NS z) = false; rw [Bool.eq_false_iff.mpr c]; rfl
      | _=>rfl
    have:=q H1 s1
    rw [e] at this
    exact this
def tupN (H:Hp) (v:V) (n:Int):Bool:=match v with
  | .ref a=>match H a with
    | some (.tup xs)=>decide ((xs.length:Int) = n)
    | _=>false
  | _=>false
theorem tupN_tup {H:Hp} {a:Addr} {xs:List V} {n:Int} (h:H a = some (.tup xs)):tupN H (.ref a) n = decide ((xs.length:Int) = n):=by simp only [tupN,h]
theorem tupN_no {H:Hp} {v:V} {n:Int} (ok:Ok H v) (h:isA (tyN H v) "tuple" = false):tupN H v n = false:=by
  refine ok.elim (fun e _=>?_) (fun _ e _=>?_) (fun _ e _=>?_) (fun _ e _ _=>?_) (fun a xs e e2 _=>?_) (fun _ _ _ _ e=>?_)
  · rw [e]; rfl
  · rw [e]; rfl
  · rw [e]; rfl
  · rw [e]; rfl
  · rw [e]; simp only [tupN,e2]
  · rw [e] at h; exact absurd h (by decide)
def sp_is_tuple_of (K:PySem.W.Frag):Sp:=fun vs H Q _=>∃ v n,vs = [v,.int n]∧Ok H v∧Q (.bl (tupN H v n)) H
theorem ok_is_tuple_of (T:Txt K mg C_WordReader C_Boards XC) (F:Fun K "is_tuple_of" "is_tuple_of" s_is_tuple_of f fd):FnOk P w K mg base CX0 1 f fd ["thing","many"] (sp_is_tuple_of K):=by
  refine F.ok sc_is_tuple_of (fun vs H Q E h=>?_) (fun cdv A outer s H vs Q E hr h=>?_)
  · obtain ⟨v,n,rfl,_⟩:=h
    rfl
  obtain ⟨v,n,rfl,ok,q⟩:=h
  refine ⟨_,(@pss_one _ _ _ (@ps_ret _ _ _ _ (@pe_and _ _ _ _ _ _ _ (@pe_callB _ _ _ _ _ _ _ _ _ call_isinst (by rfl) T.b_isinstance bt_isinstance (@pa_cons _ _ _ _ _ (pv 0) (@pa_cons _ _ _ _ _ (@pe_ty _ _ _ _ rfl T.b_tuple bt_tuple (by decide) (by decide)) (@pa_nil _) (by rfl)) (by rfl)) (by decide) (by decide) (by rfl) (by rfl)) (@pe_one _ _ _ _ _ (@pe_cmpR _ _ _ _ _ _ _ _ op_eq (@pe_callB _ _ _ _ _ _ _ _ _ call_len_seq (by rfl) T.b_len bt_len (@pa_cons _ _ _ _ _ (pv 0) (@pa_nil _) (by rfl)) (by decide) (by decide) (by rfl) (by rfl)) (pv 1) (nomark _)))))),?_⟩
  refine tAndV_p (isA (tyN H v) "tuple") (tupN H v n) (fun R q=>⟨_,rfl,_,_,_,_,rfl,ok.ty K,ok.kit K,q⟩) (fun hw R q=>?_) ?_
  · obtain ⟨a,xs,rfl,e⟩:=tuple_of ok hw
    rw [tupN_tup e] at q
    refine ⟨_,rfl,a,xs,rfl,.inr (SqT.of e),_,rfl,rfl,?_⟩
    rw [dec_int,Bool.beq_eq_decide_eq]; exact q
  · cases hw:isA (tyN H v) "tuple" with
    | true=>exact q
    | false=>rw [tupN_no ok hw] at q; exact q
def sp_number_of (K:PySem.W.Frag):Sp:=fun vs H Q _=>∃ u:Str,vs = [.str u]∧0≤PySem.Txt.find SG u∧Q (.int (PySem.Txt.find SG u)) H
theorem ok_number_of (T:Txt K mg C_WordReader C_Boards XC) (F:Fun K "number_of" "number_of" s_number_of f fd):FnOk P w K mg base CX0 1 f fd ["sign"] (sp_number_of K):=by
  refine F.ok sc_number_of (fun vs H Q E h=>?_) (fun cdv A outer s H vs Q E hr h=>?_)
  · obtain ⟨u,rfl,_⟩:=h
    rfl
  obtain ⟨u,rfl,h0,q⟩:=h
  refine ⟨_,(@pss_one _ _ _ (@ps_ret _ _ _ _ (@pe_bm _ _ _ _ _ _ _ _ _ _ _ _ PySem.F.plainAttrs_str PySem.F.slot_str_index PySem.F.type_str_index (mt_index rfl) (@pe_globS _ _ _ _ rfl T.c_SIGNS (by decide)) (@pa_cons _ _ _ _ _ (pv 0) (@pa_nil _) (by rfl)) (by rfl) (by rfl) (by rfl) (by rfl) (by rfl)))),?_⟩
  exact ⟨rfl,_,rfl,_,_,rfl,rfl,h0,q⟩
def sp_sign_of (K:PySem.W.Frag):Sp:=fun vs H Q _=>∃ i:Int,vs = [.int i]∧0≤i∧i < 94∧Q (.str ⟨#[SG.cps.toList.getD i.toNat 0]⟩) H
theorem ok_sign_of (T:Txt K mg C_WordReader C_Boards XC) (F:Fun K "sign_of" "sign_of" s_sign_of f fd):FnOk P w K mg base CX0 1 f fd ["number"] (sp_sign_of K):=by
  refine F.ok sc_sign_of (fun vs H Q E h=>?_) (fun cdv A outer s H vs Q E hr h=>?_)
  · obtain ⟨u,rfl,_⟩:=h
    rfl
  obtain ⟨i,rfl,h0,h1,q⟩:=h
  refine ⟨_,(@pss_one _ _ _ (@ps_ret _ _ _ _ (@pe_ix _ _ _ _ _ _ _ ix_str (@pe_globS _ _ _ _ rfl T.c_SIGNS (by decide)) (pv 0) (fun _ _=>rfl)))),?_⟩
  exact ⟨_,rfl,_,_,_,rfl,rfl,sg_len2,sg_at h0 h1,q⟩
def isT:Nat→Tr→Bool
  | 0,_=>false
  | _ + 1,.int i=>decide (0≤i) && decide (i≤999999999)
  | _ + 1,.str z=>decide ((z.length:Int)≤400) && allIn SG z
  | n + 1,.tup ts=>decide (ts.length≤100) && ts.all (isT n)
  | _ + 1,_=>false
def All:Addr→Prop:=fun _=>True
def NL:Addr→Prop:=fun _=>False
mutual
theorem rep_tup {H H':Hp} (k:∀ c xs,H c = some (.tup xs)→H' c = some (.tup xs)):∀ (t:Tr) (v:V),Rep NL H t v→Rep NL H' t v
  | .non,_,h=>h
  | .bl _,_,h=>h
  | .int _,_,h=>h
  | .str _,_,h=>h
  | .tup ts,_,⟨a,vs,e,ha,hr⟩=>⟨a,vs,e,k a _ ha,reps_tup k ts vs hr⟩
  | .lst _,_,⟨_,_,_,fa,_⟩=>fa.elim
theorem reps_tup {H H':Hp} (k:∀ c xs,H c = some (.tup xs)→H' c = some (.tup xs)):∀ (ts:List Tr) (vs:List V),Reps NL H ts vs→Reps NL H' ts vs
  | [],_,h=>h
  | t :: ts,_,⟨v,us,e,h1,h2⟩=>⟨v,us,e,rep_tup k t v h1,reps_tup k ts us h2⟩
end
theorem rep_all {H:Hp} {t:Tr} {v:V} (h:Rep NL H t v):Rep All H t v:=Rep.mono (fun _ z=>z.elim) t v h
mutual
theorem isT_ok:∀ (n:Nat) (t:Tr),isT n t = true→t.ok
  | 0,_,h=>nomatch h
  | n + 1,.non,h=>nomatch h
  | n + 1,.bl _,h=>nomatch h
  | n + 1,.int _,_=>trivial
  | n + 1,.str z,h=>by
    have h':(decide ((z.length:Int)≤400) && allIn SG z) = true:=h
    rw [Bool.and_eq_true,decide_eq_true_eq] at h'
    show z.length≤1000
    omega
  | n + 1,.tup ts,h=>by
    have h':(decide (ts.length≤100) && ts.all (isT n)) = true:=h
    rw [Bool.and_eq_true,decide_eq_true_eq] at h'
    exact ⟨by omega,isTs_ok n ts h'.2⟩
  | n + 1,.lst _,h=>nomatch h
theorem isTs_ok:∀ (n:Nat) (ts:List Tr),ts.all (isT n) = true→Tr.oks ts
  | _,[],_=>trivial
  | n,t :: ts,h=>by
    rw [List.all_cons,Bool.and_eq_true] at h
    exact ⟨isT_ok n t h.1,isTs_ok n ts h.2⟩
end
def idx (c:Nat):Int:=PySem.Txt.find SG ⟨#[c]⟩
theorem idx_sg {c:Nat} (h:c∈cod SG):0≤idx c∧idx c < 94∧SG.cps.toList.getD (idx c).toNat 0 = c:=by
  obtain ⟨k,hk,e⟩:=List.getElem_of_mem (show c∈SG.cps.toList from h)
  have hk':k < 94:=by rw [sg_len] at hk; exact hk
  have eg:SG.cps.toList.getD k 0 = c:=by simp only [List.getD,List.getElem?_eq_getElem hk,Option.getD_some]; exact e
  have:=sg_find k hk'
  rw [eg] at this
  have ei:idx c = (k:Int):=this
  rw [ei]
  exact ⟨by omega,by omega,eg⟩
mutual
def wT:Tr→List Int
  | .int i=>[0,i]
  | .str z=>1 :: (z.length:Int) :: (cod z).map idx
  | .tup ts=>2 :: (ts.length:Int) :: wTs ts
  | _=>[]
def wTs:List Tr→List Int
  | []=>[]
  | t :: ts=>wT t ++ wTs ts
end
theorem wTs_app:∀ (a b:List Tr),wTs (a ++ b) = wTs a ++ wTs b
  | [],_=>rfl
  | t :: a,b=>by
    show wT t ++ wTs (a ++ b) = (wT t ++ wTs a) ++ wTs b
    rw [wTs_app a b,List.append_assoc]
theorem wTs_take {ts:List Tr} {i:Nat} {t:Tr} (h:ts[i]? = some t):wTs (ts.take (i + 1)) = wTs (ts.take i) ++ wT t:=by
  rw [List.take_add_one,h,wTs_app]
  show wTs (ts.take i) ++ (wT t ++ []) = _
  rw [List.append_nil]
theorem wTs_le {ts:List Tr} (i:Nat):(wTs (ts.take i)).length≤(wTs ts).length:=by
  have:=congrArg List.length (wTs_app (ts.take i) (ts.drop i))
  rw [List.take_append_drop,List.length_append] at this
  omega
theorem wTs_one {ts:List Tr} {i:Nat} {t:Tr} (h:ts[i]? = some t):(wTs (ts.take i)).length + (wT t).length≤(wTs ts).length:=by
  have:=wTs_le (ts:=ts) (i + 1)
  rw [wTs_take h,List.length_append] at this
  exact this
theorem isT_str {n:Nat} {z:Str} (h:isT n (.str z) = true):z.length≤400∧∀ c∈cod z,c∈cod SG:=by
  cases n with
  | zero=>cases h
  | succ n=>
    have h':(decide ((z.length:Int)≤400) && allIn SG z) = true:=h
    rw [Bool.and_eq_true,decide_eq_true_eq] at h'
    refine ⟨by omega,fun c hc=>?_⟩
    have:=List.all_eq_true.mp h'.2 c hc
    simpa using this
theorem isT_tup {n:Nat} {ts:List Tr} (h:isT (n + 1) (.tup ts) = true):ts.length≤100∧∀ (i:Nat) t,ts[i]? = some t→isT n t = true:=by
  have h':(decide (ts.length≤100) && ts.all (isT n)) = true:=h
  rw [Bool.and_eq_true,decide_eq_true_eq] at h'
  exact ⟨h'.1,fun i t ht=>List.all_eq_true.mp h'.2 t (List.mem_of_getElem? ht)⟩
theorem wT_tup (ts:List Tr):wT (.tup ts) = 2 :: (ts.length:Int) :: wTs ts:=rfl
theorem wT_str (z:Str):wT (.str z) = 1 :: (z.length:Int) :: (cod z).map idx:=rfl
def sp_wo (n:Nat) (K:PySem.W.Frag):Sp:=fun vs H Q _=>∃ (v:V) (t:Tr),vs = [v]∧Rep NL H t v∧isT n t = true∧(wT t).length≤900000∧∀ l H',Same H H'→H l = none→H' l = some (.lst ((wT t).map V.int))→Q (.ref l) H'
def sp_words_of (K:PySem.W.Frag):Sp:=sp_wo 8 K
theorem wo_step (T:Txt K mg C_WordReader C_Boards XC) (F:Fun K "words_of" "words_of" s_words_of f fd) (D_is_whole:Def P w K mg base 1 "is_whole" ["thing"] (sp_is_whole K)) (D_number_of:Def P w K mg base 1 "number_of" ["sign"] (sp_number_of K)) (n:Nat) (D_words_of:Def P w K mg base (1 + n) "words_of" ["thing"] (sp_wo n K)):FnOk P w K mg base CX0 (1 + n + 1) f fd ["thing"] (sp_wo (n + 1) K):=by
  refine F.ok sc_words_of (fun vs H Q E h=>?_) (fun cdv A outer s H vs Q E hr h=>?_)
  · obtain ⟨v,t,rfl,_⟩:=h
    rfl
  obtain ⟨v,t,rfl,hv,ht,hw,q⟩:=h
  have ok:=isT_ok _ _ ht
  have okv:=(rep_all hv).ok ok
  have ety:=(rep_all hv).tyN
  refine ⟨_,(@pss_cons _ _ _ _ _ (@ps_if _ _ _ _ _ _ _ _ (@pt_val _ _ _ (@pe_fn _ _ _ _ _ _ _ _ _ _ D_is_whole (hr.mono (by omega)) rfl (@pa_cons _ _ _ _ _ (pv 0) (@pa_nil _) (by rfl)) (by decide) (by rfl) (by rfl)) (by intro _; rfl)) (@pss_one _ _ _ (@ps_ret _ _ _ _ (@pe_lst _ _ _ _ (@pa_cons _ _ _ _ _ (@pe_globI _ _ _ _ rfl T.c_NUMBER_WORD (by decide)) (@pa_cons _ _ _ _ _ (pv 0) (@pa_nil _) (by rfl)) (by rfl))))) (@pss_nil _)) (@pss_cons _ _ _ _ _ (@ps_if _ _ _ _ _ _ _ _ (@pt_val _ _ _ (@pe_callB _ _ _ _ _ _ _ _ _ call_isinst (by rfl) T.b_isinstance bt_isinstance (@pa_cons _ _ _ _ _ (pv 0) (@pa_cons _ _ _ _ _ (@pe_ty _ _ _ _ rfl T.b_str bt_str (by decide) (by decide)) (@pa_nil _) (by rfl)) (by rfl)) (by decide) (by decide) (by rfl) (by rfl)) (by intro _; rfl)) (@pss_one _ _ _ (@ps_ret _ _ _ _ (@pe_op _ _ _ _ _ _ _ _ op_catS (@pe_lst _ _ _ _ (@pa_cons _ _ _ _ _ (@pe_globI _ _ _ _ rfl T.c_TEXT_WORD (by decide)) (@pa_cons _ _ _ _ _ (@pe_callB _ _ _ _ _ _ _ _ _ call_len_str (by rfl) T.b_len bt_len (@pa_cons _ _ _ _ _ (pv 0) (@pa_nil _) (by rfl)) (by decide) (by decide) (by rfl) (by rfl)) (@pa_nil _) (by rfl)) (by rfl))) (@pe_comp0 _ ["sign"] _ _ _ _ _ _ _ _ _ _ rfl (@pi_str _ _ _ _ (pv 0)) (by decide +kernel) (fun C s H fp=>⟨(@pg_name _ _ (0) _ (show (["sign"]:List Str).Nodup by decide +kernel) rfl (by first | exact Or.inl rfl | exact Or.inr rfl) (by first | exact .inl rfl | exact .inr rfl | assumption)),(@pifs_nil _),(@pe_fn _ _ _ _ _ _ _ _ _ _ D_number_of (hr.mono (by omega)) rfl (@pa_cons _ _ _ _ _ (pv 0) (@pa_nil _) (by rfl)) (by decide) (by rfl) (by rfl))⟩) (by intro _; rfl))))) (@pss_nil _)) (@pss_cons _ _ _ _ _ (@ps_set _ _ (1) _ _ _ _ sc_words_of.nd rfl (by first | exact Or.inl rfl | exact Or.inr rfl) (@pe_lst _ _ _ _ (@pa_cons _ _ _ _ _ (@pe_globI _ _ _ _ rfl T.c_TUPLE_WORD (by decide)) (@pa_cons _ _ _ _ _ (@pe_callB _ _ _ _ _ _ _ _ _ call_len_seq (by rfl) T.b_len bt_len (@pa_cons _ _ _ _ _ (pv 0) (@pa_nil _) (by rfl)) (by decide) (by decide) (by rfl) (by rfl)) (@pa_nil _) (by rfl)) (by rfl))) (by rfl) (by first | exact .inl rfl | exact .inr rfl | assumption)) (@pss_cons _ _ _ _ _ (@ps_for _ _ _ _ _ _ _ _ PassesOwn.never rfl (@pi_tup _ _ _ _ (pv 0)) (@pg_name _ _ (2) _ sc_words_of.nd rfl (by first | exact Or.inl rfl | exact Or.inr rfl) (by first | exact .inl rfl | exact .inr rfl | assumption)) (@pss_one _ _ _ (@ps_expr _ _ _ _ (@pe_bm _ _ _ _ _ _ _ _ _ _ _ _ PySem.F.plainAttrs_list PySem.F.slot_list_extend PySem.F.type_list_extend mt_extend (pv 1) (@pa_cons _ _ _ _ _ (@pe_fn _ _ _ _ _ _ _ _ _ _ D_words_of (hr.mono (by omega)) rfl (@pa_cons _ _ _ _ _ (pv 2) (@pa_nil _) (by rfl)) (by decide) (by rfl) (by rfl)) (@pa_nil _) (by rfl)) (by rfl) (by rfl) (by rfl) (by rfl) (by rfl)) (by rfl))) (by intro _; rfl)) (@pss_one _ _ _ (@ps_ret _ _ _ _ (pv 1))))))),?_⟩
  refine ⟨_,rfl,v,rfl,okv,_,rfl,?_⟩
  cases t with
  | int i=>
    cases (show v = V.int i from hv)
    refine iteTc rfl ?_
    exact ⟨_,rfl,small (by show 2≤1000000; decide),fun l hl=>q l _ (same_new hl _) hl upd_same⟩
  | str z=>
    cases (show v = V.str z from hv)
    obtain ⟨zl,zs⟩:=isT_str ht
    have zc:=cod_len z
    refine iteFc rfl ?_
    refine ⟨_,rfl,_,_,_,_,rfl,okv.ty K,okv.kit K,_,rfl,iteTc (by rw [ety]; show isA "str" "str" = true; decide) ?_⟩
    refine ⟨_,rfl,_,rfl,small (by omega),small (by show 2≤1000000; decide),fun p1 hp1=>?_⟩
    refine ⟨_,rfl,z,rfl,?_⟩
    refine comp_map (fun v=>match v with | .str y=>.int (PySem.Txt.find SG y) | _=>.non) itIs_str (by rw [List.length_map]; exact Nat.le_trans (Nat.le_of_eq zc) (by omega)) (fun x H' R hx s' hR=>?_) fun l H7 n7 s7 h7=>?_
    · obtain ⟨u,hu,rfl⟩:=List.mem_map.mp hx
      exact ⟨_,rfl,_,rfl,(idx_sg (zs u hu)).1,hR H' (Same.refl _)⟩
    have e7:((z.cps.toList.map fun c=>V.str ⟨#[c]⟩).map fun v=>match v with | V.str y=>V.int (PySem.Txt.find SG y) | _=>V.non) = ((cod z).map idx).map V.int:=by
      rw [List.map_map,List.map_map]; rfl
    rw [e7] at h7
    have s1:=same_new hp1 (.lst [V.int 1,V.int (z.length:Int)])
    refine ⟨p1,l,_,_,rfl,rfl,SqL.of (s7.get upd_same),SqL.of h7,small (by rw [List.length_map,List.length_map]; show 2 + _≤_; omega),fun p hp=>?_⟩
    exact q p _ ((s1.trans s7).trans (same_new hp _)) ((s1.trans s7).free hp) upd_same
  | tup ts=>
    obtain ⟨a,vs,rfl,ha,hr'⟩:=hv
    have lv:=Reps.len ts vs hr'
    obtain ⟨tl,tt⟩:=isT_tup ht
    rw [wT_tup] at hw q
    have hw2:(wTs ts).length≤899998:=by simp only [List.length_cons] at hw; omega
    refine iteFc (by unfold wholeB; rw [ety]; rfl) ?_
    refine ⟨_,rfl,_,_,_,_,rfl,okv.ty K,okv.kit K,_,rfl,iteFc (by rw [ety]; show isA "tuple" "str" = false; decide) ?_⟩
    refine ⟨_,rfl,a,_,rfl,.inr (SqT.of ha),small (by show 2≤1000000; decide),fun g hg=>?_⟩
    rw [lv]
    refine ⟨_,rfl,a,rfl,⟨_,SqT.of ((same_new hg _).get ha)⟩,for_tup (K:=K) (a:=a) (xs:=vs) (fun i σ H2=>∃ (v2:Option V),σ = [some (.ref a),some (.ref g),v2]∧Same H H2∧H2 g = some (.lst ((2 :: (ts.length:Int) :: wTs (ts.take i)).map V.int)))
      ⟨none,rfl,same_new hg _,upd_same⟩ (fun i σ H2 _ ⟨_,_,s2,_⟩=>SqT.of (s2.get ha)) ?_ ?_⟩
    · rintro i y σ H2 hi ⟨v2,rfl,s2,hg2⟩
      obtain ⟨ty,et,ry⟩:=Reps.get hr' hi
      have b1:=wTs_one et
      refine ⟨_,rfl,.inl ⟨rfl,_,SqL.of hg2⟩,_,rfl,y,ty,rfl,Rep.same s2 _ _ ry,tt i ty et,by omega,fun l3 H3 s3 n3 h3=>?_⟩
      refine ⟨g,l3,_,_,rfl,rfl,s3.get hg2,h3,small (by simp only [List.length_map,List.length_cons]; omega),?_⟩
      refine ⟨_,rfl,same_upd (s2.trans s3) hg _,?_⟩
      rw [upd_same,← List.map_append,wTs_take et]
      rfl
    · rintro σ H2 ⟨v2,rfl,s2,hg2⟩
      rw [lv,List.take_of_length_le (Nat.le_refl _)] at hg2
      exact ⟨_,rfl,q g H2 s2 hg hg2⟩
  | non=>cases n <;> cases ht
  | bl b=>cases n <;> cases ht
  | lst ts=>cases n <;> cases ht
theorem wo_all (T:Txt K mg C_WordReader C_Boards XC) (F:Fun K "words_of" "words_of" s_words_of f fd) (D_is_whole:Def P w K mg base 1 "is_whole" ["thing"] (sp_is_whole K)) (D_number_of:Def P w K mg base 1 "number_of" ["sign"] (sp_number_of K)) (hm:mg "words_of" = some (.ref f)) (hk:PySem.W.keepIn K (.ref f) = true) (hb:Binds K fd ["thing"] []):∀ n,FnOk P w K mg base CX0 (1 + n) f fd ["thing"] (sp_wo n K)
  | 0=>by
    refine F.ok sc_words_of (fun vs H Q E h=>?_) (fun cdv A outer s H vs Q E hr h=>?_)
    · obtain ⟨v,t,rfl,_,ht,_⟩:=h
      cases ht
    · obtain ⟨v,t,rfl,_,ht,_⟩:=h
      cases ht
  | n + 1=>wo_step T F D_is_whole D_number_of n ⟨f,fd,wo_all T F D_is_whole D_number_of hm hk hb n,hm,hk,hb⟩
theorem ok_words_of (T:Txt K mg C_WordReader C_Boards XC) (F:Fun K "words_of" "words_of" s_words_of f fd) (D_is_whole:Def P w K mg base 1 "is_whole" ["thing"] (sp_is_whole K)) (D_number_of:Def P w K mg base 1 "number_of" ["sign"] (sp_number_of K)) (hm:mg "words_of" = some (.ref f)) (hk:PySem.W.keepIn K (.ref f) = true) (hb:Binds K fd ["thing"] []):FnOk P w K mg base CX0 9 f fd ["thing"] (sp_words_of K):=
  wo_all T F D_is_whole D_number_of hm hk hb 8
def sp_mark_of (K:PySem.W.Frag):Sp:=fun vs H Q _=>∃ (a:Addr) (ns:List Int),vs = [.ref a]∧H a = some (.lst (ns.map V.int))∧ns.length≤1000∧∀ H',Same H H'→Q (.int (mk ns)) H'
def fI (i:Nat):V→V
  | .int x=>.int (x * ((i:Int) + 1))
  | v=>v
theorem fI_map (ns:List Int):(List.range (ns.map V.int).length).map (fun i=>fI i ((ns.map V.int).getD i .non)) = ((List.range ns.length).map fun i=>ns.getD i 0 * ((i:Int) + 1)).map V.int:=by
  rw [List.length_map,List.map_map]
  refine List.map_congr_left fun i hi=>?_
  have hl:i < ns.length:=List.mem_range.mp hi
  simp [List.getD,List.getElem?_eq_getElem hl,fI]
theorem ok_mark_of (T:Txt K mg C_WordReader C_Boards XC) (F:Fun K "mark_of" "mark_of" s_mark_of f fd):FnOk P w K mg base CX0 1 f fd ["words"] (sp_mark_of K):=by
  refine F.ok sc_mark_of (fun vs H Q E h=>?_) (fun cdv A outer s H vs Q E hr h=>?_)
  · obtain ⟨a,ns,rfl,_⟩:=h
    rfl
  obtain ⟨a,ns,rfl,hS,hlen,q⟩:=h
  refine ⟨_,(@pss_one _ _ _ (@ps_ret _ _ _ _ (@pe_op _ _ _ _ _ _ _ _ op_mod (@pe_callB _ _ _ _ _ _ _ _ _ (call_sum rfl) (by rfl) T.b_sum bt_sum (@pa_cons _ _ _ _ _ (@pe_comp0 _ ["place","word"] _ _ _ _ _ _ _ _ _ _ rfl (@pi_enum _ _ _ _ _ _ _ _ _ _ _ rfl T.b_enumerate (@pa_cons _ _ _ _ _ (pv 0) (@pa_nil _) (by rfl)) (by rfl) (by rfl)) (by decide +kernel) (fun C s H fp=>⟨(@pg_tupK _ (K) _ _ _ _ (2) (by rfl) rfl (@pgs_cons _ _ _ _ _ (@pg_name _ _ (0) _ (show (["place","word"]:List Str).Nodup by decide +kernel) rfl (by first | exact Or.inl rfl | exact Or.inr rfl) (by first | exact .inl rfl | exact .inr rfl | assumption)) (@pgs_cons _ _ _ _ _ (@pg_name _ _ (1) _ (show (["place","word"]:List Str).Nodup by decide +kernel) rfl (by first | exact Or.inl rfl | exact Or.inr rfl) (by first | exact .inl rfl | exact .inr rfl | assumption)) (@pgs_nil _) (by rfl)) (by rfl)) (by rfl) (by rfl)),(@pifs_nil _),(@pe_op _ _ _ _ _ _ _ _ op_mul (pv 1) (pv 0))⟩) (by intro _; rfl)) (@pa_nil _) (by rfl)) (by decide) (by decide) (by rfl) (by rfl)) (@pe_globI _ _ _ _ rfl T.c_MARK_RESTS (by decide))))),?_⟩
  refine ⟨_,rfl,a,_,rfl,SqL.of hS,?_⟩
  refine comp_enum fI hS (by rw [List.length_map]; omega) rfl (fun i x H' R hx s' hR=>?_) (by decide) fun l H' nl s' hl=>?_
  · obtain ⟨z,rfl,hz⟩:=map_get hx
    have hil:i < ns.length:=(List.getElem?_eq_some_iff.mp hz).1
    exact ⟨_,rfl,_,rfl,_,_,rfl,rfl,.inr ⟨by omega,by omega⟩,hR H' (Same.refl _)⟩
  · rw [fI_map] at hl
    refine ⟨l,_,rfl,SqL.of hl,?_⟩
    refine ⟨_,_,rfl,rfl,(by show (0:Int) < 2147483647; decide),?_⟩
    rw [range_sum]
    exact q _ s'
def sp_sealed (K:PySem.W.Frag):Sp:=fun vs H Q _=>∃ (a:Addr) (ns:List Int),vs = [.ref a]∧H a = some (.lst (ns.map V.int))∧ns.length≤1000∧
  ∀ (r:Addr) (H':Hp),Same H H'→H r = none→H' r = some (.lst ((ns ++ [mk ns]).map V.int))→Q (.ref r) H'
theorem ok_sealed (T:Txt K mg C_WordReader C_Boards XC) (F:Fun K "sealed" "sealed" s_sealed f fd) (D_mark_of:Def P w K mg base 1 "mark_of" ["words"] (sp_mark_of K)):FnOk P w K mg base CX0 2 f fd ["words"] (sp_sealed K):=by
  refine F.ok sc_sealed (fun vs H Q E h=>?_) (fun cdv A outer s H vs Q E hr h=>?_)
  · obtain ⟨a,ns,rfl,_⟩:=h
    rfl
  obtain ⟨a,ns,rfl,hS,hlen,q⟩:=h
  refine ⟨_,(@pss_one _ _ _ (@ps_ret _ _ _ _ (@pe_op _ _ _ _ _ _ _ _ op_catS (pv 0) (@pe_lst _ _ _ _ (@pa_cons _ _ _ _ _ (@pe_fn _ _ _ _ _ _ _ _ _ _ D_mark_of (hr.mono (by decide)) rfl (@pa_cons _ _ _ _ _ (pv 0) (@pa_nil _) (by rfl)) (by decide) (by rfl) (by rfl)) (@pa_nil _) (by rfl)))))),?_⟩
  refine ⟨_,rfl,_,rfl,a,ns,rfl,hS,hlen,fun H1 s1=>?_⟩
  refine ⟨small (by show 1≤1000000; decide),fun g hg=>?_⟩
  refine ⟨a,g,_,_,rfl,rfl,SqL.of ((same_new hg _).get (s1.get hS)),SqL.of upd_same,small (by rw [List.length_map]; show ns.length + 1≤1000000; omega),fun p hp=>?_⟩
  refine q p _ ((s1.trans (same_new hg _)).trans (same_new hp _)) (s1.free ((same_new hg _).free hp)) ?_
  rw [upd_same,List.map_append]; rfl
def sp_unsealed (K:PySem.W.Frag):Sp:=fun vs H Q _=>∃ (a:Addr) (ns:List Int),vs = [.ref a]∧H a = some (.lst (ns.map V.int))∧ns.length≤1000∧
  (sound ns = false→∀ H',Same H H'→Q .non H')∧(sound ns = true→∀ (r:Addr) (H':Hp),Same H H'→H r = none→H' r = some (.lst (ns.dropLast.map V.int))→Q (.ref r) H')
def fB:V→V
  | .int x=>.bl (inB x)
  | v=>v
theorem ok_unsealed (T:Txt K mg C_WordReader C_Boards XC) (F:Fun K "unsealed" "unsealed" s_unsealed f fd) (D_mark_of:Def P w K mg base 1 "mark_of" ["words"] (sp_mark_of K)) (D_is_between:Def P w K mg base 2 "is_between" ["thing","least","most"] (sp_is_between K)):FnOk P w K mg base CX0 3 f fd ["row"] (sp_unsealed K):=by
  refine F.ok sc_unsealed (fun vs H Q E h=>?_) (fun cdv A outer s H vs Q E hr h=>?_)
  · obtain ⟨a,ns,rfl,_⟩:=h
    rfl
  obtain ⟨a,ns,rfl,hS,hlen,q0,q1⟩:=h
  refine ⟨_,(@pss_cons _ _ _ _ _ (@ps_if _ _ _ _ _ _ _ _ (@PW.pt _ _ _ (@pw_or _ _ _ _ _ _ _ (@pt_cmpR _ _ _ _ _ _ _ _ op_eq (@pe_callB _ _ _ _ _ _ _ _ _ call_len_seq (by rfl) T.b_len bt_len (@pa_cons _ _ _ _ _ (pv 0) (@pa_nil _) (by rfl)) (by decide) (by decide) (by rfl) (by rfl)) (@pe_int _ _ _ _) (nomark _)) (@pw_or1 _ _ _ _ (@pt_not _ _ _ _ (@pt_val _ _ _ (@pe_callB _ _ _ _ _ _ _ _ _ (call_all rfl) (by rfl) T.b_all bt_all (@pa_cons _ _ _ _ _ (@pe_comp0 _ ["word"] _ _ _ _ _ _ _ _ _ _ rfl (@pi_list _ _ _ _ (pv 0)) (by decide +kernel) (fun C s H fp=>⟨(@pg_name _ _ (0) _ (show (["word"]:List Str).Nodup by decide +kernel) rfl (by first | exact Or.inl rfl | exact Or.inr rfl) (by first | exact .inl rfl | exact .inr rfl | assumption)),(@pifs_nil _),(@pe_fn _ _ _ _ _ _ _ _ _ _ D_is_between (hr.mono (by decide)) rfl (@pa_cons _ _ _ _ _ (pv 0) (@pa_cons _ _ _ _ _ (@pe_int _ _ _ _) (@pa_cons _ _ _ _ _ (@pe_op _ _ _ _ _ _ _ _ op_sub (@pe_globI _ _ _ _ rfl T.c_MARK_RESTS (by decide)) (@pe_int _ _ _ _)) (@pa_nil _) (by rfl)) (by rfl)) (by rfl)) (by decide) (by rfl) (by rfl))⟩) (by intro _; rfl)) (@pa_nil _) (by rfl)) (by decide) (by decide) (by rfl) (by rfl)) (by intro _; rfl)))))) (@pss_one _ _ _ (@ps_ret _ _ _ _ (@pe_non _ _ _))) (@pss_nil _)) (@pss_cons _ _ _ _ _ (@ps_set _ _ (1) _ _ _ _ sc_unsealed.nd rfl (by first | exact Or.inl rfl | exact Or.inr rfl) (@pe_slice _ _ _ _ _ _ _ _ _ _ sl_list (pv 0) (@po_none _) (@po_some _ _ _ (@pe_un _ _ _ _ _ _ un_neg (@pe_int _ _ _ _)))) (by rfl) (by first | exact .inl rfl | exact .inr rfl | assumption)) (@pss_cons _ _ _ _ _ (@ps_if _ _ _ _ _ _ _ _ (@pt_cmpR _ _ _ _ _ _ _ _ op_ne (@pe_ix _ _ _ _ _ _ _ ix_list (pv 0) (@pe_un _ _ _ _ _ _ un_neg (@pe_int _ _ _ _)) (fun _ _=>rfl)) (@pe_fn _ _ _ _ _ _ _ _ _ _ D_mark_of (hr.mono (by decide)) rfl (@pa_cons _ _ _ _ _ (pv 1) (@pa_nil _) (by rfl)) (by decide) (by rfl) (by rfl)) (nomark _)) (@pss_one _ _ _ (@ps_ret _ _ _ _ (@pe_non _ _ _))) (@pss_nil _)) (@pss_one _ _ _ (@ps_ret _ _ _ _ (pv 1)))))),?_⟩
  dsimp only [cxOf,Cx.nox,Cx.wish]
  refine ⟨_,rfl,a,_,rfl,.inl (SqL.of hS),rfl,_,rfl,?_⟩
  refine ite2 (fun c=>?_) (fun c=>?_)
  · have hn:ns = []:=by simpa using c
    subst hn
    exact iteT (q0 (by decide) _ (Same.refl _))
  have hne:ns≠[]:=by simpa using c
  refine ⟨_,rfl,a,rfl,⟨_,SqL.of hS⟩,?_⟩
  refine comp_map fB (itIs_list (SqL.of hS)) (by rw [List.length_map]; omega) (fun x H' R hx s' hR=>?_) fun l H1 nl s1 hl=>?_
  · obtain ⟨u,_,rfl⟩:=List.mem_map.mp hx
    exact ⟨_,rfl,_,_,rfl,rfl,.int u,0,_,rfl,trivial,hR H' (Same.refl _)⟩
  have el:(ns.map V.int).map fB = (ns.map inB).map V.bl:=by rw [List.map_map,List.map_map]; rfl
  rw [el] at hl
  refine ⟨l,ns.map inB,rfl,SqL.of hl,_,rfl,?_⟩
  have ea:(ns.map inB).all id = ns.all inB:=by rw [List.all_map]; rfl
  rw [ea]
  refine ite2 (fun c2=>?_) (fun c2=>?_)
  · have hf:sound ns = false:=by
      unfold sound
      have:ns.all inB = false:=by simpa using c2
      rw [this]; simp
    exact q0 hf _ s1
  have hal:ns.all inB = true:=by
    cases e:ns.all inB with
    | true=>rfl
    | false=>rw [e] at c2; exact absurd rfl c2
  refine ⟨_,rfl,_,rfl,_,rfl,a,_,rfl,SqL.of (s1.get hS),fun p hp=>?_⟩
  have ec:cutV (ns.map V.int) none (some (-1)) = ns.dropLast.map V.int:=by rw [cut_last,List.map_dropLast]
  have s2:=s1.trans (same_new hp (.lst (ns.dropLast.map V.int)))
  have eH:upd H1 p (.lst (cutV (ns.map V.int) none (some (-1)))) = upd H1 p (.lst (ns.dropLast.map V.int)):=by rw [ec]
  rw [show (-(1:Int)) = -1 from rfl,eH]
  have at1:atI (ns.map V.int) (-1) = some (.int (ns.getLastD 0)):=by
    have e1:ns = ns.dropLast ++ [ns.getLast hne]:=(List.dropLast_concat_getLast hne).symm
    have e2:ns.getLastD 0 = ns.getLast hne:=by rw [List.getLastD_eq_getLast?,List.getLast?_eq_some_getLast hne]; rfl
    rw [e2]
    conv=>lhs; rw [e1]
    rw [List.map_append]
    exact atI_last _ _
  refine ⟨_,rfl,_,rfl,a,_,_,_,rfl,rfl,SqL.of (s2.get hS),at1,_,rfl,p,_,rfl,upd_same,by rw [List.length_dropLast]; omega,fun H3 s3=>?_⟩
  refine ⟨rfl,_,rfl,?_⟩
  refine ite2 (fun c3=>?_) (fun c3=>?_)
  · have hf:sound ns = false:=by
      unfold sound
      have:¬ ns.getLastD 0 = mk ns.dropLast:=by simpa using c3
      rw [decide_eq_false this]; simp
    exact q0 hf _ (s2.trans s3)
  · have he:ns.getLastD 0 = mk ns.dropLast:=by simpa using c3
    have ht:sound ns = true:=by
      unfold sound
      rw [hal,decide_eq_true he,decide_eq_false hne]; rfl
    exact ⟨_,rfl,q1 ht p _ (s2.trans s3) (s1.free hp) (s3.get upd_same)⟩
theorem foldl_glue {g:Array Nat} (hg:g.toList = []):∀ (xs:List Str) (acc:Array Nat),(xs.foldl (fun acc p=>acc ++ g ++ p.cps) acc).toList = acc.toList ++ (xs.map cod).flatten
  | [],acc=>by simp
  | x :: xs,acc=>by
    rw [List.foldl_cons,foldl_glue hg xs,Array.toList_append,Array.toList_append,hg,List.append_nil,List.map_cons,List.flatten_cons,List.append_assoc]
theorem join_cod {g:Str} (hg:cod g = []) (ys:List Str):cod (PySem.Txt.join g ys) = (ys.map cod).flatten:=by
  unfold PySem.Txt.join PySem.Builtin.Str.glued
  change Array.toList (List.foldl _ _ _) = _
  rw [foldl_glue (g:=g.cps) hg]
  cases ys with
  | nil=>rfl
  | cons y ys=>simp
abbrev nilS:Str:=PySem.Str.ofString ""
def Kp (H H':Hp) (p:Addr):Prop:=∀ b o,H b = some o→b≠p→H' b = some o
theorem Kp.refl (H:Hp) (p:Addr):Kp H H p:=fun _ _ e _=>e
theorem Kp.trans {H H1 H2:Hp} {p:Addr} (a:Kp H H1 p) (b:Kp H1 H2 p):Kp H H2 p:=fun c o e n=>b c o (a c o e n) n
theorem Kp.put {H:Hp} {p:Addr} (o:HO):Kp H (upd H p o) p:=fun c u e n=>by rw [upd_ne n]; exact e
theorem Same.kp {H H':Hp} (s:Same H H') (p:Addr):Kp H H' p:=fun c o e _=>s c o e
theorem Kp.new {H H':Hp} {p l:Addr} (a:Kp H H' p) (h:H l = none) (o:HO):Kp H (upd H' l o) p:=fun c u e n=>by rw [upd_ne (ne_of_none e h)]; exact a c u e n
def flR (wl:Addr) (k:Int):List (Str×V):=[("words",.ref wl),("place",.int k)]
def sp_WordReader_init (K:PySem.W.Frag) (C_WordReader:Addr):Sp:=fun vs H Q _=>∃ (p dx wl:Addr),vs = [.ref p,.ref wl]∧H p = some (.ins C_WordReader dx [])∧Q .non (upd H p (.ins C_WordReader dx (flR wl 0)))
def sp_WordReader_is_through (K:PySem.W.Frag) (C_WordReader:Addr):Sp:=fun vs H Q _=>∃ (p dx wl:Addr) (ws:List Int) (k:Nat),vs = [.ref p]∧H p = some (.ins C_WordReader dx (flR wl k))∧H wl = some (.lst (ws.map V.int))∧Q (.bl (decide (k = ws.length))) H
theorem ok_WordReader_init (T:Txt K mg C_WordReader C_Boards XC) (F:Fun K "__init__" "WordReader.__init__" s_WordReader_init f fd):FnOk P w K mg base CX0 1 f fd ["self","words"] (sp_WordReader_init K C_WordReader):=by
  refine F.ok sc_WordReader_init (fun vs H Q E h=>?_) (fun cdv A outer s H vs Q E hr h=>?_)
  · obtain ⟨p,dx,wl,rfl,_⟩:=h
    rfl
  obtain ⟨p,dx,wl,rfl,h1,q⟩:=h
  refine ⟨_,(@pss_cons _ _ _ _ _ (@ps_fld _ _ _ _ _ _ _ _ (pv 0) (pv 1) rfl) (@pss_one _ _ _ (@ps_fld _ _ _ _ _ _ _ _ (pv 0) (@pe_int _ _ _ _) rfl))),?_⟩
  refine ⟨_,rfl,_,rfl,p,C_WordReader,dx,[],rfl,h1,T.cl_WordReader,T.n_WordReader_words,(by show 0 < 1000; decide),?_⟩
  refine ⟨_,rfl,p,C_WordReader,dx,_,rfl,upd_same,T.cl_WordReader,T.n_WordReader_place,(by show 1 < 1000; decide),?_⟩
  rw [upd_upd]
  exact q
theorem ok_WordReader_is_through (T:Txt K mg C_WordReader C_Boards XC) (F:Fun K "is_through" "WordReader.is_through" s_WordReader_is_through f fd):FnOk P w K mg base CX0 1 f fd ["self"] (sp_WordReader_is_through K C_WordReader):=by
  refine F.ok sc_WordReader_is_through (fun vs H Q E h=>?_) (fun cdv A outer s H vs Q E hr h=>?_)
  · obtain ⟨p,dx,wl,ws,k,rfl,_⟩:=h
    rfl
  obtain ⟨p,dx,wl,ws,k,rfl,h1,h2,q⟩:=h
  refine ⟨_,(@pss_one _ _ _ (@ps_ret _ _ _ _ (@pe_cmpR _ _ _ _ _ _ _ _ op_eq (@pe_fld _ _ _ _ _ (pv 0) rfl) (@pe_callB _ _ _ _ _ _ _ _ _ call_len_seq (by rfl) T.b_len bt_len (@pa_cons _ _ _ _ _ (@pe_fld _ _ _ _ _ (pv 0) rfl) (@pa_nil _) (by rfl)) (by decide) (by decide) (by rfl) (by rfl)) (nomark _)))),?_⟩
  refine ⟨_,rfl,p,C_WordReader,dx,_,_,rfl,h1,T.cl_WordReader,T.n_WordReader_place,rfl,_,rfl,p,C_WordReader,dx,_,_,rfl,h1,T.cl_WordReader,T.n_WordReader_words,rfl,wl,_,rfl,.inl (SqL.of h2),rfl,?_⟩
  have e:decide (V.int (k:Int) = V.int ((ws.map V.int).length:Int)) = decide (k = ws.length):=by
    rw [dec_int,List.length_map]
    rw [Bool.eq_iff_iff]
    simp
    omega
  rw [e]
  exact q
theorem drop_get {ws:List Int} {k:Nat} {x:Int} {r:List Int} (h:ws.drop k = x :: r):ws[k]? = some x∧ws.drop (k + 1) = r:=by
  constructor
  · have:(ws.drop k)[0]? = some x:=by rw [h]; rfl
    rw [List.getElem?_drop] at this
    simpa using this
  · have:(ws.drop k).drop 1 = r:=by rw [h]; rfl
    rw [List.drop_drop] at this
    exact this
def sp_WordReader_word_to (K:PySem.W.Frag) (C_WordReader:Addr):Sp:=fun vs H Q _=>∃ (p dx wl:Addr) (ws:List Int) (k:Nat) (x m:Int),vs = [.ref p,.int m]∧H p = some (.ins C_WordReader dx (flR wl k))∧H wl = some (.lst (ws.map V.int))∧ws[k]? = some x∧0≤x∧x≤m∧
  Q (.int x) (upd H p (.ins C_WordReader dx (flR wl ((k + 1:Nat):Int))))
theorem ok_WordReader_word_to (T:Txt K mg C_WordReader C_Boards XC) (F:Fun K "word_to" "WordReader.word_to" s_WordReader_word_to f fd) (D_WordReader_is_through:MDef P w K mg base 1 C_WordReader "is_through" ["self"] (sp_WordReader_is_through K C_WordReader)) (D_is_between:Def P w K mg base 2 "is_between" ["thing","least","most"] (sp_is_between K)):FnOk P w K mg base CX0 3 f fd ["self","most"] (sp_WordReader_word_to K C_WordReader):=by
  refine F.ok sc_WordReader_word_to (fun vs H Q E h=>?_) (fun cdv A outer s H vs Q E hr h=>?_)
  · obtain ⟨p,dx,wl,ws,k,x,m,rfl,_⟩:=h
    rfl
  obtain ⟨p,dx,wl,ws,k,x,m,rfl,h1,h2,hx,x0,x1,q⟩:=h
  have hk:k < ws.length:=(List.getElem?_eq_some_iff.mp hx).1
  have ax:atI (ws.map V.int) (k:Int) = some (V.int x):=atI_nat (by rw [List.getElem?_map,hx]; rfl)
  have nwp:wl≠p:=ne_of h2 h1 (by intro z; cases z)
  refine ⟨_,(@pss_cons _ _ _ _ _ (@ps_if _ _ _ _ _ _ _ _ (@PW.pt _ _ _ (@pw_or _ _ _ _ _ _ _ (@pt_val _ _ _ (@pe_mth0 _ _ _ _ _ _ _ _ _ _ _ (pv 0) T.cl_WordReader D_WordReader_is_through (hr.mono (by decide)) (by rfl)) (by intro _; rfl)) (@pw_or1 _ _ _ _ (@pt_not _ _ _ _ (@pt_val _ _ _ (@pe_fn _ _ _ _ _ _ _ _ _ _ D_is_between (hr.mono (by decide)) rfl (@pa_cons _ _ _ _ _ (@pe_ix _ _ _ _ _ _ _ ix_list (@pe_fld _ _ _ _ _ (pv 0) rfl) (@pe_fld _ _ _ _ _ (pv 0) rfl) (fun _ _=>rfl)) (@pa_cons _ _ _ _ _ (@pe_int _ _ _ _) (@pa_cons _ _ _ _ _ (pv 1) (@pa_nil _) (by rfl)) (by rfl)) (by rfl)) (by decide) (by rfl) (by rfl)) (by intro _; rfl)))))) (@pss_one _ _ _ (@ps_never _ _)) (@pss_nil _)) (@pss_cons _ _ _ _ _ (@ps_fldaug _ _ _ _ _ _ _ _ _ _ (pv 0) (@pe_int _ _ _ _) iop_add) (@pss_one _ _ _ (@ps_ret _ _ _ _ (@pe_ix _ _ _ _ _ _ _ ix_list (@pe_fld _ _ _ _ _ (pv 0) rfl) (@pe_op _ _ _ _ _ _ _ _ op_sub (@pe_fld _ _ _ _ _ (pv 0) rfl) (@pe_int _ _ _ _)) (fun _ _=>rfl)))))),?_⟩
  refine tOr_p false false (fun R q=>⟨_,rfl,p,dx,_,rfl,h1,rfl,p,dx,wl,ws,k,rfl,h1,h2,_,rfl,?_⟩) (fun _ R q=>?_) ?_
  · rw [decide_eq_false (by omega)]; exact q
  · refine ⟨_,rfl,p,C_WordReader,dx,_,_,rfl,h1,T.cl_WordReader,T.n_WordReader_words,rfl,_,rfl,p,C_WordReader,dx,_,_,rfl,h1,T.cl_WordReader,T.n_WordReader_place,rfl,wl,_,_,_,rfl,rfl,SqL.of h2,ax,_,rfl,V.int x,0,m,rfl,trivial,_,rfl,?_⟩
    have:betw 0 m (V.int x) = true:=by show (decide (0≤x) && decide (x≤m)) = true; rw [decide_eq_true x0,decide_eq_true x1]; rfl
    rw [this]; exact q
  refine iteFc rfl ?_
  refine ⟨_,rfl,p,C_WordReader,dx,_,_,rfl,h1,T.cl_WordReader,T.n_WordReader_place,rfl,_,_,rfl,rfl,dx,_,h1,(by show 2 < 1000; decide),?_⟩
  have q':Q (.int x) (upd H p (.ins C_WordReader dx (putF "place" (V.int ((k:Int) + 1)) (flR wl k)))):=q
  refine ⟨_,rfl,p,C_WordReader,dx,_,_,rfl,upd_same,T.cl_WordReader,T.n_WordReader_words,rfl,_,rfl,p,C_WordReader,dx,_,_,rfl,upd_same,T.cl_WordReader,T.n_WordReader_place,rfl,_,_,rfl,rfl,wl,_,_,_,rfl,rfl,SqL.of (by rw [upd_ne nwp]; exact h2),?_,q'⟩
  have:(k:Int) + 1 - 1 = (k:Int):=by omega
  show atI (ws.map V.int) ((k:Int) + 1 - 1) = _
  rw [this]
  exact ax
def sp_read_text (K:PySem.W.Frag) (C_WordReader:Addr):Sp:=fun vs H Q _=>∃ (p dx wl:Addr) (ws:List Int) (k:Nat) (z:Str) (r:List Int),vs = [.ref p]∧H p = some (.ins C_WordReader dx (flR wl k))∧H wl = some (.lst (ws.map V.int))∧ws.drop k = (z.length:Int) :: ((cod z).map idx ++ r)∧z.length≤400∧(∀ c∈cod z,c∈cod SG)∧
  ∀ H',Kp H H' p→H' p = some (.ins C_WordReader dx (flR wl ((k + 1 + z.length:Nat):Int)))→Q (.str z) H'
theorem sg_most:(SG.length:Int) - 1 = 93:=by decide +kernel
theorem ok_read_text (T:Txt K mg C_WordReader C_Boards XC) (F:Fun K "read_text" "read_text" s_read_text f fd) (D_WordReader_word_to:MDef P w K mg base 3 C_WordReader "word_to" ["self","most"] (sp_WordReader_word_to K C_WordReader)) (D_sign_of:Def P w K mg base 1 "sign_of" ["number"] (sp_sign_of K)):FnOk P w K mg base CX0 4 f fd ["reader"] (sp_read_text K C_WordReader):=by
  refine F.ok sc_read_text (fun vs H Q E h=>?_) (fun cdv A outer s H vs Q E hr h=>?_)
  · obtain ⟨p,dx,wl,ws,k,z,r,rfl,_⟩:=h
    rfl
  obtain ⟨p,dx,wl,ws,k,z,r,rfl,h1,h2,hd,zl,zs,q⟩:=h
  obtain ⟨g1,g2⟩:=drop_get hd
  have zc:=cod_len z
  have nwp:wl≠p:=ne_of h2 h1 (by intro z; cases z)
  refine ⟨_,(@pss_cons _ _ _ _ _ (@ps_set _ _ (1) _ _ _ _ sc_read_text.nd rfl (by first | exact Or.inl rfl | exact Or.inr rfl) (@pe_mth _ _ _ _ _ _ _ _ _ _ _ _ _ _ (pv 0) T.cl_WordReader D_WordReader_word_to (hr.mono (by decide)) (@pa_cons _ _ _ _ _ (@pe_globI _ _ _ _ rfl T.c_MOST_SIGNS (by decide)) (@pa_nil _) (by rfl)) (by rfl) (by rfl) (by rfl)) (by rfl) (by first | exact .inl rfl | exact .inr rfl | assumption)) (@pss_one _ _ _ (@ps_ret _ _ _ _ (@pe_bm _ _ _ _ _ _ _ _ _ _ _ _ PySem.F.plainAttrs_str PySem.F.slot_str_join PySem.F.type_str_join (mt_join rfl) (@pe_str _ _ _ _) (@pa_cons _ _ _ _ _ (@pe_comp _ ["sign","reader"] [none,some 0] _ _ _ _ _ _ _ _ _ _ _ rfl (@pi_range1 _ _ _ _ _ _ rfl T.b_range (@pa_cons _ _ _ _ _ (pv 1) (@pa_nil _) (by rfl)) (by rfl)) (by rfl) rfl (by repeat (first | exact trivial | refine ⟨rfl,?_⟩)) (by repeat (first | exact trivial | refine ⟨fun h=>(by first | exact ⟨_,rfl⟩ | cases h),?_⟩)) (fun C s H fp=>⟨(@pg_name _ _ (0) _ (show (["sign","reader"]:List Str).Nodup by decide +kernel) rfl (by first | exact Or.inl rfl | exact Or.inr rfl) (by first | exact .inl rfl | exact .inr rfl | assumption)),(@pifs_nil _),(@pe_fn _ _ _ _ _ _ _ _ _ _ D_sign_of (hr.mono (by decide)) rfl (@pa_cons _ _ _ _ _ (@pe_mth _ _ _ _ _ _ _ _ _ _ _ _ _ _ (pv 1) T.cl_WordReader D_WordReader_word_to (hr.mono (by decide)) (@pa_cons _ _ _ _ _ (@pe_op _ _ _ _ _ _ _ _ op_sub (@pe_callB _ _ _ _ _ _ _ _ _ call_len_str (by rfl) T.b_len bt_len (@pa_cons _ _ _ _ _ (@pe_globS _ _ _ _ rfl T.c_SIGNS (by decide)) (@pa_nil _) (by rfl)) (by decide) (by decide) (by rfl) (by rfl)) (@pe_int _ _ _ _)) (@pa_nil _) (by rfl)) (by rfl) (by rfl) (by rfl)) (@pa_nil _) (by rfl)) (by decide) (by rfl) (by rfl))⟩) (by intro _; rfl)) (@pa_nil _) (by rfl)) (by rfl) (by rfl) (by rfl) (by rfl) (by rfl))))),?_⟩
  refine ⟨_,rfl,p,dx,_,rfl,h1,rfl,p,dx,wl,ws,k,_,400,rfl,h1,h2,g1,by omega,by omega,?_⟩
  refine ⟨rfl,_,rfl,(z.length:Int),rfl,by omega,by omega,?_⟩
  refine comp_st (xs:=(List.range ((z.length:Int)).toNat).map fun (i:Nat)=>V.int (0 + (i:Int))) (fun i ys l H'=>Kp (upd H p (.ins C_WordReader dx (flR wl ((k + 1:Nat):Int)))) H' p∧H' p = some (.ins C_WordReader dx (flR wl ((k + 1 + i:Nat):Int)))∧ys = ((cod z).take i).map fun c=>V.str ⟨#[c]⟩) (by rw [List.length_map,List.length_range]; omega) (fun i ys l H' _=>itr_go) (fun l hl=>⟨(Kp.refl _ p).new hl _,by rw [upd_ne (ne_of_none upd_same hl)]; exact upd_same,rfl⟩) (fun i x ys l H' R hx hl hl' hlen hI hR=>?_) fun l H1 ys n1 hl1 ly hI=>?_
  · obtain ⟨kp,hp,hy⟩:=hI
    have hi:i < z.length:=by
      have:=(List.getElem?_eq_some_iff.mp hx).1
      rw [List.length_map,List.length_range] at this
      omega
    obtain ⟨c,hc⟩:∃ c,(cod z)[i]? = some c:=⟨(cod z)[i]'(by omega),List.getElem?_eq_getElem _⟩
    obtain ⟨i0,i1,i2⟩:=idx_sg (zs c (List.mem_of_getElem? hc))
    have hw':H' wl = some (.lst (ws.map V.int)):=kp wl _ (by rw [upd_ne nwp]; exact h2) nwp
    have gx:ws[k + 1 + i]? = some (idx c):=by
      have:(ws.drop (k + 1))[i]? = some (idx c):=by
        rw [g2,List.getElem?_append_left (by rw [List.length_map]; omega),List.getElem?_map,hc]; rfl
      rw [List.getElem?_drop] at this
      exact this
    have npl:l≠p:=ne_of hl' hp (by intro z; cases z)
    refine ⟨_,rfl,p,dx,_,rfl,hp,rfl,SG,rfl,sg_len2,_,_,rfl,rfl,p,dx,wl,ws,k + 1 + i,idx c,_,rfl,hp,hw',gx,i0,?_,?_⟩
    · rw [sg_most]; omega
    refine ⟨idx c,rfl,i0,i1,hR _ _ (by rw [upd_ne npl]; exact hl') ⟨?_,?_,?_⟩⟩
    · exact (kp.trans (Kp.put _)).new hl _
    · rw [upd_ne npl.symm,upd_same]; rfl
    · rw [hy,List.take_add_one,hc,i2]; simp
  · obtain ⟨kp,hp,hy⟩:=hI
    have ez:z.length = ((List.range ((z.length:Int)).toNat).map fun (i:Nat)=>V.int (0 + (i:Int))).length:=by rw [List.length_map,List.length_range]; omega
    rw [← ez] at hp hy
    rw [List.take_of_length_le (by omega)] at hy
    have hy':ys = ((cod z).map fun c=>(⟨#[c]⟩:Str)).map V.str:=by rw [hy,List.map_map]; rfl
    rw [hy'] at hl1
    refine ⟨l,nilS,_,rfl,rfl,SqL.of hl1,?_,?_⟩
    · have:(((cod z).map fun c=>(⟨#[c]⟩:Str)).map (·.length)).sum≤(cod z).length:=by
        generalize cod z = l
        induction l with
        | nil=>exact Nat.le_refl _
        | cons c l ih=>
          simp only [List.map_cons,List.sum_cons,List.length_cons]
          have:(⟨#[c]⟩:Str).length = 1:=rfl
          omega
      have e0:nilS.length = 0:=rfl
      rw [e0]
      omega
    · have ej:PySem.Txt.join nilS ((cod z).map fun c=>(⟨#[c]⟩:Str)) = z:=by
        refine str_ext ?_
        rw [join_cod rfl,List.map_map]
        show ((cod z).map fun c=>[c]).flatten = _
        generalize cod z = l
        induction l with
        | nil=>rfl
        | cons c l ih=>rw [List.map_cons,List.flatten_cons,ih]; rfl
      rw [ej]
      exact q H1 ((Kp.put _).trans kp) hp
def sp_rt (n:Nat) (K:PySem.W.Frag) (C_WordReader:Addr):Sp:=fun vs H Q _=>∃ (p dx wl:Addr) (ws:List Int) (k:Nat) (t:Tr) (r:List Int),vs = [.ref p,.int (n:Int)]∧H p = some (.ins C_WordReader dx (flR wl k))∧H wl = some (.lst (ws.map V.int))∧ws.drop k = wT t ++ r∧isT n t = true∧
  ∀ v H',Kp H H' p→H' p = some (.ins C_WordReader dx (flR wl ((k + (wT t).length:Nat):Int)))→Rep NL H' t v→Q v H'
def sp_read_thing (K:PySem.W.Frag) (C_WordReader:Addr):Sp:=sp_rt 8 K C_WordReader
theorem rt_step (T:Txt K mg C_WordReader C_Boards XC) (F:Fun K "read_thing" "read_thing" s_read_thing f fd) (D_WordReader_word_to:MDef P w K mg base 3 C_WordReader "word_to" ["self","most"] (sp_WordReader_word_to K C_WordReader)) (D_read_text:Def P w K mg base 4 "read_text" ["reader"] (sp_read_text K C_WordReader)) (n:Nat) (D_read_thing:Def P w K mg base (4 + n) "read_thing" ["reader","deep"] (sp_rt n K C_WordReader)):FnOk P w K mg base CX0 (4 + n + 1) f fd ["reader","deep"] (sp_rt (n + 1) K C_WordReader):=by
  refine F.ok sc_read_thing (fun vs H Q E h=>?_) (fun cdv A outer s H vs Q E hr h=>?_)
  · obtain ⟨p,dx,wl,ws,k,t,r,rfl,_⟩:=h
    rfl
  obtain ⟨p,dx,wl,ws,k,t,r,rfl,h1,h2,hd,ht,q⟩:=h
  have nwp:wl≠p:=ne_of h2 h1 (by intro z; cases z)
  refine ⟨_,(@pss_cons _ _ _ _ _ (@ps_if _ _ _ _ _ _ _ _ (@pt_cmpR _ _ _ _ _ _ _ _ op_eq (pv 1) (@pe_int _ _ _ _) (nomark _)) (@pss_one _ _ _ (@ps_never _ _)) (@pss_nil _)) (@pss_cons _ _ _ _ _ (@ps_set _ _ (2) _ _ _ _ sc_read_thing.nd rfl (by first | exact Or.inl rfl | exact Or.inr rfl) (@pe_mth _ _ _ _ _ _ _ _ _ _ _ _ _ _ (pv 0) T.cl_WordReader D_WordReader_word_to (hr.mono (by omega)) (@pa_cons _ _ _ _ _ (@pe_globI _ _ _ _ rfl T.c_TUPLE_WORD (by decide)) (@pa_nil _) (by rfl)) (by rfl) (by rfl) (by rfl)) (by rfl) (by first | exact .inl rfl | exact .inr rfl | assumption)) (@pss_cons _ _ _ _ _ (@ps_if _ _ _ _ _ _ _ _ (@pt_cmpR _ _ _ _ _ _ _ _ op_eq (pv 2) (@pe_globI _ _ _ _ rfl T.c_NUMBER_WORD (by decide)) (nomark _)) (@pss_one _ _ _ (@ps_ret _ _ _ _ (@pe_mth _ _ _ _ _ _ _ _ _ _ _ _ _ _ (pv 0) T.cl_WordReader D_WordReader_word_to (hr.mono (by omega)) (@pa_cons _ _ _ _ _ (@pe_globI _ _ _ _ rfl T.c_MOST_NUMBER (by decide)) (@pa_nil _) (by rfl)) (by rfl) (by rfl) (by rfl)))) (@pss_nil _)) (@pss_cons _ _ _ _ _ (@ps_if _ _ _ _ _ _ _ _ (@pt_cmpR _ _ _ _ _ _ _ _ op_eq (pv 2) (@pe_globI _ _ _ _ rfl T.c_TEXT_WORD (by decide)) (nomark _)) (@pss_one _ _ _ (@ps_ret _ _ _ _ (@pe_fn _ _ _ _ _ _ _ _ _ _ D_read_text (hr.mono (by omega)) rfl (@pa_cons _ _ _ _ _ (pv 0) (@pa_nil _) (by rfl)) (by decide) (by rfl) (by rfl)))) (@pss_nil _)) (@pss_cons _ _ _ _ _ (@ps_set _ _ (3) _ _ _ _ sc_read_thing.nd rfl (by first | exact Or.inl rfl | exact Or.inr rfl) (@pe_mth _ _ _ _ _ _ _ _ _ _ _ _ _ _ (pv 0) T.cl_WordReader D_WordReader_word_to (hr.mono (by omega)) (@pa_cons _ _ _ _ _ (@pe_globI _ _ _ _ rfl T.c_MOST_PARTS (by decide)) (@pa_nil _) (by rfl)) (by rfl) (by rfl) (by rfl)) (by rfl) (by first | exact .inl rfl | exact .inr rfl | assumption)) (@pss_one _ _ _ (@ps_ret _ _ _ _ (@pe_callTy _ _ _ _ _ _ _ _ _ call_tuple_of (by rfl) T.b_tuple bt_tuple (@pa_cons _ _ _ _ _ (@pe_comp _ ["part","reader","deep"] [none,some 0,some 1] _ _ _ _ _ _ _ _ _ _ _ rfl (@pi_range1 _ _ _ _ _ _ rfl T.b_range (@pa_cons _ _ _ _ _ (pv 3) (@pa_nil _) (by rfl)) (by rfl)) (by rfl) rfl (by repeat (first | exact trivial | refine ⟨rfl,?_⟩)) (by repeat (first | exact trivial | refine ⟨fun h=>(by first | exact ⟨_,rfl⟩ | cases h),?_⟩)) (fun C s H fp=>⟨(@pg_name _ _ (0) _ (show (["part","reader","deep"]:List Str).Nodup by decide +kernel) rfl (by first | exact Or.inl rfl | exact Or.inr rfl) (by first | exact .inl rfl | exact .inr rfl | assumption)),(@pifs_nil _),(@pe_fn _ _ _ _ _ _ _ _ _ _ D_read_thing (hr.mono (by omega)) rfl (@pa_cons _ _ _ _ _ (pv 1) (@pa_cons _ _ _ _ _ (@pe_op _ _ _ _ _ _ _ _ op_sub (pv 2) (@pe_int _ _ _ _)) (@pa_nil _) (by rfl)) (by rfl)) (by decide) (by rfl) (by rfl))⟩) (by intro _; rfl)) (@pa_nil _) (by rfl)) (by decide) (by decide) (by rfl) (by rfl))))))))),?_⟩
  refine ⟨_,rfl,rfl,_,rfl,iteFc ?_ ?_⟩
  · rw [dec_int]; simp; omega
  have hw1:∀ o,upd H p o wl = some (.lst (ws.map V.int)):=fun o=>by rw [upd_ne nwp]; exact h2
  cases t with
  | int i=>
    have i01:(decide (0≤i) && decide (i≤999999999)) = true:=ht
    rw [Bool.and_eq_true,decide_eq_true_eq,decide_eq_true_eq] at i01
    obtain ⟨g1,g2⟩:=drop_get (r:=i :: r) hd
    obtain ⟨g3,_⟩:=drop_get g2
    refine ⟨_,rfl,p,dx,_,rfl,h1,rfl,p,dx,wl,ws,k,0,2,rfl,h1,h2,g1,by omega,by omega,?_⟩
    refine ⟨_,rfl,rfl,_,rfl,iteTc rfl ?_⟩
    refine ⟨_,rfl,p,dx,_,rfl,upd_same,rfl,p,dx,wl,ws,k + 1,i,999999999,rfl,upd_same,hw1 _,g3,i01.1,i01.2,?_⟩
    exact q _ _ ((Kp.put _).trans (Kp.put _)) upd_same rfl
  | str z=>
    obtain ⟨zl,zs⟩:=isT_str ht
    obtain ⟨g1,g2⟩:=drop_get (r:=(z.length:Int) :: ((cod z).map idx ++ r)) hd
    refine ⟨_,rfl,p,dx,_,rfl,h1,rfl,p,dx,wl,ws,k,1,2,rfl,h1,h2,g1,by omega,by omega,?_⟩
    refine ⟨_,rfl,rfl,_,rfl,iteFc rfl ?_⟩
    refine ⟨_,rfl,rfl,_,rfl,iteTc rfl ?_⟩
    refine ⟨_,rfl,p,dx,wl,ws,k + 1,z,r,rfl,upd_same,hw1 _,g2,zl,zs,fun H' kp hp=>?_⟩
    refine q _ _ ((Kp.put _).trans kp) ?_ rfl
    rw [hp,wT_str]
    have:k + 1 + 1 + z.length = k + (1 :: (z.length:Int) :: (cod z).map idx).length:=by
      simp only [List.length_cons,List.length_map,cod_len]; omega
    rw [this]
  | tup ts=>
    obtain ⟨tl,tt⟩:=isT_tup ht
    rw [wT_tup] at hd q
    obtain ⟨g1,g2⟩:=drop_get (r:=(ts.length:Int) :: (wTs ts ++ r)) hd
    obtain ⟨g3,g4⟩:=drop_get (r:=wTs ts ++ r) g2
    refine ⟨_,rfl,p,dx,_,rfl,h1,rfl,p,dx,wl,ws,k,2,2,rfl,h1,h2,g1,by omega,by omega,?_⟩
    refine ⟨_,rfl,rfl,_,rfl,iteFc rfl ?_⟩
    refine ⟨_,rfl,rfl,_,rfl,iteFc rfl ?_⟩
    refine ⟨_,rfl,p,dx,_,rfl,upd_same,rfl,p,dx,wl,ws,k + 1,_,100,rfl,upd_same,hw1 _,g3,by omega,by omega,?_⟩
    rw [upd_upd]
    refine ⟨_,rfl,(ts.length:Int),rfl,by omega,by omega,?_⟩
    refine comp_st (xs:=(List.range ((ts.length:Int)).toNat).map fun (i:Nat)=>V.int (0 + (i:Int))) (fun i ys l H'=>Kp (upd H p (.ins C_WordReader dx (flR wl ((k + 1 + 1:Nat):Int)))) H' p∧H' p = some (.ins C_WordReader dx (flR wl ((k + 2 + (wTs (ts.take i)).length:Nat):Int)))∧Reps NL H' (ts.take i) ys) (by rw [List.length_map,List.length_range]; omega) (fun i ys l H' _=>itr_go) (fun l hl=>⟨(Kp.refl _ p).new hl _,by rw [upd_ne (ne_of_none upd_same hl)]; exact upd_same,rfl⟩) (fun i x ys l H' R hx hl hl' hlen hI hR=>?_) fun l H1 ys n1 hl1 ly hI=>?_
    · obtain ⟨kp,hp,hrs⟩:=hI
      have hi:i < ts.length:=by
        have:=(List.getElem?_eq_some_iff.mp hx).1
        rw [List.length_map,List.length_range] at this
        omega
      obtain ⟨ti,eti⟩:∃ ti,ts[i]? = some ti:=⟨ts[i],List.getElem?_eq_getElem _⟩
      have hw':H' wl = some (.lst (ws.map V.int)):=kp wl _ (hw1 _) nwp
      have npl:l≠p:=ne_of hl' hp (by intro z; cases z)
      have gd:ws.drop (k + 2 + (wTs (ts.take i)).length) = wT ti ++ (wTs (ts.drop (i + 1)) ++ r):=by
        have e1:wTs ts = wTs (ts.take i) ++ (wT ti ++ wTs (ts.drop (i + 1))):=by
          have:=wTs_app (ts.take (i + 1)) (ts.drop (i + 1))
          rw [List.take_append_drop,wTs_take eti,List.append_assoc] at this
          exact this
        have e2:(ws.drop (k + 1 + 1)).drop (wTs (ts.take i)).length = wT ti ++ (wTs (ts.drop (i + 1)) ++ r):=by
          rw [g4,e1,List.append_assoc,List.append_assoc,List.drop_left]
        rw [List.drop_drop] at e2
        exact e2
      have ed:((n + 1:Nat):Int) - 1 = (n:Int):=by omega
      refine ⟨_,rfl,_,rfl,_,_,rfl,rfl,p,dx,wl,ws,_,ti,_,?_,hp,hw',gd,tt i ti eti,fun v H'' kp2 hp2 rv=>?_⟩
      · show [V.ref p,V.int (((n + 1:Nat):Int) - 1)] = _
        rw [ed]
      have hl2:H'' l = some (.lst ys):=kp2 l _ hl' npl
      have keepT:∀ c xs,H'' c = some (.tup xs)→upd H'' l (.lst (ys ++ [v])) c = some (.tup xs):=fun c xs e=>by rw [upd_ne (ne_of e hl2 (by intro z; cases z))]; exact e
      refine hR v H'' hl2 ⟨(kp.trans kp2).new hl _,?_,?_⟩
      · rw [upd_ne npl.symm,hp2,wTs_take eti,List.length_append,Nat.add_assoc]
      · rw [List.take_add_one,eti]
        refine Reps.append (reps_tup keepT _ _ (reps_tup (fun c xs e=>kp2 c _ e (ne_of e hp (by intro z; cases z))) _ _ hrs)) (Reps.one (rep_tup keepT _ _ rv))
    · obtain ⟨kp,hp,hrs⟩:=hI
      have ez:ts.length = ((List.range ((ts.length:Int)).toNat).map fun (i:Nat)=>V.int (0 + (i:Int))).length:=by rw [List.length_map,List.length_range]; omega
      rw [← ez,List.take_of_length_le (Nat.le_refl _)] at hp hrs
      refine ⟨l,ys,rfl,.inl ⟨SqL.of hl1,fun u hu=>?_⟩⟩
      have su:=same_new hu (.tup ys)
      refine q _ _ (((Kp.put _).trans kp).trans (Same.kp su p)) ?_ ⟨u,ys,rfl,upd_same,Reps.same su _ _ hrs⟩
      rw [su _ _ hp]
      have:k + 2 + (wTs ts).length = k + (2 :: (ts.length:Int) :: wTs ts).length:=by simp only [List.length_cons]; omega
      rw [this]
  | non=>cases n <;> cases ht
  | bl b=>cases n <;> cases ht
  | lst ts=>cases n <;> cases ht
theorem rt_all (T:Txt K mg C_WordReader C_Boards XC) (F:Fun K "read_thing" "read_thing" s_read_thing f fd) (D_WordReader_word_to:MDef P w K mg base 3 C_WordReader "word_to" ["self","most"] (sp_WordReader_word_to K C_WordReader)) (D_read_text:Def P w K mg base 4 "read_text" ["reader"] (sp_read_text K C_WordReader)) (hm:mg "read_thing" = some (.ref f)) (hk:PySem.W.keepIn K (.ref f) = true) (hb:Binds K fd ["reader","deep"] []):∀ n,FnOk P w K mg base CX0 (4 + n) f fd ["reader","deep"] (sp_rt n K C_WordReader)
  | 0=>by
    refine F.ok sc_read_thing (fun vs H Q E h=>?_) (fun cdv A outer s H vs Q E hr h=>?_)
    · obtain ⟨p,dx,wl,ws,k,t,r,rfl,_,_,_,ht,_⟩:=h
      cases ht
    · obtain ⟨p,dx,wl,ws,k,t,r,rfl,_,_,_,ht,_⟩:=h
      cases ht
  | n + 1=>rt_step T F D_WordReader_word_to D_read_text n ⟨f,fd,rt_all T F D_WordReader_word_to D_read_text hm hk hb n,hm,hk,hb⟩
theorem ok_read_thing (T:Txt K mg C_WordReader C_Boards XC) (F:Fun K "read_thing" "read_thing" s_read_thing f fd) (D_WordReader_word_to:MDef P w K mg base 3 C_WordReader "word_to" ["self","most"] (sp_WordReader_word_to K C_WordReader)) (D_read_text:Def P w K mg base 4 "read_text" ["reader"] (sp_read_text K C_WordReader)) (hm:mg "read_thing" = some (.ref f)) (hk:PySem.W.keepIn K (.ref f) = true) (hb:Binds K fd ["reader","deep"] []):FnOk P w K mg base CX0 12 f fd ["reader","deep"] (sp_read_thing K C_WordReader):=
  rt_all T F D_WordReader_word_to D_read_text hm hk hb 8
def sp_thing_of (K:PySem.W.Frag):Sp:=fun vs H Q _=>∃ (wl:Addr) (t:Tr),vs = [.ref wl]∧H wl = some (.lst ((wT t).map V.int))∧isT 8 t = true∧∀ v H',Same H H'→Rep NL H' t v→Q v H'
theorem ok_thing_of (T:Txt K mg C_WordReader C_Boards XC) (F:Fun K "thing_of" "thing_of" s_thing_of f fd) (D_WordReader_init:CDef P w K mg base 1 C_WordReader "WordReader" ["self","words"] (sp_WordReader_init K C_WordReader)) (D_read_thing:Def P w K mg base 12 "read_thing" ["reader","deep"] (sp_read_thing K C_WordReader)) (D_WordReader_is_through:MDef P w K mg base 1 C_WordReader "is_through" ["self"] (sp_WordReader_is_through K C_WordReader)):FnOk P w K mg base CX0 13 f fd ["words"] (sp_thing_of K):=by
  refine F.ok sc_thing_of (fun vs H Q E h=>?_) (fun cdv A outer s H vs Q E hr h=>?_)
  · obtain ⟨wl,t,rfl,_⟩:=h
    rfl
  obtain ⟨wl,t,rfl,hw,ht,q⟩:=h
  refine ⟨_,(@pss_cons _ _ _ _ _ (@ps_set _ _ (1) _ _ _ _ sc_thing_of.nd rfl (by first | exact Or.inl rfl | exact Or.inr rfl) (@pe_cls _ _ _ _ _ _ _ _ _ _ _ D_WordReader_init (hr.mono (by decide)) rfl (@pa_cons _ _ _ _ _ (pv 0) (@pa_nil _) (by rfl)) (by decide) (by rfl) (by rfl)) (by rfl) (by first | exact .inl rfl | exact .inr rfl | assumption)) (@pss_cons _ _ _ _ _ (@ps_set _ _ (2) _ _ _ _ sc_thing_of.nd rfl (by first | exact Or.inl rfl | exact Or.inr rfl) (@pe_fn _ _ _ _ _ _ _ _ _ _ D_read_thing (hr.mono (by decide)) rfl (@pa_cons _ _ _ _ _ (pv 1) (@pa_cons _ _ _ _ _ (@pe_globI _ _ _ _ rfl T.c_MOST_DEEP (by decide)) (@pa_nil _) (by rfl)) (by rfl)) (by decide) (by rfl) (by rfl)) (by rfl) (by first | exact .inl rfl | exact .inr rfl | assumption)) (@pss_cons _ _ _ _ _ (@ps_if _ _ _ _ _ _ _ _ (@pt_not _ _ _ _ (@pt_val _ _ _ (@pe_mth0 _ _ _ _ _ _ _ _ _ _ _ (pv 1) T.cl_WordReader D_WordReader_is_through (hr.mono (by decide)) (by rfl)) (by intro _; rfl))) (@pss_one _ _ _ (@ps_never _ _)) (@pss_nil _)) (@pss_one _ _ _ (@ps_ret _ _ _ _ (pv 2)))))),?_⟩
  refine ⟨_,rfl,?_⟩
  intro x dx nx ndx _
  have nwx:wl≠x:=ne_of_none hw nx
  have nwd:wl≠dx:=ne_of_none hw ndx
  refine ⟨x,dx,wl,rfl,upd_same,rfl,?_⟩
  rw [upd_upd]
  have hw1:∀ o,upd (upd H dx (.own x)) x o wl = some (.lst ((wT t).map V.int)):=fun o=>by rw [upd_ne nwx,upd_ne nwd]; exact hw
  refine ⟨_,rfl,x,dx,wl,wT t,0,t,[],rfl,upd_same,hw1 _,by simp,ht,fun v H' kp hp rv=>?_⟩
  have hw':H' wl = some (.lst ((wT t).map V.int)):=kp wl _ (hw1 _) nwx
  refine ⟨_,rfl,x,dx,_,rfl,hp,rfl,x,dx,wl,wT t,_,rfl,hp,hw',_,rfl,iteFc ?_ ?_⟩
  · simp
  refine ⟨_,rfl,q v H' (fun b o e=>?_) rv⟩
  have n1:=ne_of_none e nx
  exact kp b o (by rw [upd_ne n1,upd_ne (ne_of_none e ndx)]; exact e) n1
end
section
variable {P:Program} {w:World} {K:PySem.W.Frag} {mg:Str→Option Value} {base:Heap} {f C_WordReader C_Boards:Addr} {XC:Nat→Addr} {fd:FuncData}
abbrev Cel:=List (Int×List Int)
def putC (b:Cel) (k:Int) (row:List Int):Cel:=if (b.any fun x=>decide (x.1 = k)) = true then b.map (fun x=>if x.1 = k then (x.1,row) else x) else b ++ [(k,row)]
def getC (b:Cel) (k:Int):Option (List Int):=(b.find? fun x=>decide (x.1 = k)).map (·.2)
def CelR (H:Hp):Key×V→Int×List Int→Prop:=fun kv x=>kv.1 = Sum.inl x.1∧∃ r,kv.2 = .ref r∧H r = some (.lst (x.2.map V.int))
def CellsR (H:Hp) (kvs:List (Key×V)) (b:Cel):Prop:=Paired (CelR H) kvs b
theorem CellsR.same {H H':Hp} {kvs:List (Key×V)} {b:Cel} (r:CellsR H kvs b) (s:∀ a xs,H a = some (.lst xs)→H' a = some (.lst xs)):CellsR H' kvs b:=Paired.mapP r fun _ _ ⟨h1,a,h2,h3⟩=>⟨h1,a,h2,s _ _ h3⟩
theorem inl_dec (a k:Int):decide ((Sum.inl a:Key) = Sum.inl k) = decide (a = k):=by
  by_cases e:a = k
  · rw [e]; simp
  · rw [decide_eq_false e,decide_eq_false fun z=>e (Sum.inl.inj z)]
theorem CellsR.any {H:Hp} {kvs:List (Key×V)} {b:Cel} (r:CellsR H kvs b) (k:Int):(kvs.any fun kv=>decide (kv.1 = Sum.inl k)) = (b.any fun x=>decide (x.1 = k)):=by
  unfold CellsR at r
  induction r with
  | nil=>rfl
  | cons h t ih=>rw [List.any_cons,List.any_cons,ih,h.1,inl_dec]
theorem CellsR.put {H:Hp} {kvs:List (Key×V)} {b:Cel} (r:CellsR H kvs b) (k:Int) {l:Addr} {row:List Int} (hl:H l = some (.lst (row.map V.int))):CellsR H (putK kvs (Sum.inl k) (.ref l)) (putC b k row):=by
  unfold putK putC
  rw [r.any k]
  by_cases hc:(b.any fun x=>decide (x.1 = k)) = true
  · rw [if_pos hc,if_pos hc]
    clear hc
    unfold CellsR at r ⊢
    induction r with
    | nil=>exact .nil
    | @cons kv x ps qs h t ih=>
      rw [List.map_cons,List.map_cons]
      refine .cons ?_ ih
      by_cases e:x.1 = k
      · rw [if_pos (by rw [h.1,e]),if_pos e]
        exact ⟨h.1,l,rfl,hl⟩
      · rw [if_neg (by rw [h.1]; exact fun z=>e (Sum.inl.inj z)),if_neg e]
        exact h
  · rw [if_neg hc,if_neg hc]
    exact Paired.snoc r ⟨rfl,l,rfl,hl⟩
theorem CellsR.get {H:Hp} {kvs:List (Key×V)} {b:Cel} (r:CellsR H kvs b) (k:Int):(valV kvs (Sum.inl k) = none∧getC b k = none)∨∃ a row,valV kvs (Sum.inl k) = some (.ref a)∧getC b k = some row∧H a = some (.lst (row.map V.int)):=by
  unfold CellsR at r
  induction r with
  | nil=>exact .inl ⟨rfl,rfl⟩
  | @cons kv x ps qs h t ih=>
    obtain ⟨h1,a,h2,h3⟩:=h
    by_cases e:x.1 = k
    · refine .inr ⟨a,x.2,?_,?_,h3⟩
      · rw [valV_pos (by rw [h1,e]),h2]
      · unfold getC; rw [List.find?_cons,decide_eq_true e]; rfl
    · have g1:getC (x :: qs) k = getC qs k:=by unfold getC; rw [List.find?_cons,decide_eq_false e]
      have g2:valV (kv :: ps) (Sum.inl k) = valV ps (Sum.inl k):=valV_neg (by rw [h1]; exact fun z=>e (Sum.inl.inj z))
      rw [g1,g2]; exact ih
theorem CellsR.len {H:Hp} {kvs:List (Key×V)} {b:Cel} (r:CellsR H kvs b):kvs.length = b.length:=Paired.length r
theorem putC_len (b:Cel) (k:Int) (row:List Int):(putC b k row).length≤b.length + 1:=by
  unfold putC
  split
  · rw [List.length_map]; omega
  · rw [List.length_append]; show b.length + 1≤_; omega
theorem pair_mem {α β:Type} {F G:α→β→Prop}:∀ {l₁:List α} {l₂:List β},Paired F l₁ l₂→(∀ a∈l₁,∀ b,F a b→G a b)→Paired G l₁ l₂
  | _,_,.nil,_=>.nil
  | _,_,.cons r t,f=>.cons (f _ List.mem_cons_self _ r) (pair_mem t fun a ha=>f a (List.mem_cons_of_mem _ ha))
theorem pair_get1 {α β:Type} {F:α→β→Prop}:∀ {l₁:List α} {l₂:List β} {i:Nat} {a:α},Paired F l₁ l₂→l₁[i]? = some a→∃ b,l₂[i]? = some b∧F a b
  | _,_,_,_,.nil,e=>by simp at e
  | _,_,0,_,.cons r _,e=>by simp at e; subst e; exact ⟨_,rfl,r⟩
  | _,_,i + 1,a,.cons _ t,e=>by
    obtain ⟨b,h1,h2⟩:=pair_get1 (i:=i) (a:=a) t (by simpa using e)
    exact ⟨b,by simpa using h1,h2⟩
theorem putC_keys {b:Cel} {k:Int} {row:List Int} (h:(b.any fun x=>decide (x.1 = k)) = true):(putC b k row).map (·.1) = b.map (·.1):=by
  unfold putC
  rw [if_pos h,List.map_map]
  refine List.map_congr_left fun x _=>?_
  show (if x.1 = k then (x.1,row) else x).1 = x.1
  split <;> rfl
theorem putC_new {b:Cel} {k:Int} {row:List Int} (h:k ∉ b.map (·.1)):putC b k row = b ++ [(k,row)]:=by
  unfold putC
  rw [if_neg]
  intro z
  obtain ⟨x,hx,e⟩:=List.any_eq_true.mp z
  exact h (List.mem_map.mpr ⟨x,hx,of_decide_eq_true e⟩)
theorem putC_nodup {b:Cel} {k:Int} {row:List Int} (h:(b.map (·.1)).Nodup):((putC b k row).map (·.1)).Nodup:=by
  by_cases c:k∈b.map (·.1)
  · rw [putC_keys]
    · exact h
    · obtain ⟨x,hx,e⟩:=List.mem_map.mp c
      exact List.any_eq_true.mpr ⟨x,hx,decide_eq_true e⟩
  · rw [putC_new c,List.map_append,List.nodup_append]
    refine ⟨h,by simp,fun e he g hg=>?_⟩
    rw [show g = k by simpa using hg]
    intro z
    exact c (z ▸ he)
def BsR (H:Hp) (ds:List Addr) (bs:List Cel):Prop:=Paired (fun d b=>∃ kvs,H d = some (.dK kvs)∧CellsR H kvs b∧(b.map (·.1)).Nodup) ds bs
theorem BsR.same {H H':Hp} {ds:List Addr} {bs:List Cel} (r:BsR H ds bs) (s:∀ a xs,H a = some (.lst xs)→H' a = some (.lst xs)) (k:∀ d∈ds,∀ kvs,H d = some (.dK kvs)→H' d = some (.dK kvs)):BsR H' ds bs:=
  pair_mem r fun d hd _ ⟨kvs,h1,h2,h3⟩=>⟨kvs,k d hd kvs h1,h2.same s,h3⟩
theorem BsR.set {H H':Hp} {d:Addr} {b':Cel} (s:∀ a xs,H a = some (.lst xs)→H' a = some (.lst xs)) (hd:∃ kvs,H' d = some (.dK kvs)∧CellsR H' kvs b'∧(b'.map (·.1)).Nodup):∀ {ds:List Addr} {bs:List Cel},BsR H ds bs→ds.Nodup→(∀ e∈ds,e≠d→∀ kvs,H e = some (.dK kvs)→H' e = some (.dK kvs))→∀ {i:Nat},ds[i]? = some d→BsR H' ds (bs.set i b')
  | _,_,.nil,_,_,i,hi=>by simp at hi
  | _,_,.cons h t,nd,k,0,hi=>by
    simp at hi
    subst hi
    refine .cons hd (pair_mem t fun e he _ ⟨kvs,h1,h2,h3⟩=>⟨kvs,k e (List.mem_cons_of_mem _ he) (fun z=>(List.nodup_cons.mp nd).1 (z ▸ he)) kvs h1,h2.same s,h3⟩)
  | e :: es,_,.cons h t,nd,k,i + 1,hi=>by
    have hi':es[i]? = some d:=by simpa using hi
    obtain ⟨kvs,h1,h2,h3⟩:=h
    refine .cons ⟨kvs,k e List.mem_cons_self (fun z=>(List.nodup_cons.mp nd).1 (by rw [z]; exact List.mem_of_getElem? hi')) kvs h1,h2.same s,h3⟩ ?_
    exact BsR.set s hd t (List.nodup_cons.mp nd).2 (fun e' he'=>k e' (List.mem_cons_of_mem _ he')) hi'
def fldsB (s:Addr) (n:Int) (lf:V):List (Str×V):=[("shelves",.ref s),("writes",.int n),("writes_left",lf)]
theorem flds_w (s:Addr) (n y:Int) (lf:V):putF "writes" (.int y) (fldsB s n lf) = fldsB s y lf:=by
  unfold fldsB
  simp only [putF]
  rfl
theorem flds_l (s:Addr) (n:Int) (lf v:V):putF "writes_left" v (fldsB s n lf) = fldsB s n v:=by
  unfold fldsB
  simp only [putF]
  rfl
def BAt (C_Boards:Addr) (H:Hp) (p:Addr) (ds:List Addr) (bs:List Cel) (n:Int) (lf:V):Prop:=∃ dx s,H p = some (.ins C_Boards dx (fldsB s n lf))∧H s = some (.lst (ds.map V.ref))∧ds.Nodup∧BsR H ds bs
theorem BAt.len {C_Boards:Addr} {H:Hp} {p:Addr} {ds:List Addr} {bs:List Cel} {n:Int} {lf:V} (h:BAt C_Boards H p ds bs n lf):ds.length = bs.length:=by
  obtain ⟨_,_,_,_,_,r⟩:=h
  exact Paired.length r
def Kb (H H':Hp) (p:Addr) (ds:List Addr):Prop:=∀ b o,H b = some o→b≠p→b ∉ ds→H' b = some o
theorem BAt.kept {C_Boards:Addr} {H H':Hp} {p q:Addr} {ds es:List Addr} {bs:List Cel} {n:Int} {lf:V} {m:Int} {lf2:V} {cs:List Cel} (h:BAt C_Boards H q es bs n lf) (g:BAt C_Boards H p ds cs m lf2) (k:Kb H H' p ds) (hq:q≠p) (ha:∀ e∈es,e ∉ ds):BAt C_Boards H' q es bs n lf:=by
  obtain ⟨dx,s,h1,h2,h3,h4⟩:=h
  obtain ⟨dx2,s2,g1,g2,g3,g4⟩:=g
  have nd:∀ {b:Addr} {o:HO},H b = some o→(∀ kvs,o≠.dK kvs)→b ∉ ds:=fun {b o} e z hb=>by
    obtain ⟨i,hi,ei⟩:=List.getElem_of_mem hb
    obtain ⟨c,_,kvs,q1,_⟩:=pair_get1 (i:=i) g4 (by rw [List.getElem?_eq_getElem hi,ei])
    rw [e] at q1
    exact z kvs (Option.some.inj q1)
  refine ⟨dx,s,k q _ h1 hq (nd h1 (by intro kvs z; cases z)),k s _ h2 (ne_of h2 g1 (by intro z; cases z)) (nd h2 (by intro kvs z; cases z)),h3,h4.same (fun a xs e=>k a _ e (ne_of e g1 (by intro z; cases z)) (nd e (by intro kvs z; cases z))) fun d hd kvs e=>k d _ e (ne_of e g1 (by intro z; cases z)) (ha d hd)⟩
theorem BAt.same {C_Boards:Addr} {H H':Hp} {p:Addr} {ds:List Addr} {bs:List Cel} {n:Int} {lf:V} (h:BAt C_Boards H p ds bs n lf) (s:Same H H'):BAt C_Boards H' p ds bs n lf:=by
  obtain ⟨dx,s0,h1,h2,h3,h4⟩:=h
  exact ⟨dx,s0,s.get h1,s.get h2,h3,h4.same (fun a xs e=>s.get e) fun d _ kvs e=>s.get e⟩
theorem Same.kb {H H':Hp} (s:Same H H') (p:Addr) (ds:List Addr):Kb H H' p ds:=fun b o e _ _=>s b o e
theorem Kb.trans {H H1 H2:Hp} {p:Addr} {ds:List Addr} (a:Kb H H1 p ds) (b:Kb H1 H2 p ds):Kb H H2 p ds:=fun c o e h1 h2=>b c o (a c o e h1 h2) h1 h2
theorem BAt.notin {C_Boards:Addr} {H:Hp} {p:Addr} {ds:List Addr} {bs:List Cel} {n:Int} {lf:V} (g:BAt C_Boards H p ds bs n lf) {b:Addr} {o:HO} (e:H b = some o) (z:∀ kvs,o≠.dK kvs):b ∉ ds:=fun hb=>by
  obtain ⟨_,_,_,_,_,g4⟩:=g
  obtain ⟨i,hi,ei⟩:=List.getElem_of_mem hb
  obtain ⟨c,_,kvs,q1,_⟩:=pair_get1 (i:=i) g4 (by rw [List.getElem?_eq_getElem hi,ei])
  rw [e] at q1
  exact z kvs (Option.some.inj q1)
theorem BAt.there {C_Boards:Addr} {H:Hp} {p:Addr} {ds:List Addr} {bs:List Cel} {n:Int} {lf:V} (g:BAt C_Boards H p ds bs n lf):∀ d∈ds,∃ kvs,H d = some (.dK kvs):=fun d hb=>by
  obtain ⟨_,_,_,_,_,g4⟩:=g
  obtain ⟨i,hi,ei⟩:=List.getElem_of_mem hb
  obtain ⟨c,_,kvs,q1,_⟩:=pair_get1 (i:=i) g4 (by rw [List.getElem?_eq_getElem hi,ei])
  exact ⟨kvs,q1⟩
def sp_Boards_init (K:PySem.W.Frag) (C_Boards:Addr):Sp:=fun vs H Q _=>∃ (p dx:Addr) (m:Nat),vs = [.ref p,.int m]∧2≤m∧m≤4∧H p = some (.ins C_Boards dx [])∧∀ H' ds,BAt C_Boards H' p ds (List.replicate m []) 0 .non→(∀ d∈ds,H d = none)→(∀ b o,H b = some o→b≠p→H' b = some o)→Q .non H'
def sp_Boards_many (K:PySem.W.Frag) (C_Boards:Addr):Sp:=fun vs H Q _=>∃ p ds bs n lf,vs = [.ref p]∧BAt C_Boards H p ds bs n lf∧Q (.int (bs.length:Int)) H
def sp_Boards_written (K:PySem.W.Frag) (C_Boards:Addr):Sp:=fun vs H Q _=>∃ p ds bs n lf,vs = [.ref p]∧BAt C_Boards H p ds bs n lf∧Q (.int n) H
def sp_Boards_shelf (K:PySem.W.Frag) (C_Boards:Addr):Sp:=fun vs H Q _=>∃ p ds bs n lf,∃ (b:Nat),vs = [.ref p,.int (b:Int)]∧BAt C_Boards H p ds bs n lf∧b < bs.length∧∀ d,ds[b]? = some d→Q (.ref d) H
def lfDec:V→V
  | .int k=>.int (k - 1)
  | v=>v
def LfOk (lf:V):Prop:=lf = .non∨∃ k:Nat,lf = .int (k:Int)
def sp_Boards_write (K:PySem.W.Frag) (C_Boards:Addr) (XC:Nat→Addr):Sp:=fun vs H Q E=>∃ p ds bs n lf,∃ (b:Nat) (z:Int) (a:Addr) (row:List Int),vs = [.ref p,.int (b:Int),.int z,.ref a]∧BAt C_Boards H p ds bs n lf∧LfOk lf∧b < bs.length∧(∀ c∈bs,c.length < 1000)∧H a = some (.lst (row.map V.int))∧
  (lf = .int 0→E (.ref (XC 0)) none H)∧(lf≠.int 0→∀ H',BAt C_Boards H' p ds (bs.set b (putC (bs.getD b []) z row)) (n + 1) (lfDec lf)→Kb H H' p ds→Q .non H')
def sp_Boards_cell (K:PySem.W.Frag) (C_Boards:Addr):Sp:=fun vs H Q _=>∃ p ds bs n lf,∃ (b:Nat) (z:Int),vs = [.ref p,.int (b:Int),.int z]∧BAt C_Boards H p ds bs n lf∧b < bs.length∧(getC (bs.getD b []) z = none→Q .non H)∧
  ∀ row,getC (bs.getD b []) z = some row→∀ l,H l = none→Q (.ref l) (upd H l (.lst (row.map V.int)))
def sp_Boards_stop (K:PySem.W.Frag) (C_Boards:Addr):Sp:=fun vs H Q _=>∃ p ds bs n lf v,vs = [.ref p,v]∧BAt C_Boards H p ds bs n lf∧∀ H',BAt C_Boards H' p ds bs n v→Kb H H' p ds→Q .non H'
theorem ok_Boards_many (T:Txt K mg C_WordReader C_Boards XC) (F:Fun K "many" "Boards.many" s_Boards_many f fd):FnOk P w K mg base CX0 1 f fd ["self"] (sp_Boards_many K C_Boards):=by
  refine F.ok sc_Boards_many (fun vs H Q E h=>?_) (fun cdv A outer s H vs Q E hr h=>?_)
  · obtain ⟨p,ds,bs,n,lf,rfl,_⟩:=h
    rfl
  obtain ⟨p,ds,bs,n,lf,rfl,hB,q⟩:=h
  have hl:=hB.len
  obtain ⟨dx,s0,h1,h2,h3,h4⟩:=hB
  refine ⟨_,(@pss_one _ _ _ (@ps_ret _ _ _ _ (@pe_callB _ _ _ _ _ _ _ _ _ call_len_seq (by rfl) T.b_len bt_len (@pa_cons _ _ _ _ _ (@pe_fld _ _ _ _ _ (pv 0) rfl) (@pa_nil _) (by rfl)) (by decide) (by decide) (by rfl) (by rfl)))),?_⟩
  refine ⟨_,rfl,p,C_Boards,dx,_,_,rfl,h1,T.cl_Boards,T.n_Boards_shelves,rfl,s0,_,rfl,.inl (SqL.of h2),?_⟩
  rw [List.length_map,hl]
  exact q
theorem ok_Boards_written (T:Txt K mg C_WordReader C_Boards XC) (F:Fun K "written" "Boards.written" s_Boards_written f fd):FnOk P w K mg base CX0 1 f fd ["self"] (sp_Boards_written K C_Boards):=by
  refine F.ok sc_Boards_written (fun vs H Q E h=>?_) (fun cdv A outer s H vs Q E hr h=>?_)
  · obtain ⟨p,ds,bs,n,lf,rfl,_⟩:=h
    rfl
  obtain ⟨p,ds,bs,n,lf,rfl,hB,q⟩:=h
  obtain ⟨dx,s0,h1,h2,h3,h4⟩:=hB
  refine ⟨_,(@pss_one _ _ _ (@ps_ret _ _ _ _ (@pe_fld _ _ _ _ _ (pv 0) rfl))),?_⟩
  exact ⟨_,rfl,p,C_Boards,dx,_,_,rfl,h1,T.cl_Boards,T.n_Boards_writes,rfl,q⟩
theorem ok_Boards_shelf (T:Txt K mg C_WordReader C_Boards XC) (F:Fun K "shelf" "Boards.shelf" s_Boards_shelf f fd) (D_is_between:Def P w K mg base 2 "is_between" ["thing","least","most"] (sp_is_between K)) (D_Boards_many:MDef P w K mg base 1 C_Boards "many" ["self"] (sp_Boards_many K C_Boards)):FnOk P w K mg base CX0 3 f fd ["self","board"] (sp_Boards_shelf K C_Boards):=by
  refine F.ok sc_Boards_shelf (fun vs H Q E h=>?_) (fun cdv A outer s H vs Q E hr h=>?_)
  · obtain ⟨p,ds,bs,n,lf,b,rfl,_⟩:=h
    rfl
  obtain ⟨p,ds,bs,n,lf,b,rfl,hB,b1,q⟩:=h
  have hl:=hB.len
  obtain ⟨dx,s0,h1,h2,h3,h4⟩:=id hB
  refine ⟨_,(@pss_cons _ _ _ _ _ (@ps_if _ _ _ _ _ _ _ _ (@pt_not _ _ _ _ (@pt_val _ _ _ (@pe_fn _ _ _ _ _ _ _ _ _ _ D_is_between (hr.mono (by decide)) rfl (@pa_cons _ _ _ _ _ (pv 1) (@pa_cons _ _ _ _ _ (@pe_int _ _ _ _) (@pa_cons _ _ _ _ _ (@pe_op _ _ _ _ _ _ _ _ op_sub (@pe_mth0 _ _ _ _ _ _ _ _ _ _ _ (pv 0) T.cl_Boards D_Boards_many (hr.mono (by decide)) (by rfl)) (@pe_int _ _ _ _)) (@pa_nil _) (by rfl)) (by rfl)) (by rfl)) (by decide) (by rfl) (by rfl)) (by intro _; rfl))) (@pss_one _ _ _ (@ps_never _ _)) (@pss_nil _)) (@pss_one _ _ _ (@ps_ret _ _ _ _ (@pe_ix _ _ _ _ _ _ _ ix_list (@pe_fld _ _ _ _ _ (pv 0) rfl) (pv 1) (fun _ _=>rfl))))),?_⟩
  refine ⟨_,rfl,_,rfl,p,dx,_,rfl,h1,rfl,p,ds,bs,n,lf,rfl,hB,_,_,rfl,rfl,.int (b:Int),0,_,rfl,trivial,_,rfl,iteFc ?_ ?_⟩
  · show (!(decide ((0:Int)≤(b:Int)) && decide ((b:Int)≤(bs.length:Int) - 1))) = false
    rw [decide_eq_true (show (0:Int)≤(b:Int) by omega),decide_eq_true (show (b:Int)≤(bs.length:Int) - 1 by omega)]; rfl
  have hk:b < ds.length:=by omega
  exact ⟨_,rfl,p,C_Boards,dx,_,_,rfl,h1,T.cl_Boards,T.n_Boards_shelves,rfl,_,rfl,s0,_,_,_,rfl,rfl,SqL.of h2,atI_nat (j:=b) (by rw [List.getElem?_map,List.getElem?_eq_getElem hk]; rfl),q _ (List.getElem?_eq_getElem hk)⟩
theorem bat_put {H H':Hp} {p dx s0 l:Addr} {ds:List Addr} {bs:List Cel} {n y:Int} {lf lf2:V} {b:Nat} {d:Addr} {z:Int} {row:List Int} {kvs:List (Key×V)} (h1:H p = some (.ins C_Boards dx (fldsB s0 n lf))) (h2:H s0 = some (.lst (ds.map V.ref))) (h3:ds.Nodup) (h4:BsR H ds bs) (hb:ds[b]? = some d) (hd:H d = some (.dK kvs))
    (hl:H l = none) (e:H' = upd (upd (upd H p (.ins C_Boards dx (fldsB s0 y lf2))) l (.lst (row.map V.int))) d (.dK (putK kvs (Sum.inl z) (.ref l)))):BAt C_Boards H' p ds (bs.set b (putC (bs.getD b []) z row)) y lf2∧Kb H H' p ds:=by
  have npd:p≠d:=ne_of h1 hd (by intro z; cases z)
  have nld:l≠d:=fun z=>by rw [z,hd] at hl; cases hl
  have nlp:l≠p:=fun z=>by rw [z,h1] at hl; cases hl
  have lists:∀ a xs,H a = some (.lst xs)→H' a = some (.lst xs):=fun a xs q=>by
    rw [e,upd_ne (ne_of q hd (by intro z; cases z)),upd_ne (ne_of_none q hl),upd_ne (ne_of q h1 (by intro z; cases z))]; exact q
  have hl':H' l = some (.lst (row.map V.int)):=by rw [e,upd_ne nld,upd_same]
  obtain ⟨b0,g1,kvs0,g2,g3,g5⟩:=pair_get1 h4 hb
  rw [hd] at g2
  cases g2
  have eb:bs.getD b [] = b0:=by simp [List.getD,g1]
  refine ⟨⟨dx,s0,?_,lists _ _ h2,h3,?_⟩,fun c o q hc hcd=>?_⟩
  · rw [e,upd_ne npd,upd_ne nlp.symm,upd_same]
  · rw [eb]
    refine BsR.set lists ⟨_,by rw [e,upd_same],(g3.same lists).put z hl',putC_nodup g5⟩ h4 h3 (fun e' he' ne' kvs' q=>?_) hb
    rw [e,upd_ne ne',upd_ne (ne_of_none q hl),upd_ne (ne_of q h1 (by intro z; cases z))]; exact q
  · rw [e,upd_ne (fun z=>hcd (by rw [z]; exact List.mem_of_getElem? hb)),upd_ne (ne_of_none q hl),upd_ne hc]; exact q
theorem ok_Boards_write (T:Txt K mg C_WordReader C_Boards XC) (F:Fun K "write" "Boards.write" s_Boards_write f fd) (D_Boards_shelf:MDef P w K mg base 3 C_Boards "shelf" ["self","board"] (sp_Boards_shelf K C_Boards)):FnOk P w K mg base (CXd P w) 4 f fd ["self","board","number","row"] (sp_Boards_write K C_Boards XC):=by
  refine F.okX sc_Boards_write (fun vs H Q E h=>?_) (fun cdv A outer s H vs Q E hr h=>?_)
  · obtain ⟨p,ds,bs,n,lf,b,z,a,row,rfl,_⟩:=h
    rfl
  obtain ⟨p,ds,bs,n,lf,b,z,a,row,rfl,hB,lok,b1,b2,ha,qE,q⟩:=h
  have hl:=hB.len
  obtain ⟨dx,s0,h1,h2,h3,h4⟩:=id hB
  have hu:=hu_of hr
  refine ⟨_,(@pss_cons _ _ _ _ _ (@ps_set _ _ (4) _ _ _ _ sc_Boards_write.nd rfl (by first | exact Or.inl rfl | exact Or.inr rfl) (@pe_mth _ _ _ _ _ _ _ _ _ _ _ _ _ _ (pv 0) T.cl_Boards D_Boards_shelf (hr.mono (by decide)) (@pa_cons _ _ _ _ _ (pv 1) (@pa_nil _) (by rfl)) (by rfl) (by rfl) (by rfl)) (by rfl) (by first | exact .inl rfl | exact .inr rfl | assumption)) (@pss_cons _ _ _ _ _ (@ps_if _ _ _ _ _ _ _ _ (@pt_cmpR _ _ _ _ _ _ _ _ op_eq (@pe_fld _ _ _ _ _ (pv 0) rfl) (@pe_int _ _ _ _) (nomark _)) (@pss_one _ _ _ (@ps_raise0 _ _ _ _ _ _ _ raise_up rfl T.x_Stopped T.q_Stopped rfl (by decide))) (@pss_nil _)) (@pss_cons _ _ _ _ _ (@ps_if _ _ _ _ _ _ _ _ (@pt_cmp _ _ _ _ _ _ (@pc_notN _ _ _ _ _ (@pe_fld _ _ _ _ _ (pv 0) rfl)) (by first | exact nobehind _ (by decide) (by decide) | rfl)) (@pss_one _ _ _ (@ps_fldaug _ _ _ _ _ _ _ _ _ _ (pv 0) (@pe_int _ _ _ _) iop_sub)) (@pss_nil _)) (@pss_cons _ _ _ _ _ (@ps_fldaug _ _ _ _ _ _ _ _ _ _ (pv 0) (@pe_int _ _ _ _) iop_add) (@pss_one _ _ _ (@ps_dput _ _ _ _ _ _ _ _ _ hu (pv 4) (pv 2) (@pe_callTy _ _ _ _ _ _ _ _ _ call_list_of (by rfl) T.b_list bt_list (@pa_cons _ _ _ _ _ (pv 3) (@pa_nil _) (by rfl)) (by decide) (by decide) (by rfl) (by rfl)) rfl)))))),?_⟩
  dsimp only [cxOf]
  refine ⟨_,rfl,p,dx,_,rfl,h1,rfl,_,rfl,p,ds,bs,n,lf,b,rfl,hB,b1,fun d hd=>?_⟩
  obtain ⟨c0,g1,kvs,e1,g3,g5⟩:=pair_get1 h4 hd
  have npd:p≠d:=ne_of h1 e1 (by intro z; cases z)
  have npa:a≠p:=ne_of ha h1 (by intro z; cases z)
  have kl:kvs.length < 1000:=by rw [g3.len]; exact b2 _ (List.mem_of_getElem? g1)
  dsimp only
  refine seq_mid (fun σ' H'=>σ' = [some (.ref p),some (.int (b:Int)),some (.int z),some (.ref a),some (.ref d)]∧H' = H∧lf≠.int 0) (fun N hN=>?_) ?_
  · refine ⟨_,rfl,p,C_Boards,dx,_,_,rfl,h1,T.cl_Boards,T.n_Boards_writes_left,rfl,?_⟩
    rcases lok with rfl | ⟨k,rfl⟩
    · exact ⟨rfl,_,rfl,iteFc rfl (hN _ _ ⟨rfl,rfl,by intro z; cases z⟩)⟩
    · refine ⟨rfl,_,rfl,ite2 (fun c=>?_) (fun c=>?_)⟩
      · have c':V.int (k:Int) = V.int 0:=dec_true c
        exact qE c'
      · exact hN _ _ ⟨rfl,rfl,dec_false c⟩
  rintro σ' H' ⟨rfl,rfl,lne⟩
  refine seq_mid (fun σ' H2=>σ' = [some (.ref p),some (.int (b:Int)),some (.int z),some (.ref a),some (.ref d)]∧H2 = upd H' p (.ins C_Boards dx (fldsB s0 n (lfDec lf)))) (fun N hN=>?_) ?_
  · refine ⟨_,rfl,p,C_Boards,dx,_,_,rfl,h1,T.cl_Boards,T.n_Boards_writes_left,rfl,?_⟩
    rcases lok with rfl | ⟨k,rfl⟩
    · refine ⟨_,rfl,iteFc rfl (hN _ _ ⟨rfl,?_⟩)⟩
      funext c
      by_cases e:c = p
      · rw [e,upd_same]; exact h1
      · rw [upd_ne e]
    · refine ⟨_,rfl,iteTc rfl ?_⟩
      refine ⟨_,rfl,p,C_Boards,dx,_,_,rfl,h1,T.cl_Boards,T.n_Boards_writes_left,rfl,_,_,rfl,rfl,dx,_,h1,(by show 3 < 1000; decide),hN _ _ ⟨rfl,?_⟩⟩
      rw [flds_l]; rfl
  rintro σ' H2 ⟨rfl,rfl⟩
  have ap:upd H' p (.ins C_Boards dx (fldsB s0 n (lfDec lf))) p = some (.ins C_Boards dx (fldsB s0 n (lfDec lf))):=upd_same
  refine ⟨_,rfl,p,C_Boards,dx,_,_,rfl,ap,T.cl_Boards,T.n_Boards_writes,rfl,_,_,rfl,rfl,dx,_,ap,(by show 3 < 1000; decide),?_⟩
  rw [upd_upd,flds_w]
  refine ⟨_,rfl,a,_,rfl,.inl (SqL.of (by rw [upd_ne npa]; exact ha)),fun l hl0=>?_⟩
  have nlp:l≠p:=fun z=>by rw [z,upd_same] at hl0; cases hl0
  have hlH:H' l = none:=by rw [upd_ne nlp] at hl0; exact hl0
  have ndl:d≠l:=ne_of_none e1 hlH
  refine ⟨_,rfl,_,rfl,d,_,rfl,DPut.k (k:=Sum.inl z) (by rw [upd_ne ndl,upd_ne npd.symm]; exact e1) (small1000 (by omega)),?_⟩
  obtain ⟨x1,x2⟩:=bat_put (C_Boards:=C_Boards) (y:=n + 1) (lf2:=lfDec lf) (row:=row) (z:=z) h1 h2 h3 h4 hd e1 hlH rfl
  exact q lne _ x1 x2
theorem ok_Boards_cell (T:Txt K mg C_WordReader C_Boards XC) (F:Fun K "cell" "Boards.cell" s_Boards_cell f fd) (D_Boards_shelf:MDef P w K mg base 3 C_Boards "shelf" ["self","board"] (sp_Boards_shelf K C_Boards)):FnOk P w K mg base CX0 4 f fd ["self","board","number"] (sp_Boards_cell K C_Boards):=by
  refine F.ok sc_Boards_cell (fun vs H Q E h=>?_) (fun cdv A outer s H vs Q E hr h=>?_)
  · obtain ⟨p,ds,bs,n,lf,b,z,rfl,_⟩:=h
    rfl
  obtain ⟨p,ds,bs,n,lf,b,z,rfl,hB,b1,q0,q1⟩:=h
  obtain ⟨dx,s0,h1,h2,h3,h4⟩:=id hB
  have hu:=hu_of hr
  refine ⟨_,(@pss_cons _ _ _ _ _ (@ps_set _ _ (3) _ _ _ _ sc_Boards_cell.nd rfl (by first | exact Or.inl rfl | exact Or.inr rfl) (@pe_dget1 _ _ _ _ _ _ _ hu (@pe_mth _ _ _ _ _ _ _ _ _ _ _ _ _ _ (pv 0) T.cl_Boards D_Boards_shelf (hr.mono (by decide)) (@pa_cons _ _ _ _ _ (pv 1) (@pa_nil _) (by rfl)) (by rfl) (by rfl) (by rfl)) (pv 2) ⟨rfl,rfl,rfl,rfl⟩) (by rfl) (by first | exact .inl rfl | exact .inr rfl | assumption)) (@pss_cons _ _ _ _ _ (@ps_if _ _ _ _ _ _ _ _ (@pt_cmp _ _ _ _ _ _ (@pc_isN _ _ _ _ _ (pv 3)) (by first | exact nobehind _ (by decide) (by decide) | rfl)) (@pss_one _ _ _ (@ps_ret _ _ _ _ (@pe_non _ _ _))) (@pss_nil _)) (@pss_one _ _ _ (@ps_ret _ _ _ _ (@pe_callTy _ _ _ _ _ _ _ _ _ call_list_of (by rfl) T.b_list bt_list (@pa_cons _ _ _ _ _ (pv 3) (@pa_nil _) (by rfl)) (by decide) (by decide) (by rfl) (by rfl)))))),?_⟩
  try dsimp only [cxOf,Cx.nox,Cx.wish]
  refine ⟨_,rfl,p,dx,_,rfl,h1,rfl,_,rfl,p,ds,bs,n,lf,b,rfl,hB,b1,fun d hd=>?_⟩
  obtain ⟨c0,g1,kvs,e1,g3,g5⟩:=pair_get1 h4 hd
  have eb:bs.getD b [] = c0:=by simp [List.getD,g1]
  rw [eb] at q0 q1
  refine ⟨d,rfl,.inl ⟨kvs,.inl e1⟩,_,rfl,_,DGet.k (k:=Sum.inl z) e1,?_⟩
  rcases g3.get z with ⟨v1,v2⟩ | ⟨a,row,v1,v2,v3⟩
  · rw [v1]
    exact ⟨_,rfl,_,rfl,iteTc rfl (q0 v2)⟩
  · rw [v1]
    refine ⟨_,rfl,_,rfl,iteFc rfl ?_⟩
    exact ⟨_,rfl,a,_,rfl,.inl (SqL.of v3),fun l hl=>q1 row v2 l hl⟩
theorem ok_Boards_stop (T:Txt K mg C_WordReader C_Boards XC) (F:Fun K "stop" "Boards.stop" s_Boards_stop f fd):FnOk P w K mg base CX0 1 f fd ["self","many"] (sp_Boards_stop K C_Boards):=by
  refine F.ok sc_Boards_stop (fun vs H Q E h=>?_) (fun cdv A outer s H vs Q E hr h=>?_)
  · obtain ⟨p,ds,bs,n,lf,v,rfl,_⟩:=h
    rfl
  obtain ⟨p,ds,bs,n,lf,v,rfl,hB,q⟩:=h
  obtain ⟨dx,s0,h1,h2,h3,h4⟩:=id hB
  refine ⟨_,(@pss_one _ _ _ (@ps_fld _ _ _ _ _ _ _ _ (pv 0) (pv 1) rfl)),?_⟩
  refine ⟨_,rfl,_,rfl,p,C_Boards,dx,_,rfl,h1,T.cl_Boards,T.n_Boards_writes_left,(by show 3 < 1000; decide),?_⟩
  rw [flds_l]
  refine q _ ⟨dx,s0,upd_same,by rw [upd_ne (ne_of h2 h1 (by intro z; cases z))]; exact h2,h3,h4.same (fun a xs e=>by rw [upd_ne (ne_of e h1 (by intro z; cases z))]; exact e) fun d _ kvs e=>by rw [upd_ne (ne_of e h1 (by intro z; cases z))]; exact e⟩ fun c o e hc _=>by rw [upd_ne hc]; exact e
theorem ok_Boards_init (T:Txt K mg C_WordReader C_Boards XC) (F:Fun K "__init__" "Boards.__init__" s_Boards_init f fd) (D_is_between:Def P w K mg base 2 "is_between" ["thing","least","most"] (sp_is_between K)):FnOk P w K mg base CX0 3 f fd ["self","many"] (sp_Boards_init K C_Boards):=by
  refine F.ok sc_Boards_init (fun vs H Q E h=>?_) (fun cdv A outer s H vs Q E hr h=>?_)
  · obtain ⟨p,dx,m,rfl,_⟩:=h
    rfl
  obtain ⟨p,dx,m,rfl,m1,m2,h1,q⟩:=h
  refine ⟨_,(@pss_cons _ _ _ _ _ (@ps_if _ _ _ _ _ _ _ _ (@pt_not _ _ _ _ (@pt_val _ _ _ (@pe_fn _ _ _ _ _ _ _ _ _ _ D_is_between (hr.mono (by decide)) rfl (@pa_cons _ _ _ _ _ (pv 1) (@pa_cons _ _ _ _ _ (@pe_globI _ _ _ _ rfl T.c_LEAST_BOARDS (by decide)) (@pa_cons _ _ _ _ _ (@pe_globI _ _ _ _ rfl T.c_MOST_BOARDS (by decide)) (@pa_nil _) (by rfl)) (by rfl)) (by rfl)) (by decide) (by rfl) (by rfl)) (by intro _; rfl))) (@pss_one _ _ _ (@ps_never _ _)) (@pss_nil _)) (@pss_cons _ _ _ _ _ (@ps_fld _ _ _ _ _ _ _ _ (pv 0) (@pe_comp0 _ ["board"] _ _ _ _ _ _ _ _ _ _ rfl (@pi_range1 _ _ _ _ _ _ rfl T.b_range (@pa_cons _ _ _ _ _ (pv 1) (@pa_nil _) (by rfl)) (by rfl)) (by decide +kernel) (fun C s H fp=>⟨(@pg_name _ _ (0) _ (show (["board"]:List Str).Nodup by decide +kernel) rfl (by first | exact Or.inl rfl | exact Or.inr rfl) (by first | exact .inl rfl | exact .inr rfl | assumption)),(@pifs_nil _),(@pe_dnewK _ _)⟩) (by intro _; rfl)) rfl) (@pss_cons _ _ _ _ _ (@ps_fld _ _ _ _ _ _ _ _ (pv 0) (@pe_int _ _ _ _) rfl) (@pss_one _ _ _ (@ps_fld _ _ _ _ _ _ _ _ (pv 0) (@pe_non _ _ _) rfl))))),?_⟩
  try dsimp only [cxOf,Cx.nox,Cx.wish]
  refine ⟨_,rfl,.int m,2,4,rfl,trivial,_,rfl,iteFc ?_ ?_⟩
  · show (!(decide ((2:Int)≤(m:Int)) && decide ((m:Int)≤4))) = false
    rw [decide_eq_true (show (2:Int)≤(m:Int) by omega),decide_eq_true (show (m:Int)≤4 by omega)]; rfl
  refine ⟨_,rfl,m,rfl,by omega,by omega,?_⟩
  refine comp_st (xs:=(List.range (m:Int).toNat).map fun (i:Nat)=>V.int (0 + (i:Int))) (fun i ys l H'=>Same H H'∧∃ ds:List Addr,ys = ds.map V.ref∧ds.Nodup∧∀ d∈ds,H' d = some (.dK [])∧H d = none) (by rw [List.length_map,List.length_range]; omega) (fun i ys l H' _=>itr_go) (fun l hl=>⟨same_new hl _,[],rfl,List.nodup_nil,fun _ h=>nomatch h⟩) (fun i x ys l H' R hx hl hl' hlen hI hR d hd=>?_) fun l H1 ys hl hl1 ly hI=>?_
  · obtain ⟨s',ds,rfl,nd,hds⟩:=hI
    have nld:l≠d:=ne_of_none hl' hd
    refine hR _ _ (by rw [upd_ne nld]; exact hl') ⟨same_upd (same_upd s' (s'.free hd) _) hl _,ds ++ [d],by rw [List.map_append]; rfl,?_,fun e he=>?_⟩
    · rw [List.nodup_append]
      refine ⟨nd,by simp,fun e he g hg=>?_⟩
      rw [List.mem_singleton.mp hg]
      intro z
      have:=(hds e he).1
      rw [z,hd] at this
      cases this
    · have nel:∀ {o},H' e = some (.dK o)→e≠l:=fun q=>ne_of q hl' (by intro z; cases z)
      rcases List.mem_append.mp he with he | he
      · obtain ⟨g1,g2⟩:=hds e he
        exact ⟨by rw [upd_ne (nel g1),upd_ne (ne_of_none g1 hd)]; exact g1,g2⟩
      · rw [List.mem_singleton.mp he]
        exact ⟨by rw [upd_ne nld.symm,upd_same],s'.free hd⟩
  obtain ⟨s1,ds,rfl,nd,hds⟩:=hI
  have lds:ds.length = m:=by rw [List.length_map,List.length_map,List.length_range] at ly; omega
  have p1:=s1.get h1
  have npl:l≠p:=ne_of hl1 p1 (by intro z; cases z)
  refine ⟨_,rfl,p,C_Boards,dx,[],rfl,p1,T.cl_Boards,T.n_Boards_shelves,(by show 0 < 1000; decide),?_⟩
  refine ⟨_,rfl,p,C_Boards,dx,_,rfl,upd_same,T.cl_Boards,T.n_Boards_writes,(by show 1 < 1000; decide),?_⟩
  refine ⟨_,rfl,p,C_Boards,dx,_,rfl,upd_same,T.cl_Boards,T.n_Boards_writes_left,(by show 2 < 1000; decide),?_⟩
  rw [upd_upd,upd_upd]
  refine q _ ds ⟨dx,l,upd_same,by rw [upd_ne npl]; exact hl1,nd,?_⟩ (fun d hd=>(hds d hd).2) fun b o e hb=>?_
  · have all:∀ (es:List Addr),(∀ d∈es,d∈ds)→BsR (upd H1 p (.ins C_Boards dx (putF "writes_left" V.non (putF "writes" (V.int 0) (putF "shelves" (V.ref l) []))))) es (List.replicate es.length []):=by
      intro es
      induction es with
      | nil=>intro _; exact .nil
      | cons d es ih=>
        intro hm
        refine .cons ⟨[],?_,.nil,List.nodup_nil⟩ (ih fun e he=>hm e (List.mem_cons_of_mem _ he))
        have:=(hds d (hm d List.mem_cons_self)).1
        rw [upd_ne (ne_of this p1 (by intro z; cases z))]; exact this
    have:=all ds fun _ h=>h
    rw [lds] at this
    exact this
  · rw [upd_ne hb]; exact s1.get e
end
section
variable {P:Program} {w:World} {K:PySem.W.Frag} {mg:Str→Option Value} {base:Heap} {f C_WordReader C_Boards:Addr} {XC:Nat→Addr} {fd:FuncData}
abbrev Tg:=Int×Int×Int
structure En where
  nm:Str
  kd:Int
  tg:Tg
inductive Bk where
  | piece (z:Str)
  | row (lv:Int) (ts:List Tg)
  | folder (es:List En)
def tgT (t:Tg):Tr:=.tup [.int t.1,.int t.2.1,.int t.2.2]
def enT (e:En):Tr:=.tup [.str e.nm,.int e.kd,tgT e.tg]
def bkT:Bk→Tr
  | .piece z=>.tup [.int 0,.str z]
  | .row lv ts=>.tup [.int 1,.int lv,.tup (ts.map tgT)]
  | .folder es=>.tup [.int 2,.tup (es.map enT)]
def tgOk (t:Tg):Prop:=(1≤t.1∧t.1≤999999)∧(0≤t.2.1∧t.2.1≤999999999)∧0≤t.2.2∧t.2.2≤996
def enOk (e:En):Prop:=nameB (.str e.nm) = true∧(1≤e.kd∧e.kd≤2)∧tgOk e.tg
def rowOk (lv:Int) (ts:List Tg):Prop:=ts.length≤8∧(1 < lv→ts≠[])∧∀ t∈ts,tgOk t
def folOk (es:List En):Prop:=es.length≤16∧(∀ e∈es,enOk e)∧PyProof.Rows.sortedS (es.map (·.nm)) = true∧(es.map (·.nm)).Nodup
def bkOk:Bk→Prop
  | .piece z=>textB 1 8 (.str z) = true
  | .row lv ts=>(1≤lv∧lv≤9)∧rowOk lv ts
  | .folder es=>folOk es
theorem rep_tg {H:Hp} {t:Tg} {v:V} (h:Rep NL H (tgT t) v):∃ a,v = .ref a∧H a = some (.tup [.int t.1,.int t.2.1,.int t.2.2]):=by
  obtain ⟨a,vs,rfl,e,x1,u1,rfl,rfl,x2,u2,rfl,rfl,x3,u3,rfl,rfl,rfl⟩:=h
  exact ⟨a,rfl,e⟩
theorem tg_rep {H:Hp} {t:Tg} {a:Addr} (e:H a = some (.tup [.int t.1,.int t.2.1,.int t.2.2])):Rep NL H (tgT t) (.ref a):=⟨a,_,rfl,e,_,_,rfl,rfl,_,_,rfl,rfl,_,_,rfl,rfl,rfl⟩
theorem rep_en {H:Hp} {x:En} {v:V} (h:Rep NL H (enT x) v):∃ a b,v = .ref a∧H a = some (.tup [.str x.nm,.int x.kd,.ref b])∧H b = some (.tup [.int x.tg.1,.int x.tg.2.1,.int x.tg.2.2]):=by
  obtain ⟨a,vs,rfl,e,x1,u1,rfl,rfl,x2,u2,rfl,rfl,x3,u3,rfl,r3,rfl⟩:=h
  obtain ⟨b,rfl,e2⟩:=rep_tg r3
  exact ⟨a,b,rfl,e,e2⟩
theorem en_rep {H:Hp} {x:En} {a b:Addr} (e:H a = some (.tup [.str x.nm,.int x.kd,.ref b])) (e2:H b = some (.tup [.int x.tg.1,.int x.tg.2.1,.int x.tg.2.2])):Rep NL H (enT x) (.ref a):=⟨a,_,rfl,e,_,_,rfl,rfl,_,_,rfl,rfl,_,_,rfl,tg_rep e2,rfl⟩
theorem rep_piece {H:Hp} {z:Str} {v:V} (h:Rep NL H (bkT (.piece z)) v):∃ a,v = .ref a∧H a = some (.tup [.int 0,.str z]):=by
  obtain ⟨a,vs,rfl,e,x1,u1,rfl,rfl,x2,u2,rfl,rfl,rfl⟩:=h
  exact ⟨a,rfl,e⟩
theorem rep_row {H:Hp} {lv:Int} {ts:List Tg} {v:V} (h:Rep NL H (bkT (.row lv ts)) v):∃ a b vs,v = .ref a∧H a = some (.tup [.int 1,.int lv,.ref b])∧H b = some (.tup vs)∧Reps NL H (ts.map tgT) vs:=by
  obtain ⟨a,vs,rfl,e,x1,u1,rfl,rfl,x2,u2,rfl,rfl,x3,u3,rfl,⟨b,us,rfl,e2,r⟩,rfl⟩:=h
  exact ⟨a,b,us,rfl,e,e2,r⟩
theorem rep_folder {H:Hp} {es:List En} {v:V} (h:Rep NL H (bkT (.folder es)) v):∃ a b vs,v = .ref a∧H a = some (.tup [.int 2,.ref b])∧H b = some (.tup vs)∧Reps NL H (es.map enT) vs:=by
  obtain ⟨a,vs,rfl,e,x1,u1,rfl,rfl,x2,u2,rfl,⟨b,us,rfl,e2,r⟩,rfl⟩:=h
  exact ⟨a,b,us,rfl,e,e2,r⟩
theorem reps_at {α:Type} {g:α→Tr} {H:Hp} {xs:List α} {vs:List V} (h:Reps NL H (xs.map g) vs) {v:V} (hv:v∈vs):∃ x∈xs,Rep NL H (g x) v:=by
  obtain ⟨i,hi,e⟩:=List.getElem_of_mem hv
  obtain ⟨t,ht,r⟩:=Reps.get h (show vs[i]? = some v by rw [List.getElem?_eq_getElem hi,e])
  rw [List.getElem?_map] at ht
  cases z:xs[i]? with
  | none=>rw [z] at ht; cases ht
  | some x=>
    rw [z] at ht
    cases ht
    exact ⟨x,List.mem_of_getElem? z,r⟩
theorem isT_tg {t:Tg} (h:tgOk t) (n:Nat):isT (n + 2) (tgT t) = true:=by
  obtain ⟨⟨a1,a2⟩,⟨b1,b2⟩,c1,c2⟩:=h
  simp only [tgT,isT,List.all_cons,List.all_nil,List.length_cons,List.length_nil,Bool.and_true,Bool.and_eq_true,decide_eq_true_eq]
  omega
theorem name_parts {z:Str} (h:nameB (.str z) = true):1≤z.length∧z.length≤8∧allIn SG z = true∧∀ c∈cod z,c∈cod SG:=by
  have h':(decide ((1:Int)≤z.length) && decide ((z.length:Int)≤8) && allIn LN z) = true:=h
  simp only [Bool.and_eq_true,decide_eq_true_eq] at h'
  have a:allIn SG z = true:=by
    have:=h'.2
    rw [← allIn_two,Bool.and_eq_true] at this
    exact this.1
  refine ⟨by omega,by omega,a,fun c hc=>?_⟩
  have:=List.all_eq_true.mp a c hc
  simpa using this
theorem isT_en {x:En} (h:enOk x) (n:Nat):isT (n + 3) (enT x) = true:=by
  obtain ⟨a,b,c⟩:=h
  obtain ⟨n1,n2,n3,_⟩:=name_parts a
  have d:=isT_tg c n
  simp only [enT,isT,List.all_cons,List.all_nil,List.length_cons,List.length_nil,Bool.and_true,Bool.and_eq_true,decide_eq_true_eq,n3,d,and_true]
  omega
theorem isT_bk {b:Bk} (h:bkOk b):isT 8 (bkT b) = true:=by
  cases b with
  | piece z=>
    have h':(decide ((1:Int)≤(z.length:Int)) && decide ((z.length:Int)≤8) && allIn SG z) = true:=h
    simp only [Bool.and_eq_true,decide_eq_true_eq] at h'
    simp only [bkT,isT,List.all_cons,List.all_nil,List.length_cons,List.length_nil,Bool.and_true,Bool.and_eq_true,decide_eq_true_eq,h'.2,and_true]
    omega
  | row lv ts=>
    obtain ⟨l,n,_,o⟩:=h
    have d:(ts.map tgT).all (isT 6) = true:=List.all_eq_true.mpr fun t ht=>by
      obtain ⟨x,hx,rfl⟩:=List.mem_map.mp ht
      exact isT_tg (o x hx) 4
    simp only [bkT,isT,List.all_cons,List.all_nil,List.length_cons,List.length_nil,List.length_map,Bool.and_true,Bool.and_eq_true,decide_eq_true_eq,d,and_true]
    omega
  | folder es=>
    obtain ⟨n,o,_⟩:=h
    have d:(es.map enT).all (isT 6) = true:=List.all_eq_true.mpr fun t ht=>by
      obtain ⟨x,hx,rfl⟩:=List.mem_map.mp ht
      exact isT_en (o x hx) 3
    simp only [bkT,isT,List.all_cons,List.all_nil,List.length_cons,List.length_nil,List.length_map,Bool.and_true,Bool.and_eq_true,decide_eq_true_eq,d,and_true]
    omega
theorem rep_ok {H:Hp} {t:Tr} {v:V} {n:Nat} (h:Rep NL H t v) (i:isT n t = true):Ok H v:=(rep_all h).ok (isT_ok _ _ i)
theorem le_anti {a b:List Nat} (h1:¬ b < a) (h2:¬ a < b):a = b:=List.le_antisymm h1 h2
theorem rising_all:∀ {p:Str} {l:List Str},PyProof.Rows.risingS p l = true→∀ x∈l,¬ x.cps.toList < p.cps.toList
  | p,y :: r,h,x,hx=>by
    have h':=h
    rw [PyProof.Rows.risingS,Bool.and_eq_true,PyProof.Rows.ltCps_eq] at h'
    have h1:¬ y.cps.toList < p.cps.toList:=by simpa using h'.1
    rcases List.mem_cons.mp hx with rfl | hx
    · exact h1
    · exact List.le_trans h1 (rising_all h'.2 x hx)
theorem sorted_tail {x:Str} {l:List Str} (h:PyProof.Rows.sortedS (x :: l) = true):PyProof.Rows.sortedS l = true:=by
  cases l with
  | nil=>rfl
  | cons y r=>
    have h':=h
    rw [PyProof.Rows.sortedS,PyProof.Rows.risingS,Bool.and_eq_true] at h'
    exact h'.2
theorem sorted_one:∀ {a b:List Str},a.Perm b→PyProof.Rows.sortedS a = true→PyProof.Rows.sortedS b = true→a = b
  | [],b,p,_,_=>(List.nil_perm.mp p).symm
  | x :: a,[],p,_,_=>absurd p.length_eq (by simp)
  | x :: a,y :: b,p,ha,hb=>by
    have e:x = y:=by
      have m1:x∈y :: b:=p.mem_iff.mp List.mem_cons_self
      have m2:y∈x :: a:=p.mem_iff.mpr List.mem_cons_self
      rcases List.mem_cons.mp m1 with e | m1
      · exact e
      rcases List.mem_cons.mp m2 with e | m2
      · exact e.symm
      have l1:=rising_all (p:=x) (l:=a) ha y m2
      have l2:=rising_all (p:=y) (l:=b) hb x m1
      have:=le_anti l1 l2
      cases x; cases y
      simp only [PySem.Str.mk.injEq]
      exact Array.toList_inj.mp this
    subst e
    rw [sorted_one p.cons_inv (sorted_tail ha) (sorted_tail hb)]
theorem once_app:∀ (l ks:List Str),(ks ++ l).Nodup→l.foldl (fun ks k=>if k∈ks then ks else ks ++ [k]) ks = ks ++ l
  | [],ks,_=>(List.append_nil _).symm
  | k :: r,ks,h=>by
    have nk:k ∉ ks:=fun z=>by
      have:=(List.nodup_append.mp h).2.2 k z k List.mem_cons_self
      exact this rfl
    have e:(if k∈ks then ks else ks ++ [k]) = ks ++ [k]:=if_neg nk
    rw [List.foldl_cons,e,once_app r (ks ++ [k]) (by rw [List.append_assoc]; exact h),List.append_assoc]
    rfl
theorem once_id {a:List Str} (h:a.Nodup):onceS a = a:=once_app a [] h
theorem names_of:∀ {es:List En} {us:List V} {H:Hp},Reps NL H (es.map enT) us→(us.map fun v=>match v with | .ref x=>(match H x with | some (.tup (y :: _))=>y | _=>.non) | _=>.non) = (es.map (·.nm)).map V.str
  | [],us,H,r=>by rw [show us = [] from r]; rfl
  | e :: es,us,H,r=>by
    obtain ⟨v,us',rfl,r1,r2⟩:=r
    obtain ⟨a,b,rfl,e1,_⟩:=rep_en r1
    rw [List.map_cons,List.map_cons,List.map_cons,names_of r2]
    simp only [e1]
theorem trues {H:Hp} {l:Addr} {us:List V} (h:H l = some (.lst (us.map fun _=>V.bl true))):H l = some (.lst ((us.map fun _=>true).map V.bl)):=by rw [h,List.map_map]; rfl
theorem all_trues (us:List V):(us.map fun _=>true).all id = true:=by simp
theorem trueQ {Q:VK} {H:Hp} {us:List V} (q:Q (.bl true) H):Q (.bl ((us.map fun _=>true).all id)) H:=by rw [all_trues]; exact q
theorem comp_map3 {J:It} {xs:List V} {te:TE} {Q:VK} {σ:St} {H:Hp} (f:V→V) (hJ:ItIs J H xs) (hn:xs.length≤1000000) (htg:∀ x∈xs,∃ a x1 x2 x3,x = .ref a∧H a = some (.tup [x1,x2,x3]))
    (helt:∀ a x1 x2 x3 (H':Hp) (R:VK),V.ref a∈xs→H a = some (.tup [x1,x2,x3])→Same H H'→(∀ H'',Same H' H''→R (f (.ref a)) H'')→te [some x1,some x2,some x3] H' R)
    (hQ:∀ l H',H l = none→Same H H'→H' l = some (.lst (xs.map f))→Q (.ref l) H') :
    tCompK [none,none,none] (gTup K 3 (gCons (gName 0) (gCons (gName 1) (gCons (gName 2) gNil)))) tYes te σ Q J H:=by
  intro l hl
  refine ⟨fun i m σ' H'=>m = xs.length - i∧i≤xs.length∧(∃ y0 y1 y2,σ' = [y0,y1,y2])∧Same H H'∧H' l = some (.lst ((xs.take i).map f)),⟨xs.length,by simp,Nat.zero_le _,⟨_,_,_,rfl⟩,same_new hl _,by rw [upd_same,List.take_zero,List.map_nil]⟩,?_⟩
  rintro i m σ' H' ⟨rfl,hi,⟨y0,y1,y2,rfl⟩,hs,hl'⟩
  obtain ⟨h1,h2,h3⟩:=hJ H' hs i
  by_cases hlt:i < xs.length
  · refine .inr ⟨h1 hlt,fun x H'' y=>?_⟩
    obtain ⟨rfl,hx⟩:=h2 x H'' y
    have hx:=hx hlt
    obtain ⟨a,x1,x2,x3,rfl,ha⟩:=htg x (List.mem_of_getElem? hx)
    refine ⟨a,_,rfl,SqT.of (hs.get ha),rfl,_,_,rfl,_,_,rfl,_,_,rfl,rfl,?_⟩
    refine helt a x1 x2 x3 H'' _ (List.mem_of_getElem? hx) ha hs fun H4 s4=>?_
    refine ⟨_,s4.get hl',smallLt (by rw [List.length_map,List.length_take]; omega),xs.length - (i + 1),by omega,rfl,hlt,⟨_,_,_,rfl⟩,same_upd (hs.trans s4) hl _,?_⟩
    rw [upd_same,List.take_add_one,hx]
    simp
  · have e:i = xs.length:=by omega
    subst e
    exact .inl ⟨h3 (Nat.le_refl _),hQ l H' hl hs (by rw [hl',List.take_of_length_le (Nat.le_refl _)])⟩
def sp_is_tag (K:PySem.W.Frag):Sp:=fun vs H Q _=>∃ v t,vs = [v]∧Rep NL H (tgT t) v∧tgOk t∧Q (.bl true) H
theorem ok_is_tag (T:Txt K mg C_WordReader C_Boards XC) (F:Fun K "is_tag" "is_tag" s_is_tag f fd) (D_is_between:Def P w K mg base 2 "is_between" ["thing","least","most"] (sp_is_between K)) (D_is_tuple_of:Def P w K mg base 1 "is_tuple_of" ["thing","many"] (sp_is_tuple_of K)):FnOk P w K mg base CX0 3 f fd ["thing"] (sp_is_tag K):=by
  refine F.ok sc_is_tag (fun vs H Q E h=>?_) (fun cdv A outer s H vs Q E hr h=>?_)
  · obtain ⟨v,t,rfl,_⟩:=h
    rfl
  obtain ⟨v,t,rfl,hv,ok,q⟩:=h
  have okv:=rep_ok hv (isT_tg ok 0)
  obtain ⟨a,rfl,e⟩:=rep_tg hv
  obtain ⟨⟨a1,a2⟩,⟨b1,b2⟩,c1,c2⟩:=ok
  refine ⟨_,(@pss_cons _ _ _ _ _ (@ps_if _ _ _ _ _ _ _ _ (@pt_not _ _ _ _ (@pt_val _ _ _ (@pe_fn _ _ _ _ _ _ _ _ _ _ D_is_tuple_of (hr.mono (by decide)) rfl (@pa_cons _ _ _ _ _ (pv 0) (@pa_cons _ _ _ _ _ (@pe_int _ _ _ _) (@pa_nil _) (by rfl)) (by rfl)) (by decide) (by rfl) (by rfl)) (by intro _; rfl))) (@pss_one _ _ _ (@ps_ret _ _ _ _ (@pe_bl _ _ _ _))) (@pss_nil _)) (@pss_cons _ _ _ _ _ (@ps_if _ _ _ _ _ _ _ _ (@PW.pt _ _ _ (@pw_or _ _ _ _ _ _ _ (@pt_not _ _ _ _ (@pt_val _ _ _ (@pe_fn _ _ _ _ _ _ _ _ _ _ D_is_between (hr.mono (by decide)) rfl (@pa_cons _ _ _ _ _ (@pe_ix _ _ _ _ _ _ _ ix_tup (pv 0) (@pe_int _ _ _ _) (fun _ _=>rfl)) (@pa_cons _ _ _ _ _ (@pe_int _ _ _ _) (@pa_cons _ _ _ _ _ (@pe_globI _ _ _ _ rfl T.c_MOST_CELL (by decide)) (@pa_nil _) (by rfl)) (by rfl)) (by rfl)) (by decide) (by rfl) (by rfl)) (by intro _; rfl))) (@pw_or1 _ _ _ _ (@pt_not _ _ _ _ (@pt_val _ _ _ (@pe_fn _ _ _ _ _ _ _ _ _ _ D_is_between (hr.mono (by decide)) rfl (@pa_cons _ _ _ _ _ (@pe_ix _ _ _ _ _ _ _ ix_tup (pv 0) (@pe_int _ _ _ _) (fun _ _=>rfl)) (@pa_cons _ _ _ _ _ (@pe_int _ _ _ _) (@pa_cons _ _ _ _ _ (@pe_globI _ _ _ _ rfl T.c_MOST_BIRTH (by decide)) (@pa_nil _) (by rfl)) (by rfl)) (by rfl)) (by decide) (by rfl) (by rfl)) (by intro _; rfl)))))) (@pss_one _ _ _ (@ps_ret _ _ _ _ (@pe_bl _ _ _ _))) (@pss_nil _)) (@pss_one _ _ _ (@ps_ret _ _ _ _ (@pe_fn _ _ _ _ _ _ _ _ _ _ D_is_between (hr.mono (by decide)) rfl (@pa_cons _ _ _ _ _ (@pe_ix _ _ _ _ _ _ _ ix_tup (pv 0) (@pe_int _ _ _ _) (fun _ _=>rfl)) (@pa_cons _ _ _ _ _ (@pe_int _ _ _ _) (@pa_cons _ _ _ _ _ (@pe_op _ _ _ _ _ _ _ _ op_sub (@pe_globI _ _ _ _ rfl T.c_SUM_RESTS (by decide)) (@pe_int _ _ _ _)) (@pa_nil _) (by rfl)) (by rfl)) (by rfl)) (by decide) (by rfl) (by rfl)))))),?_⟩
  refine ⟨_,rfl,_,3,rfl,okv,_,rfl,iteFc (by rw [tupN_tup e]; rfl) ?_⟩
  dsimp only [tNext,tSeq,tIfS]
  have w1:betw 1 999999 (.int t.1) = true:=by show (decide (1≤t.1) && decide (t.1≤999999)) = true; simp; omega
  have w2:betw 0 999999999 (.int t.2.1) = true:=by show (decide (0≤t.2.1) && decide (t.2.1≤999999999)) = true; simp; omega
  have w3:betw 0 996 (.int t.2.2) = true:=by show (decide (0≤t.2.2) && decide (t.2.2≤996)) = true; simp; omega
  refine tOr_p (!betw 1 999999 (.int t.1)) (!betw 0 999999999 (.int t.2.1)) (fun R q=>⟨_,rfl,a,_,_,_,rfl,rfl,SqT.of e,rfl,_,1,999999,rfl,trivial,_,rfl,q⟩) (fun _ R q=>⟨_,rfl,a,_,_,_,rfl,rfl,SqT.of e,rfl,_,0,999999999,rfl,trivial,_,rfl,q⟩) ?_
  rw [w1,w2]
  refine iteFc rfl ?_
  refine ⟨_,rfl,a,_,_,_,rfl,rfl,SqT.of e,rfl,_,_,rfl,rfl,_,0,996,rfl,trivial,?_⟩
  rw [w3]
  exact q
def sp_are_row_tags (K:PySem.W.Frag):Sp:=fun vs H Q _=>∃ v lv ts,vs = [v,.int lv]∧Rep NL H (.tup (ts.map tgT)) v∧rowOk lv ts∧∀ H',Same H H'→Q (.bl true) H'
theorem ok_are_row_tags (T:Txt K mg C_WordReader C_Boards XC) (F:Fun K "are_row_tags" "are_row_tags" s_are_row_tags f fd) (D_is_tag:Def P w K mg base 3 "is_tag" ["thing"] (sp_is_tag K)):FnOk P w K mg base CX0 4 f fd ["thing","level"] (sp_are_row_tags K):=by
  refine F.ok sc_are_row_tags (fun vs H Q E h=>?_) (fun cdv A outer s H vs Q E hr h=>?_)
  · obtain ⟨v,lv,ts,rfl,_⟩:=h
    rfl
  obtain ⟨v,lv,ts,rfl,hv,ok,q⟩:=h
  have okv:Ok H v:=rep_ok (n:=3) hv (by
    show (decide ((ts.map tgT).length≤100) && (ts.map tgT).all (isT 2)) = true
    rw [Bool.and_eq_true,decide_eq_true_eq,List.length_map]
    refine ⟨by have:=ok.1; omega,List.all_eq_true.mpr fun t ht=>?_⟩
    obtain ⟨x,hx,rfl⟩:=List.mem_map.mp ht
    exact isT_tg (ok.2.2 x hx) 0)
  have ety:=(rep_all hv).tyN
  obtain ⟨a,us,rfl,e,r⟩:=hv
  have lu:=Reps.len _ _ r
  rw [List.length_map] at lu
  obtain ⟨o1,o2,o3⟩:=ok
  have alls:∀ (te:TE) (l0:Nat),True:=fun _ _=>trivial
  clear alls
  refine ⟨_,(@pss_cons _ _ _ _ _ (@ps_if _ _ _ _ _ _ _ _ (@PW.pt _ _ _ (@pw_or _ _ _ _ _ _ _ (@pt_not _ _ _ _ (@pt_val _ _ _ (@pe_callB _ _ _ _ _ _ _ _ _ call_isinst (by rfl) T.b_isinstance bt_isinstance (@pa_cons _ _ _ _ _ (pv 0) (@pa_cons _ _ _ _ _ (@pe_ty _ _ _ _ rfl T.b_tuple bt_tuple (by decide) (by decide)) (@pa_nil _) (by rfl)) (by rfl)) (by decide) (by decide) (by rfl) (by rfl)) (by intro _; rfl))) (@pw_or1 _ _ _ _ (@pt_cmpR _ _ _ _ _ _ _ _ op_gt (@pe_callB _ _ _ _ _ _ _ _ _ call_len_seq (by rfl) T.b_len bt_len (@pa_cons _ _ _ _ _ (pv 0) (@pa_nil _) (by rfl)) (by decide) (by decide) (by rfl) (by rfl)) (@pe_globI _ _ _ _ rfl T.c_MOST_TAGS (by decide)) (nomark _))))) (@pss_one _ _ _ (@ps_ret _ _ _ _ (@pe_bl _ _ _ _))) (@pss_nil _)) (@pss_cons _ _ _ _ _ (@ps_if _ _ _ _ _ _ _ _ (@PW.pt _ _ _ (@pw_and _ _ _ _ _ _ _ (@pt_cmpR _ _ _ _ _ _ _ _ op_eq (@pe_callB _ _ _ _ _ _ _ _ _ call_len_seq (by rfl) T.b_len bt_len (@pa_cons _ _ _ _ _ (pv 0) (@pa_nil _) (by rfl)) (by decide) (by decide) (by rfl) (by rfl)) (@pe_int _ _ _ _) (nomark _)) (@pw_and1 _ _ _ _ (@pt_cmpR _ _ _ _ _ _ _ _ op_gt (pv 1) (@pe_int _ _ _ _) (nomark _))))) (@pss_one _ _ _ (@ps_ret _ _ _ _ (@pe_bl _ _ _ _))) (@pss_nil _)) (@pss_one _ _ _ (@ps_ret _ _ _ _ (@pe_callB _ _ _ _ _ _ _ _ _ (call_all rfl) (by rfl) T.b_all bt_all (@pa_cons _ _ _ _ _ (@pe_comp0 _ ["tag"] _ _ _ _ _ _ _ _ _ _ rfl (@pi_tup _ _ _ _ (pv 0)) (by decide +kernel) (fun C s H fp=>⟨(@pg_name _ _ (0) _ (show (["tag"]:List Str).Nodup by decide +kernel) rfl (by first | exact Or.inl rfl | exact Or.inr rfl) (by first | exact .inl rfl | exact .inr rfl | assumption)),(@pifs_nil _),(@pe_fn _ _ _ _ _ _ _ _ _ _ D_is_tag (hr.mono (by decide)) rfl (@pa_cons _ _ _ _ _ (pv 0) (@pa_nil _) (by rfl)) (by decide) (by rfl) (by rfl))⟩) (by intro _; rfl)) (@pa_nil _) (by rfl)) (by decide) (by decide) (by rfl) (by rfl)))))),?_⟩
  refine ⟨_,rfl,_,_,_,_,rfl,okv.ty K,okv.kit K,_,rfl,iteFc (by rw [ety]; show (!isA "tuple" "tuple") = false; decide) ?_⟩
  refine ⟨_,rfl,a,_,rfl,.inr (SqT.of e),_,_,rfl,rfl,_,rfl,iteFc (decide_eq_false (by omega)) ?_⟩
  refine ⟨_,rfl,a,_,rfl,.inr (SqT.of e),rfl,_,rfl,ite2 (fun c=>?_) (fun c=>?_)⟩
  · have c':V.int (us.length:Int) = V.int 0:=dec_true c
    have z:us.length = 0:=by injection c' with c'; omega
    have lz:¬ 1 < lv:=fun y=>o2 y (List.length_eq_zero_iff.mp (by omega))
    refine ⟨_,rfl,_,_,rfl,rfl,_,rfl,iteFc (decide_eq_false lz) ?_⟩
    refine ⟨_,rfl,a,rfl,⟨_,SqT.of e⟩,comp_map (fun _=>V.bl true) (itIs_tup e) (by omega) (fun x H' R hx s' hR=>?_) fun l H7 n7 s7 h7=>?_⟩
    · obtain ⟨t,ht,rt⟩:=reps_at r hx
      exact ⟨_,rfl,x,t,rfl,Rep.same s' _ _ rt,o3 t ht,hR H' (Same.refl _)⟩
    · exact ⟨l,us.map fun _=>true,rfl,SqL.of (trues h7),trueQ (q H7 s7)⟩
  · refine iteFc rfl ?_
    refine ⟨_,rfl,a,rfl,⟨_,SqT.of e⟩,comp_map (fun _=>V.bl true) (itIs_tup e) (by omega) (fun x H' R hx s' hR=>?_) fun l H7 n7 s7 h7=>?_⟩
    · obtain ⟨t,ht,rt⟩:=reps_at r hx
      exact ⟨_,rfl,x,t,rfl,Rep.same s' _ _ rt,o3 t ht,hR H' (Same.refl _)⟩
    · exact ⟨l,us.map fun _=>true,rfl,SqL.of (trues h7),trueQ (q H7 s7)⟩
def sp_is_entry (K:PySem.W.Frag):Sp:=fun vs H Q _=>∃ v x,vs = [v]∧Rep NL H (enT x) v∧enOk x∧∀ H',Same H H'→Q (.bl true) H'
theorem ok_is_entry (T:Txt K mg C_WordReader C_Boards XC) (F:Fun K "is_entry" "is_entry" s_is_entry f fd) (D_is_between:Def P w K mg base 2 "is_between" ["thing","least","most"] (sp_is_between K)) (D_is_tag:Def P w K mg base 3 "is_tag" ["thing"] (sp_is_tag K)) (D_is_tuple_of:Def P w K mg base 1 "is_tuple_of" ["thing","many"] (sp_is_tuple_of K)) (D_is_name:Def P w K mg base 2 "is_name" ["thing"] (sp_is_name K)):FnOk P w K mg base CX0 4 f fd ["thing"] (sp_is_entry K):=by
  refine F.ok sc_is_entry (fun vs H Q E h=>?_) (fun cdv A outer s H vs Q E hr h=>?_)
  · obtain ⟨v,x,rfl,_⟩:=h
    rfl
  obtain ⟨v,x,rfl,hv,ok,q⟩:=h
  have okv:=rep_ok hv (isT_en ok 0)
  obtain ⟨a,b,rfl,e,e2⟩:=rep_en hv
  obtain ⟨o1,⟨k1,k2⟩,o3⟩:=ok
  have nl:=(name_parts o1).2.1
  have w2:betw 1 2 (.int x.kd) = true:=by show (decide (1≤x.kd) && decide (x.kd≤2)) = true; simp; omega
  refine ⟨_,(@pss_cons _ _ _ _ _ (@ps_if _ _ _ _ _ _ _ _ (@PW.pt _ _ _ (@pw_or _ _ _ _ _ _ _ (@pt_not _ _ _ _ (@pt_val _ _ _ (@pe_fn _ _ _ _ _ _ _ _ _ _ D_is_tuple_of (hr.mono (by decide)) rfl (@pa_cons _ _ _ _ _ (pv 0) (@pa_cons _ _ _ _ _ (@pe_int _ _ _ _) (@pa_nil _) (by rfl)) (by rfl)) (by decide) (by rfl) (by rfl)) (by intro _; rfl))) (@pw_or1 _ _ _ _ (@pt_not _ _ _ _ (@pt_val _ _ _ (@pe_fn _ _ _ _ _ _ _ _ _ _ D_is_name (hr.mono (by decide)) rfl (@pa_cons _ _ _ _ _ (@pe_ix _ _ _ _ _ _ _ ix_tup (pv 0) (@pe_int _ _ _ _) (fun _ _=>rfl)) (@pa_nil _) (by rfl)) (by decide) (by rfl) (by rfl)) (by intro _; rfl)))))) (@pss_one _ _ _ (@ps_ret _ _ _ _ (@pe_bl _ _ _ _))) (@pss_nil _)) (@pss_one _ _ _ (@ps_ret _ _ _ _ (@pe_and _ _ _ _ _ _ _ (@pe_fn _ _ _ _ _ _ _ _ _ _ D_is_between (hr.mono (by decide)) rfl (@pa_cons _ _ _ _ _ (@pe_ix _ _ _ _ _ _ _ ix_tup (pv 0) (@pe_int _ _ _ _) (fun _ _=>rfl)) (@pa_cons _ _ _ _ _ (@pe_globI _ _ _ _ rfl T.c_FILE_ENTRY (by decide)) (@pa_cons _ _ _ _ _ (@pe_globI _ _ _ _ rfl T.c_FOLDER_ENTRY (by decide)) (@pa_nil _) (by rfl)) (by rfl)) (by rfl)) (by decide) (by rfl) (by rfl)) (@pe_one _ _ _ _ _ (@pe_fn _ _ _ _ _ _ _ _ _ _ D_is_tag (hr.mono (by decide)) rfl (@pa_cons _ _ _ _ _ (@pe_ix _ _ _ _ _ _ _ ix_tup (pv 0) (@pe_int _ _ _ _) (fun _ _=>rfl)) (@pa_nil _) (by rfl)) (by decide) (by rfl) (by rfl))))))),?_⟩
  refine ⟨_,rfl,_,3,rfl,okv,_,rfl,iteFc (by rw [tupN_tup e]; rfl) ?_⟩
  refine ⟨_,rfl,a,_,_,_,rfl,rfl,SqT.of e,rfl,_,rfl,(show x.nm.length≤1000 by omega),fun H1 s1=>⟨_,rfl,iteFc (by rw [o1]; rfl) ?_⟩⟩
  dsimp only [tNext,tRet]
  refine tAndV_p true true (fun R q=>⟨_,rfl,a,_,_,_,rfl,rfl,SqT.of (s1.get e),rfl,_,1,2,rfl,trivial,by rw [w2]; exact q⟩) (fun _ R q=>?_) (q H1 s1)
  exact ⟨_,rfl,a,_,_,_,rfl,rfl,SqT.of (s1.get e),rfl,_,x.tg,rfl,tg_rep (s1.get e2),o3,q⟩
def entOk (es:List En):Prop:=es.length≤16∧∀ e∈es,enOk e
def risesB (es:List En):Bool:=decide (PyProof.Rows.sortedS (es.map (·.nm)) = true∧(es.map (·.nm)).Nodup)
def bkWell:Bk→Prop
  | .piece z=>textB 1 8 (.str z) = true
  | .row lv ts=>(1≤lv∧lv≤9)∧rowOk lv ts
  | .folder es=>entOk es
def bkB:Bk→Bool
  | .folder es=>risesB es
  | _=>true
theorem ok_well {b:Bk} (h:bkOk b):bkWell b∧bkB b = true:=by
  cases b with
  | piece z=>exact ⟨h,rfl⟩
  | row lv ts=>exact ⟨h,rfl⟩
  | folder es=>exact ⟨⟨h.1,h.2.1⟩,decide_eq_true ⟨h.2.2.1,h.2.2.2⟩⟩
theorem isT_well {b:Bk} (h:bkWell b):isT 8 (bkT b) = true:=by
  cases b with
  | piece z=>exact isT_bk (b:=.piece z) h
  | row lv ts=>exact isT_bk (b:=.row lv ts) h
  | folder es=>
    obtain ⟨n,o⟩:=h
    have d:(es.map enT).all (isT 6) = true:=List.all_eq_true.mpr fun t ht=>by
      obtain ⟨x,hx,rfl⟩:=List.mem_map.mp ht
      exact isT_en (o x hx) 3
    simp only [bkT,isT,List.all_cons,List.all_nil,List.length_cons,List.length_nil,List.length_map,Bool.and_true,Bool.and_eq_true,decide_eq_true_eq,d,and_true]
    omega
theorem strs_inj:∀ {a b:List Str},a.map V.str = b.map V.str→a = b
  | [],[],_=>rfl
  | [],_ :: _,h=>nomatch h
  | _ :: _,[],h=>nomatch h
  | x :: a,y :: b,h=>by
    rw [List.map_cons,List.map_cons] at h
    injection h with h1 h2
    injection h1 with h1
    rw [h1,strs_inj h2]
theorem once_nodup (a:List Str):(onceS a).Nodup:=by
  have z:∀ (l ks:List Str),ks.Nodup→(l.foldl (fun ks k=>if k∈ks then ks else ks ++ [k]) ks).Nodup:=fun l=>by
    induction l with
    | nil=>intro ks h; exact h
    | cons k r ih=>
      intro ks h
      refine ih _ ?_
      dsimp only
      split
      · exact h
      · rename_i nk
        refine List.nodup_append.mpr ⟨h,by simp,fun a ha b hb=>?_⟩
        rw [List.mem_singleton] at hb
        subst hb
        intro e
        subst e
        exact nk ha
  exact z a [] List.nodup_nil
def sp_are_entries (K:PySem.W.Frag):Sp:=fun vs H Q _=>∃ v es,vs = [v]∧Rep NL H (.tup (es.map enT)) v∧entOk es∧∀ H',Same H H'→Q (.bl (risesB es)) H'
theorem ok_are_entries (T:Txt K mg C_WordReader C_Boards XC) (F:Fun K "are_entries" "are_entries" s_are_entries f fd) (D_is_entry:Def P w K mg base 4 "is_entry" ["thing"] (sp_is_entry K)):FnOk P w K mg base CX0 5 f fd ["thing"] (sp_are_entries K):=by
  refine F.ok sc_are_entries (fun vs H Q E h=>?_) (fun cdv A outer s H vs Q E hr h=>?_)
  · obtain ⟨v,es,rfl,_⟩:=h
    rfl
  obtain ⟨v,es,rfl,hv,ok,q⟩:=h
  have okv:Ok H v:=rep_ok (n:=4) hv (by
    show (decide ((es.map enT).length≤100) && (es.map enT).all (isT 3)) = true
    rw [Bool.and_eq_true,decide_eq_true_eq,List.length_map]
    refine ⟨by have:=ok.1; omega,List.all_eq_true.mpr fun t ht=>?_⟩
    obtain ⟨x,hx,rfl⟩:=List.mem_map.mp ht
    exact isT_en (ok.2 x hx) 0)
  have ety:=(rep_all hv).tyN
  obtain ⟨a,us,rfl,e,r⟩:=hv
  have lu:=Reps.len _ _ r
  rw [List.length_map] at lu
  obtain ⟨o1,o2⟩:=ok
  have hu:=hu_of hr
  refine ⟨_,(@pss_cons _ _ _ _ _ (@ps_if _ _ _ _ _ _ _ _ (@PW.pt _ _ _ (@pw_or _ _ _ _ _ _ _ (@pt_not _ _ _ _ (@pt_val _ _ _ (@pe_callB _ _ _ _ _ _ _ _ _ call_isinst (by rfl) T.b_isinstance bt_isinstance (@pa_cons _ _ _ _ _ (pv 0) (@pa_cons _ _ _ _ _ (@pe_ty _ _ _ _ rfl T.b_tuple bt_tuple (by decide) (by decide)) (@pa_nil _) (by rfl)) (by rfl)) (by decide) (by decide) (by rfl) (by rfl)) (by intro _; rfl))) (@pw_or1 _ _ _ _ (@pt_cmpR _ _ _ _ _ _ _ _ op_gt (@pe_callB _ _ _ _ _ _ _ _ _ call_len_seq (by rfl) T.b_len bt_len (@pa_cons _ _ _ _ _ (pv 0) (@pa_nil _) (by rfl)) (by decide) (by decide) (by rfl) (by rfl)) (@pe_globI _ _ _ _ rfl T.c_MOST_ENTRIES (by decide)) (nomark _))))) (@pss_one _ _ _ (@ps_ret _ _ _ _ (@pe_bl _ _ _ _))) (@pss_nil _)) (@pss_cons _ _ _ _ _ (@ps_if _ _ _ _ _ _ _ _ (@pt_not _ _ _ _ (@pt_val _ _ _ (@pe_callB _ _ _ _ _ _ _ _ _ (call_all rfl) (by rfl) T.b_all bt_all (@pa_cons _ _ _ _ _ (@pe_comp0 _ ["entry"] _ _ _ _ _ _ _ _ _ _ rfl (@pi_tup _ _ _ _ (pv 0)) (by decide +kernel) (fun C s H fp=>⟨(@pg_name _ _ (0) _ (show (["entry"]:List Str).Nodup by decide +kernel) rfl (by first | exact Or.inl rfl | exact Or.inr rfl) (by first | exact .inl rfl | exact .inr rfl | assumption)),(@pifs_nil _),(@pe_fn _ _ _ _ _ _ _ _ _ _ D_is_entry (hr.mono (by decide)) rfl (@pa_cons _ _ _ _ _ (pv 0) (@pa_nil _) (by rfl)) (by decide) (by rfl) (by rfl))⟩) (by intro _; rfl)) (@pa_nil _) (by rfl)) (by decide) (by decide) (by rfl) (by rfl)) (by intro _; rfl))) (@pss_one _ _ _ (@ps_ret _ _ _ _ (@pe_bl _ _ _ _))) (@pss_nil _)) (@pss_cons _ _ _ _ _ (@ps_setC0 _ ["name","kind","tag"] (1) _ _ _ _ _ _ _ _ _ _ _ _ _ sc_are_entries.nd rfl (by first | exact Or.inl rfl | exact Or.inr rfl) rfl (@pi_tup _ _ _ _ (pv 0)) (by decide +kernel) (fun C s H fp=>⟨(@pg_tupK _ (K) _ _ _ _ (3) (by rfl) rfl (@pgs_cons _ _ _ _ _ (@pg_name _ _ (0) _ (show (["name","kind","tag"]:List Str).Nodup by decide +kernel) rfl (by first | exact Or.inl rfl | exact Or.inr rfl) (by first | exact .inl rfl | exact .inr rfl | assumption)) (@pgs_cons _ _ _ _ _ (@pg_name _ _ (1) _ (show (["name","kind","tag"]:List Str).Nodup by decide +kernel) rfl (by first | exact Or.inl rfl | exact Or.inr rfl) (by first | exact .inl rfl | exact .inr rfl | assumption)) (@pgs_cons _ _ _ _ _ (@pg_name _ _ (2) _ (show (["name","kind","tag"]:List Str).Nodup by decide +kernel) rfl (by first | exact Or.inl rfl | exact Or.inr rfl) (by first | exact .inl rfl | exact .inr rfl | assumption)) (@pgs_nil _) (by rfl)) (by rfl)) (by rfl)) (by rfl) (by rfl)),(@pifs_nil _),(pv 0)⟩) (by intro _; rfl) (by rfl) (by first | exact .inl rfl | exact .inr rfl | assumption)) (@pss_one _ _ _ (@ps_ret _ _ _ _ (@pe_cmpR _ _ _ _ _ _ _ _ (op_eqD hu) (pv 1) (@pe_callB _ _ _ _ _ _ _ _ _ (call_sortT (P:=P) (w:=w) (by rfl) (by rfl) rfl) (by rfl) T.b_sorted bt_sorted (@pa_cons _ _ _ _ _ (@pe_callTy _ _ _ _ _ _ _ _ _ (call_setT (P:=P) (w:=w) (K:=K) (by rfl) (by rfl) (by rfl) rfl) (by rfl) T.b_set bt_set (@pa_cons _ _ _ _ _ (pv 1) (@pa_nil _) (by rfl)) (by decide) (by decide) (by rfl) (by rfl)) (@pa_nil _) (by rfl)) (by decide) (by decide) (by rfl) (by rfl)) (nomark _))))))),?_⟩
  refine ⟨_,rfl,_,_,_,_,rfl,okv.ty K,okv.kit K,_,rfl,iteFc (by rw [ety]; show (!isA "tuple" "tuple") = false; decide) ?_⟩
  refine ⟨_,rfl,a,_,rfl,.inr (SqT.of e),_,_,rfl,rfl,_,rfl,iteFc (decide_eq_false (by omega)) ?_⟩
  refine ⟨_,rfl,a,rfl,⟨_,SqT.of e⟩,comp_map (fun _=>V.bl true) (itIs_tup e) (by omega) (fun x H' R hx s' hR=>?_) fun l H7 n7 s7 h7=>?_⟩
  · obtain ⟨t,ht,rt⟩:=reps_at r hx
    exact ⟨_,rfl,x,t,rfl,Rep.same s' _ _ rt,o2 t ht,fun H'' s''=>hR H'' s''⟩
  refine ⟨l,us.map fun _=>true,rfl,SqL.of (trues h7),_,rfl,iteFc (by rw [all_trues]; rfl) ?_⟩
  have e7:=s7.get e
  have r7:=Reps.same s7 _ _ r
  refine ⟨_,rfl,a,rfl,⟨_,SqT.of e7⟩,comp_map3 (fun v=>match v with | .ref x=>(match H7 x with | some (.tup (y :: _))=>y | _=>.non) | _=>.non) (itIs_tup e7) (by omega) (fun x hx=>?_) (fun x x1 x2 x3 H' R hx hx2 s' hR=>?_) fun l2 H8 n8 s8 h8=>?_⟩
  · obtain ⟨t,ht,rt⟩:=reps_at r7 hx
    obtain ⟨c,d,rfl,ec,_⟩:=rep_en rt
    exact ⟨c,_,_,_,rfl,ec⟩
  · refine ⟨_,rfl,?_⟩
    have:=hR H' (Same.refl _)
    simp only [hx2] at this
    exact this
  have nm:(us.map fun v=>match v with | .ref x=>(match H7 x with | some (.tup (y :: _))=>y | _=>.non) | _=>.non) = (es.map (·.nm)).map V.str:=names_of r7
  rw [nm] at h8
  have ln:(es.map (·.nm)).length≤16:=by rw [List.length_map]; exact o1
  refine ⟨_,rfl,_,rfl,l2,_,rfl,SqL.of h8,by omega,fun p hp=>?_⟩
  have sp:=same_new hp (SetT P w p (onceS (es.map (·.nm))))
  have lo:=once_len (es.map (·.nm))
  refine ⟨p,_,rfl,upd_same,by omega,fun ts p2 pt st hp2=>?_⟩
  have s2:=same_new hp2 (.lst (ts.map V.str))
  refine ⟨l2,p2,_,_,rfl,rfl,SqL.of (s2.get (sp.get h8)),SqL.of upd_same,all_pure_str _,all_pure_str _,?_⟩
  rw [if_neg Bool.false_ne_true]
  have eq:decide ((es.map (·.nm)).map V.str = ts.map V.str) = risesB es:=by
    unfold risesB
    rw [Bool.eq_iff_iff,decide_eq_true_eq,decide_eq_true_eq]
    constructor
    · intro e
      have e':es.map (·.nm) = ts:=strs_inj e
      rw [e']
      exact ⟨st,pt.nodup_iff.mpr (once_nodup _)⟩
    · rintro ⟨h1,h2⟩
      rw [once_id h2] at pt
      rw [sorted_one pt st h1]
  have:=q _ (((s7.trans s8).trans sp).trans s2)
  rw [← eq] at this
  exact this
def sp_is_block (K:PySem.W.Frag):Sp:=fun vs H Q _=>∃ v b,vs = [v]∧Rep NL H (bkT b) v∧bkWell b∧∀ H',Same H H'→Q (.bl (bkB b)) H'
theorem ok_is_block (T:Txt K mg C_WordReader C_Boards XC) (F:Fun K "is_block" "is_block" s_is_block f fd) (D_are_entries:Def P w K mg base 5 "are_entries" ["thing"] (sp_are_entries K)) (D_is_whole:Def P w K mg base 1 "is_whole" ["thing"] (sp_is_whole K)) (D_is_text:Def P w K mg base 1 "is_text" ["thing","least","most"] (sp_is_text K)) (D_is_between:Def P w K mg base 2 "is_between" ["thing","least","most"] (sp_is_between K)) (D_are_row_tags:Def P w K mg base 4 "are_row_tags" ["thing","level"] (sp_are_row_tags K)):FnOk P w K mg base CX0 6 f fd ["thing"] (sp_is_block K):=by
  refine F.ok sc_is_block (fun vs H Q E h=>?_) (fun cdv A outer s H vs Q E hr h=>?_)
  · obtain ⟨v,b,rfl,_⟩:=h
    rfl
  obtain ⟨v,b,rfl,hv,ok,q⟩:=h
  have okv:Ok H v:=rep_ok hv (isT_well ok)
  have ety:=(rep_all hv).tyN
  have tyt:tyN H v = "tuple":=by rw [ety]; cases b <;> rfl
  refine ⟨_,(@pss_cons _ _ _ _ _ (@ps_if _ _ _ _ _ _ _ _ (@PW.pt _ _ _ (@pw_or _ _ _ _ _ _ _ (@pt_not _ _ _ _ (@pt_val _ _ _ (@pe_callB _ _ _ _ _ _ _ _ _ call_isinst (by rfl) T.b_isinstance bt_isinstance (@pa_cons _ _ _ _ _ (pv 0) (@pa_cons _ _ _ _ _ (@pe_ty _ _ _ _ rfl T.b_tuple bt_tuple (by decide) (by decide)) (@pa_nil _) (by rfl)) (by rfl)) (by decide) (by decide) (by rfl) (by rfl)) (by intro _; rfl))) (@pw_or _ _ _ _ _ _ _ (@pt_cmpR _ _ _ _ _ _ _ _ op_eq (@pe_callB _ _ _ _ _ _ _ _ _ call_len_seq (by rfl) T.b_len bt_len (@pa_cons _ _ _ _ _ (pv 0) (@pa_nil _) (by rfl)) (by decide) (by decide) (by rfl) (by rfl)) (@pe_int _ _ _ _) (nomark _)) (@pw_or1 _ _ _ _ (@pt_not _ _ _ _ (@pt_val _ _ _ (@pe_fn _ _ _ _ _ _ _ _ _ _ D_is_whole (hr.mono (by decide)) rfl (@pa_cons _ _ _ _ _ (@pe_ix _ _ _ _ _ _ _ ix_tup (pv 0) (@pe_int _ _ _ _) (fun _ _=>rfl)) (@pa_nil _) (by rfl)) (by decide) (by rfl) (by rfl)) (by intro _; rfl))))))) (@pss_one _ _ _ (@ps_ret _ _ _ _ (@pe_bl _ _ _ _))) (@pss_nil _)) (@pss_cons _ _ _ _ _ (@ps_if _ _ _ _ _ _ _ _ (@pt_cmpR _ _ _ _ _ _ _ _ op_eq (@pe_ix _ _ _ _ _ _ _ ix_tup (pv 0) (@pe_int _ _ _ _) (fun _ _=>rfl)) (@pe_globI _ _ _ _ rfl T.c_PIECE (by decide)) (nomark _)) (@pss_one _ _ _ (@ps_ret _ _ _ _ (@pe_and _ _ _ _ _ _ _ (@pe_cmpR _ _ _ _ _ _ _ _ op_eq (@pe_callB _ _ _ _ _ _ _ _ _ call_len_seq (by rfl) T.b_len bt_len (@pa_cons _ _ _ _ _ (pv 0) (@pa_nil _) (by rfl)) (by decide) (by decide) (by rfl) (by rfl)) (@pe_int _ _ _ _) (nomark _)) (@pe_one _ _ _ _ _ (@pe_fn _ _ _ _ _ _ _ _ _ _ D_is_text (hr.mono (by decide)) rfl (@pa_cons _ _ _ _ _ (@pe_ix _ _ _ _ _ _ _ ix_tup (pv 0) (@pe_int _ _ _ _) (fun _ _=>rfl)) (@pa_cons _ _ _ _ _ (@pe_int _ _ _ _) (@pa_cons _ _ _ _ _ (@pe_globI _ _ _ _ rfl T.c_MOST_PIECE_SIGNS (by decide)) (@pa_nil _) (by rfl)) (by rfl)) (by rfl)) (by decide) (by rfl) (by rfl)))))) (@pss_nil _)) (@pss_cons _ _ _ _ _ (@ps_if _ _ _ _ _ _ _ _ (@pt_cmpR _ _ _ _ _ _ _ _ op_eq (@pe_ix _ _ _ _ _ _ _ ix_tup (pv 0) (@pe_int _ _ _ _) (fun _ _=>rfl)) (@pe_globI _ _ _ _ rfl T.c_ROW (by decide)) (nomark _)) (@pss_one _ _ _ (@ps_ret _ _ _ _ (@pe_and _ _ _ _ _ _ _ (@pe_cmpR _ _ _ _ _ _ _ _ op_eq (@pe_callB _ _ _ _ _ _ _ _ _ call_len_seq (by rfl) T.b_len bt_len (@pa_cons _ _ _ _ _ (pv 0) (@pa_nil _) (by rfl)) (by decide) (by decide) (by rfl) (by rfl)) (@pe_int _ _ _ _) (nomark _)) (@pe_and _ _ _ _ _ _ _ (@pe_fn _ _ _ _ _ _ _ _ _ _ D_is_between (hr.mono (by decide)) rfl (@pa_cons _ _ _ _ _ (@pe_ix _ _ _ _ _ _ _ ix_tup (pv 0) (@pe_int _ _ _ _) (fun _ _=>rfl)) (@pa_cons _ _ _ _ _ (@pe_int _ _ _ _) (@pa_cons _ _ _ _ _ (@pe_globI _ _ _ _ rfl T.c_MOST_LEVEL (by decide)) (@pa_nil _) (by rfl)) (by rfl)) (by rfl)) (by decide) (by rfl) (by rfl)) (@pe_one _ _ _ _ _ (@pe_fn _ _ _ _ _ _ _ _ _ _ D_are_row_tags (hr.mono (by decide)) rfl (@pa_cons _ _ _ _ _ (@pe_ix _ _ _ _ _ _ _ ix_tup (pv 0) (@pe_int _ _ _ _) (fun _ _=>rfl)) (@pa_cons _ _ _ _ _ (@pe_ix _ _ _ _ _ _ _ ix_tup (pv 0) (@pe_int _ _ _ _) (fun _ _=>rfl)) (@pa_nil _) (by rfl)) (by rfl)) (by decide) (by rfl) (by rfl))))))) (@pss_nil _)) (@pss_one _ _ _ (@ps_ret _ _ _ _ (@pe_and _ _ _ _ _ _ _ (@pe_cmpR _ _ _ _ _ _ _ _ op_eq (@pe_ix _ _ _ _ _ _ _ ix_tup (pv 0) (@pe_int _ _ _ _) (fun _ _=>rfl)) (@pe_globI _ _ _ _ rfl T.c_FOLDER (by decide)) (nomark _)) (@pe_and _ _ _ _ _ _ _ (@pe_cmpR _ _ _ _ _ _ _ _ op_eq (@pe_callB _ _ _ _ _ _ _ _ _ call_len_seq (by rfl) T.b_len bt_len (@pa_cons _ _ _ _ _ (pv 0) (@pa_nil _) (by rfl)) (by decide) (by decide) (by rfl) (by rfl)) (@pe_int _ _ _ _) (nomark _)) (@pe_one _ _ _ _ _ (@pe_fn _ _ _ _ _ _ _ _ _ _ D_are_entries (hr.mono (by decide)) rfl (@pa_cons _ _ _ _ _ (@pe_ix _ _ _ _ _ _ _ ix_tup (pv 0) (@pe_int _ _ _ _) (fun _ _=>rfl)) (@pa_nil _) (by rfl)) (by decide) (by rfl) (by rfl)))))))))),?_⟩
  refine ⟨_,rfl,_,_,_,_,rfl,okv.ty K,okv.kit K,_,rfl,iteFc (by rw [tyt]; decide) ?_⟩
  cases b with
  | piece z=>
    obtain ⟨a,rfl,e⟩:=rep_piece hv
    refine ⟨_,rfl,a,_,rfl,.inr (SqT.of e),rfl,_,rfl,iteFc rfl ?_⟩
    refine ⟨_,rfl,a,_,_,_,rfl,rfl,SqT.of e,rfl,_,rfl,trivial,_,rfl,iteFc rfl ?_⟩
    have ok':textB 1 8 (.str z) = true:=ok
    have zl:z.length≤1000:=by
      have h':(decide ((1:Int)≤(z.length:Int)) && decide ((z.length:Int)≤8) && allIn SG z) = true:=ok
      simp only [Bool.and_eq_true,decide_eq_true_eq] at h'
      omega
    refine ⟨_,rfl,a,_,_,_,rfl,rfl,SqT.of e,rfl,rfl,_,rfl,iteTc rfl ?_⟩
    refine ⟨_,rfl,a,_,rfl,.inr (SqT.of e),rfl,_,rfl,iteTc rfl ?_⟩
    exact ⟨_,rfl,a,_,_,_,rfl,rfl,SqT.of e,rfl,_,1,8,rfl,zl,fun H1 s1=>by rw [ok']; exact q H1 s1⟩
  | row lv ts=>
    obtain ⟨a,b,us,rfl,e,e2,r⟩:=rep_row hv
    obtain ⟨⟨l1,l2⟩,ok2⟩:=ok
    have w2:betw 1 9 (.int lv) = true:=by show (decide (1≤lv) && decide (lv≤9)) = true; simp; omega
    refine ⟨_,rfl,a,_,rfl,.inr (SqT.of e),rfl,_,rfl,iteFc rfl ?_⟩
    refine ⟨_,rfl,a,_,_,_,rfl,rfl,SqT.of e,rfl,_,rfl,trivial,_,rfl,iteFc rfl ?_⟩
    refine ⟨_,rfl,a,_,_,_,rfl,rfl,SqT.of e,rfl,rfl,_,rfl,iteFc rfl ?_⟩
    refine ⟨_,rfl,a,_,_,_,rfl,rfl,SqT.of e,rfl,rfl,_,rfl,iteTc rfl ?_⟩
    refine ⟨_,rfl,a,_,rfl,.inr (SqT.of e),rfl,_,rfl,iteTc rfl ?_⟩
    refine ⟨_,rfl,a,_,_,_,rfl,rfl,SqT.of e,rfl,_,1,9,rfl,trivial,_,rfl,iteTc w2 ?_⟩
    exact ⟨_,rfl,a,_,_,_,rfl,rfl,SqT.of e,rfl,_,rfl,a,_,_,_,rfl,rfl,SqT.of e,rfl,_,lv,ts,rfl,⟨b,us,rfl,e2,r⟩,ok2,q⟩
  | folder es=>
    obtain ⟨a,b,us,rfl,e,e2,r⟩:=rep_folder hv
    refine ⟨_,rfl,a,_,rfl,.inr (SqT.of e),rfl,_,rfl,iteFc rfl ?_⟩
    refine ⟨_,rfl,a,_,_,_,rfl,rfl,SqT.of e,rfl,_,rfl,trivial,_,rfl,iteFc rfl ?_⟩
    refine ⟨_,rfl,a,_,_,_,rfl,rfl,SqT.of e,rfl,rfl,_,rfl,iteFc rfl ?_⟩
    refine ⟨_,rfl,a,_,_,_,rfl,rfl,SqT.of e,rfl,rfl,_,rfl,iteFc rfl ?_⟩
    refine ⟨_,rfl,a,_,_,_,rfl,rfl,SqT.of e,rfl,rfl,_,rfl,iteTc rfl ?_⟩
    refine ⟨_,rfl,a,_,rfl,.inr (SqT.of e),rfl,_,rfl,iteTc rfl ?_⟩
    exact ⟨_,rfl,a,_,_,_,rfl,rfl,SqT.of e,rfl,_,es,rfl,⟨b,us,rfl,e2,r⟩,ok,q⟩
def enTold (x:En):List Int:=(cod x.nm).map idx ++ [x.kd,x.tg.2.2]
def told:Bk→List Int
  | .piece z=>(cod z).map idx
  | .row lv ts=>lv :: ts.map (·.2.2)
  | .folder es=>es.flatMap enTold
theorem idx_map (z:Str):((z.cps.toList.map fun c=>V.str ⟨#[c]⟩).map fun v=>match v with | V.str y=>V.int (PySem.Txt.find SG y) | _=>V.non) = ((cod z).map idx).map V.int:=by
  rw [List.map_map,List.map_map]; rfl
theorem third_of:∀ {ts:List Tg} {us:List V} {H:Hp},Reps NL H (ts.map tgT) us→(us.map fun v=>match v with | .ref x=>(match H x with | some (.tup [_,_,y])=>y | _=>.non) | _=>.non) = (ts.map (·.2.2)).map V.int
  | [],us,H,r=>by rw [show us = [] from r]; rfl
  | e :: es,us,H,r=>by
    obtain ⟨v,us',rfl,r1,r2⟩:=r
    obtain ⟨a,rfl,e1⟩:=rep_tg r1
    rw [List.map_cons,List.map_cons,List.map_cons,third_of r2]
    simp only [e1]
theorem told_take {es:List En} {i:Nat} {x:En} (h:es[i]? = some x):(es.take (i + 1)).flatMap enTold = (es.take i).flatMap enTold ++ enTold x:=by
  rw [List.take_add_one,h,List.flatMap_append]
  simp
theorem told_len {es:List En} (h:∀ x∈es,(enTold x).length≤10):(es.flatMap enTold).length≤10 * es.length:=by
  induction es with
  | nil=>exact Nat.le_refl _
  | cons x r ih=>
    rw [List.flatMap_cons,List.length_append,List.length_cons]
    have:=h x List.mem_cons_self
    have:=ih fun y hy=>h y (List.mem_cons_of_mem _ hy)
    omega
theorem en_len {x:En} (h:enOk x):(enTold x).length≤10:=by
  have:=(name_parts h.1).2.1
  unfold enTold
  rw [List.length_append,List.length_map,cod_len]
  show x.nm.length + 2≤10
  omega
def sp_numbers_told (K:PySem.W.Frag):Sp:=fun vs H Q _=>∃ v b,vs = [v]∧Rep NL H (bkT b) v∧bkOk b∧∀ l H',Same H H'→H l = none→H' l = some (.lst ((told b).map V.int))→Q (.ref l) H'
theorem ok_numbers_told (T:Txt K mg C_WordReader C_Boards XC) (F:Fun K "numbers_told" "numbers_told" s_numbers_told f fd) (D_number_of:Def P w K mg base 1 "number_of" ["sign"] (sp_number_of K)):FnOk P w K mg base CX0 2 f fd ["block"] (sp_numbers_told K):=by
  refine F.ok sc_numbers_told (fun vs H Q E h=>?_) (fun cdv A outer s H vs Q E hr h=>?_)
  · obtain ⟨v,b,rfl,_⟩:=h
    rfl
  obtain ⟨v,b,rfl,hv,ok,q⟩:=h
  refine ⟨_,(@pss_cons _ _ _ _ _ (@ps_if _ _ _ _ _ _ _ _ (@pt_cmpR _ _ _ _ _ _ _ _ op_eq (@pe_ix _ _ _ _ _ _ _ ix_tup (pv 0) (@pe_int _ _ _ _) (fun _ _=>rfl)) (@pe_globI _ _ _ _ rfl T.c_PIECE (by decide)) (nomark _)) (@pss_one _ _ _ (@ps_ret _ _ _ _ (@pe_comp0 _ ["sign"] _ _ _ _ _ _ _ _ _ _ rfl (@pi_str _ _ _ _ (@pe_ix _ _ _ _ _ _ _ ix_tup (pv 0) (@pe_int _ _ _ _) (fun _ _=>rfl))) (by decide +kernel) (fun C s H fp=>⟨(@pg_name _ _ (0) _ (show (["sign"]:List Str).Nodup by decide +kernel) rfl (by first | exact Or.inl rfl | exact Or.inr rfl) (by first | exact .inl rfl | exact .inr rfl | assumption)),(@pifs_nil _),(@pe_fn _ _ _ _ _ _ _ _ _ _ D_number_of (hr.mono (by decide)) rfl (@pa_cons _ _ _ _ _ (pv 0) (@pa_nil _) (by rfl)) (by decide) (by rfl) (by rfl))⟩) (by intro _; rfl)))) (@pss_nil _)) (@pss_cons _ _ _ _ _ (@ps_if _ _ _ _ _ _ _ _ (@pt_cmpR _ _ _ _ _ _ _ _ op_eq (@pe_ix _ _ _ _ _ _ _ ix_tup (pv 0) (@pe_int _ _ _ _) (fun _ _=>rfl)) (@pe_globI _ _ _ _ rfl T.c_ROW (by decide)) (nomark _)) (@pss_one _ _ _ (@ps_ret _ _ _ _ (@pe_op _ _ _ _ _ _ _ _ op_catS (@pe_lst _ _ _ _ (@pa_cons _ _ _ _ _ (@pe_ix _ _ _ _ _ _ _ ix_tup (pv 0) (@pe_int _ _ _ _) (fun _ _=>rfl)) (@pa_nil _) (by rfl))) (@pe_comp0 _ ["tag"] _ _ _ _ _ _ _ _ _ _ rfl (@pi_tup _ _ _ _ (@pe_ix _ _ _ _ _ _ _ ix_tup (pv 0) (@pe_int _ _ _ _) (fun _ _=>rfl))) (by decide +kernel) (fun C s H fp=>⟨(@pg_name _ _ (0) _ (show (["tag"]:List Str).Nodup by decide +kernel) rfl (by first | exact Or.inl rfl | exact Or.inr rfl) (by first | exact .inl rfl | exact .inr rfl | assumption)),(@pifs_nil _),(@pe_ix _ _ _ _ _ _ _ (ix_tupK (K:=K) (by rfl)) (pv 0) (@pe_int _ _ _ _) (fun _ _=>rfl))⟩) (by intro _; rfl))))) (@pss_nil _)) (@pss_cons _ _ _ _ _ (@ps_set _ _ (1) _ _ _ _ sc_numbers_told.nd rfl (by first | exact Or.inl rfl | exact Or.inr rfl) (@pe_lst _ _ _ _ (@pa_nil _)) (by rfl) (by first | exact .inl rfl | exact .inr rfl | assumption)) (@pss_cons _ _ _ _ _ (@ps_for _ _ _ _ _ _ _ _ PassesOwn.never rfl (@pi_tup _ _ _ _ (@pe_ix _ _ _ _ _ _ _ ix_tup (pv 0) (@pe_int _ _ _ _) (fun _ _=>rfl))) (@pg_tup _ _ _ _ _ _ rfl (@pgs_cons _ _ _ _ _ (@pg_name _ _ (2) _ sc_numbers_told.nd rfl (by first | exact Or.inl rfl | exact Or.inr rfl) (by first | exact .inl rfl | exact .inr rfl | assumption)) (@pgs_cons _ _ _ _ _ (@pg_name _ _ (3) _ sc_numbers_told.nd rfl (by first | exact Or.inl rfl | exact Or.inr rfl) (by first | exact .inl rfl | exact .inr rfl | assumption)) (@pgs_cons _ _ _ _ _ (@pg_name _ _ (4) _ sc_numbers_told.nd rfl (by first | exact Or.inl rfl | exact Or.inr rfl) (by first | exact .inl rfl | exact .inr rfl | assumption)) (@pgs_nil _) (by rfl)) (by rfl)) (by rfl)) (by rfl) (by rfl)) (@pss_cons _ _ _ _ _ (@ps_expr _ _ _ _ (@pe_bm _ _ _ _ _ _ _ _ _ _ _ _ PySem.F.plainAttrs_list PySem.F.slot_list_extend PySem.F.type_list_extend mt_extend (pv 1) (@pa_cons _ _ _ _ _ (@pe_comp0 _ ["sign"] _ _ _ _ _ _ _ _ _ _ rfl (@pi_str _ _ _ _ (pv 2)) (by decide +kernel) (fun C s H fp=>⟨(@pg_name _ _ (0) _ (show (["sign"]:List Str).Nodup by decide +kernel) rfl (by first | exact Or.inl rfl | exact Or.inr rfl) (by first | exact .inl rfl | exact .inr rfl | assumption)),(@pifs_nil _),(@pe_fn _ _ _ _ _ _ _ _ _ _ D_number_of (hr.mono (by decide)) rfl (@pa_cons _ _ _ _ _ (pv 0) (@pa_nil _) (by rfl)) (by decide) (by rfl) (by rfl))⟩) (by intro _; rfl)) (@pa_nil _) (by rfl)) (by rfl) (by rfl) (by rfl) (by rfl) (by rfl)) (by rfl)) (@pss_one _ _ _ (@ps_expr _ _ _ _ (@pe_bm _ _ _ _ _ _ _ _ _ _ _ _ PySem.F.plainAttrs_list PySem.F.slot_list_extend PySem.F.type_list_extend mt_extend (pv 1) (@pa_cons _ _ _ _ _ (@pe_lst _ _ _ _ (@pa_cons _ _ _ _ _ (pv 3) (@pa_cons _ _ _ _ _ (@pe_ix _ _ _ _ _ _ _ ix_tup (pv 4) (@pe_int _ _ _ _) (fun _ _=>rfl)) (@pa_nil _) (by rfl)) (by rfl))) (@pa_nil _) (by rfl)) (by rfl) (by rfl) (by rfl) (by rfl) (by rfl)) (by rfl)))) (by intro _; rfl)) (@pss_one _ _ _ (@ps_ret _ _ _ _ (pv 1))))))),?_⟩
  cases b with
  | piece z=>
    obtain ⟨a,rfl,e⟩:=rep_piece hv
    have h':(decide ((1:Int)≤(z.length:Int)) && decide ((z.length:Int)≤8) && allIn SG z) = true:=ok
    simp only [Bool.and_eq_true,decide_eq_true_eq] at h'
    have zs:∀ c∈cod z,c∈cod SG:=fun c hc=>by simpa using List.all_eq_true.mp h'.2 c hc
    refine ⟨_,rfl,a,_,_,_,rfl,rfl,SqT.of e,rfl,rfl,_,rfl,iteTc rfl ?_⟩
    refine ⟨_,rfl,a,_,_,_,rfl,rfl,SqT.of e,rfl,z,rfl,?_⟩
    refine comp_map (fun v=>match v with | .str y=>.int (PySem.Txt.find SG y) | _=>.non) itIs_str (by rw [List.length_map]; exact Nat.le_trans (Nat.le_of_eq (cod_len z)) (by omega)) (fun x H' R hx s' hR=>?_) fun l H7 n7 s7 h7=>?_
    · obtain ⟨u,hu,rfl⟩:=List.mem_map.mp hx
      exact ⟨_,rfl,_,rfl,(idx_sg (zs u hu)).1,hR H' (Same.refl _)⟩
    rw [idx_map] at h7
    exact q l H7 s7 n7 h7
  | row lv ts=>
    obtain ⟨a,b,us,rfl,e,e2,r⟩:=rep_row hv
    have lu:=Reps.len _ _ r
    rw [List.length_map] at lu
    have l8:=ok.2.1
    refine ⟨_,rfl,a,_,_,_,rfl,rfl,SqT.of e,rfl,rfl,_,rfl,iteFc rfl ?_⟩
    refine ⟨_,rfl,a,_,_,_,rfl,rfl,SqT.of e,rfl,rfl,_,rfl,iteTc rfl ?_⟩
    refine ⟨_,rfl,a,_,_,_,rfl,rfl,SqT.of e,rfl,small (by show 1≤1000000; decide),fun p1 hp1=>?_⟩
    have s1:=same_new hp1 (.lst [V.int lv])
    have e2':=s1.get e2
    have r':=Reps.same s1 _ _ r
    refine ⟨_,rfl,a,_,_,_,rfl,rfl,SqT.of (s1.get e),rfl,b,rfl,⟨_,SqT.of e2'⟩,comp_map (fun v=>match v with | .ref x=>(match (upd H p1 (.lst [V.int lv])) x with | some (.tup [_,_,y])=>y | _=>.non) | _=>.non) (itIs_tup e2') (by omega) (fun x H' R hx s' hR=>?_) fun l H7 n7 s7 h7=>?_⟩
    · obtain ⟨t,ht,rt⟩:=reps_at r' hx
      obtain ⟨c,rfl,ec⟩:=rep_tg rt
      have:=hR H' (Same.refl _)
      simp only [ec] at this
      exact ⟨_,rfl,c,_,_,_,rfl,rfl,SqT.of (s'.get ec),rfl,this⟩
    rw [third_of r'] at h7
    refine ⟨p1,l,_,_,rfl,rfl,SqL.of (s7.get upd_same),SqL.of h7,small (by rw [List.length_map,List.length_map]; show 1 + ts.length≤1000000; omega),fun p hp=>?_⟩
    exact q p _ ((s1.trans s7).trans (same_new hp _)) ((s1.trans s7).free hp) upd_same
  | folder es=>
    obtain ⟨a,b,us,rfl,e,e2,r⟩:=rep_folder hv
    have lu:=Reps.len _ _ r
    rw [List.length_map] at lu
    obtain ⟨o1,o2,_⟩:=ok
    refine ⟨_,rfl,a,_,_,_,rfl,rfl,SqT.of e,rfl,rfl,_,rfl,iteFc rfl ?_⟩
    refine ⟨_,rfl,a,_,_,_,rfl,rfl,SqT.of e,rfl,rfl,_,rfl,iteFc rfl ?_⟩
    refine ⟨small (by show 0≤1000000; decide),fun g hg=>?_⟩
    have sg:=same_new hg (.lst [])
    refine ⟨_,rfl,a,_,_,_,rfl,rfl,SqT.of (sg.get e),rfl,b,rfl,⟨_,SqT.of (sg.get e2)⟩,for_tup (K:=K) (a:=b) (xs:=us) (fun i σ H2=>∃ v2 v3 v4,σ = [some (.ref a),some (.ref g),v2,v3,v4]∧Same H H2∧H2 g = some (.lst (((es.take i).flatMap enTold).map V.int))) ⟨none,none,none,rfl,sg,upd_same⟩ (fun i σ H2 _ ⟨_,_,_,_,s2,_⟩=>SqT.of (s2.get e2)) ?_ ?_⟩
    · rintro i y σ H2 hi ⟨v2,v3,v4,rfl,s2,hg2⟩
      obtain ⟨t,ht,ry⟩:=Reps.get r hi
      rw [List.getElem?_map] at ht
      cases z:es[i]? with
      | none=>rw [z] at ht; cases ht
      | some x=>
        rw [z] at ht
        cases ht
        obtain ⟨c,d,rfl,ec,ed⟩:=rep_en ry
        have ox:=o2 x (List.mem_of_getElem? z)
        obtain ⟨n1,n2,_,n4⟩:=name_parts ox.1
        have tl:((es.take i).flatMap enTold).length≤160:=by
          have:=told_len (es:=es.take i) fun y hy=>en_len (o2 y (List.mem_of_mem_take hy))
          rw [List.length_take] at this
          omega
        refine ⟨c,_,rfl,SqT.of (s2.get ec),rfl,_,_,rfl,_,_,rfl,_,_,rfl,rfl,?_⟩
        refine ⟨_,rfl,.inl ⟨rfl,_,SqL.of hg2⟩,_,rfl,x.nm,rfl,?_⟩
        refine comp_map (fun v=>match v with | .str y=>.int (PySem.Txt.find SG y) | _=>.non) itIs_str (by rw [List.length_map]; exact Nat.le_trans (Nat.le_of_eq (cod_len x.nm)) (by omega)) (fun u H' R hu s' hR=>?_) fun l H7 n7 s7 h7=>?_
        · obtain ⟨k,hk,rfl⟩:=List.mem_map.mp hu
          exact ⟨_,rfl,_,rfl,(idx_sg (n4 k hk)).1,hR H' (Same.refl _)⟩
        rw [idx_map] at h7
        refine ⟨g,l,_,_,rfl,rfl,s7.get hg2,h7,small (by rw [List.length_map,List.length_map,List.length_map,cod_len]; omega),?_⟩
        have t7:=same_upd (s2.trans s7) hg (.lst (((es.take i).flatMap enTold).map V.int ++ ((cod x.nm).map idx).map V.int))
        refine ⟨_,rfl,.inl ⟨rfl,_,SqL.of upd_same⟩,_,rfl,_,rfl,d,_,_,_,rfl,rfl,SqT.of (t7.get ed),rfl,small (by show 2≤1000000; decide),fun p hp=>?_⟩
        have t8:=same_new hp (.lst [V.int x.kd,V.int x.tg.2.2])
        refine ⟨g,p,_,_,rfl,rfl,t8.get upd_same,upd_same,small (by rw [List.length_append,List.length_map,List.length_map,List.length_map,cod_len]; show _ + _ + 2≤_; omega),?_⟩
        refine ⟨_,_,_,rfl,same_upd (t7.trans t8) hg _,?_⟩
        rw [upd_same,told_take z,List.map_append]
        unfold enTold
        rw [List.map_append,List.append_assoc]
        rfl
    · rintro σ H2 ⟨v2,v3,v4,rfl,s2,hg2⟩
      rw [lu,List.take_of_length_le (Nat.le_refl _)] at hg2
      exact ⟨_,rfl,q g H2 s2 hg hg2⟩
def kindB:Bk→Int
  | .piece _=>0
  | .row _ _=>1
  | .folder _=>2
def sumB (b:Bk):Int:=(told b).foldl (fun t n=>(31 * t + n + 1) % 997) (1 + kindB b)
theorem bk_first {H:Hp} {b:Bk} {v:V} (h:Rep NL H (bkT b) v):∃ a xs,v = .ref a∧H a = some (.tup (.int (kindB b) :: xs)):=by
  cases b with
  | piece z=>obtain ⟨a,rfl,e⟩:=rep_piece h; exact ⟨a,_,rfl,e⟩
  | row lv ts=>obtain ⟨a,b,us,rfl,e,_⟩:=rep_row h; exact ⟨a,_,rfl,e⟩
  | folder es=>obtain ⟨a,b,us,rfl,e,_⟩:=rep_folder h; exact ⟨a,_,rfl,e⟩
theorem at_first {x:V} {xs:List V}:atI (x :: xs) 0 = some x:=by
  unfold atI ixN
  simp
theorem ints_get {ns:List Int} {i:Nat} {y:V} (h:(ns.map V.int)[i]? = some y):∃ n,y = .int n∧ns[i]? = some n:=by
  rw [List.getElem?_map] at h
  cases z:ns[i]? with
  | none=>rw [z] at h; cases h
  | some n=>rw [z] at h; cases h; exact ⟨n,rfl,rfl⟩
theorem fold_take {f:Int→Int→Int} {z:Int} {ns:List Int} {i:Nat} {n:Int} (h:ns[i]? = some n):(ns.take (i + 1)).foldl f z = f ((ns.take i).foldl f z) n:=by
  rw [List.take_add_one,h,List.foldl_append]
  rfl
def sp_sum_of (K:PySem.W.Frag):Sp:=fun vs H Q _=>∃ v b,vs = [v]∧Rep NL H (bkT b) v∧bkOk b∧∀ H',Same H H'→Q (.int (sumB b)) H'
theorem ok_sum_of (T:Txt K mg C_WordReader C_Boards XC) (F:Fun K "sum_of" "sum_of" s_sum_of f fd) (D_numbers_told:Def P w K mg base 2 "numbers_told" ["block"] (sp_numbers_told K)):FnOk P w K mg base CX0 3 f fd ["block"] (sp_sum_of K):=by
  refine F.ok sc_sum_of (fun vs H Q E h=>?_) (fun cdv A outer s H vs Q E hr h=>?_)
  · obtain ⟨v,b,rfl,_⟩:=h
    rfl
  obtain ⟨v,b,rfl,hv,ok,q⟩:=h
  obtain ⟨a,xs,rfl,e⟩:=bk_first hv
  refine ⟨_,(@pss_cons _ _ _ _ _ (@ps_set _ _ (1) _ _ _ _ sc_sum_of.nd rfl (by first | exact Or.inl rfl | exact Or.inr rfl) (@pe_op _ _ _ _ _ _ _ _ op_add (@pe_int _ _ _ _) (@pe_ix _ _ _ _ _ _ _ ix_tup (pv 0) (@pe_int _ _ _ _) (fun _ _=>rfl))) (by rfl) (by first | exact .inl rfl | exact .inr rfl | assumption)) (@pss_cons _ _ _ _ _ (@ps_for _ _ _ _ _ _ _ _ PassesOwn.never rfl (@pi_list _ _ _ _ (@pe_fn _ _ _ _ _ _ _ _ _ _ D_numbers_told (hr.mono (by decide)) rfl (@pa_cons _ _ _ _ _ (pv 0) (@pa_nil _) (by rfl)) (by decide) (by rfl) (by rfl))) (@pg_name _ _ (2) _ sc_sum_of.nd rfl (by first | exact Or.inl rfl | exact Or.inr rfl) (by first | exact .inl rfl | exact .inr rfl | assumption)) (@pss_one _ _ _ (@ps_set _ _ (1) _ _ _ _ sc_sum_of.nd rfl (by first | exact Or.inl rfl | exact Or.inr rfl) (@pe_op _ _ _ _ _ _ _ _ op_mod (@pe_op _ _ _ _ _ _ _ _ op_add (@pe_op _ _ _ _ _ _ _ _ op_add (@pe_op _ _ _ _ _ _ _ _ op_mul (@pe_int _ _ _ _) (pv 1)) (pv 2)) (@pe_int _ _ _ _)) (@pe_globI _ _ _ _ rfl T.c_SUM_RESTS (by decide))) (by rfl) (by first | exact .inl rfl | exact .inr rfl | assumption))) (by intro _; rfl)) (@pss_one _ _ _ (@ps_ret _ _ _ _ (pv 1))))),?_⟩
  refine ⟨_,rfl,a,_,_,_,rfl,rfl,SqT.of e,at_first,_,_,rfl,rfl,?_⟩
  refine ⟨_,rfl,_,b,rfl,hv,ok,fun l H1 s1 n1 h1=>?_⟩
  refine ⟨l,rfl,⟨_,SqL.of h1⟩,for_list (K:=K) (a:=l) (xs:=(told b).map V.int) (fun i σ H2=>∃ v2,σ = [some (.ref a),some (.int (((told b).take i).foldl (fun t n=>(31 * t + n + 1) % 997) (1 + kindB b))),v2]∧Same H1 H2) ⟨none,rfl,Same.refl _⟩ (fun i σ H2 _ ⟨_,_,s2⟩=>SqL.of (s2.get h1)) ?_ ?_⟩
  · rintro i y σ H2 hi ⟨v2,rfl,s2⟩
    obtain ⟨n,rfl,hn⟩:=ints_get hi
    refine ⟨_,rfl,_,_,rfl,rfl,.inl ⟨by decide,by decide⟩,_,rfl,_,_,rfl,rfl,_,_,rfl,rfl,_,_,rfl,rfl,(show (0:Int) < 997 by decide),?_⟩
    refine ⟨some (.int n),?_,s2⟩
    rw [fold_take hn]
    rfl
  · rintro σ H2 ⟨v2,rfl,s2⟩
    rw [List.length_map,List.take_length]
    exact ⟨_,rfl,q H2 (s1.trans s2)⟩
theorem wlen_ints (ts:List Tg):(wTs (ts.map tgT)).length = 8 * ts.length:=by
  induction ts with
  | nil=>rfl
  | cons t r ih=>
    rw [List.map_cons]
    show (wT (tgT t) ++ wTs (r.map tgT)).length = _
    rw [List.length_append,ih,List.length_cons]
    have:(wT (tgT t)).length = 8:=rfl
    omega
def sizeB:Bk→Nat
  | .piece z=>6 + z.length
  | .row _ ts=>8 + 8 * ts.length
  | .folder es=>6 + (es.map fun x=>14 + x.nm.length).sum
theorem wlen_ens (es:List En):(wTs (es.map enT)).length = (es.map fun x=>14 + x.nm.length).sum:=by
  induction es with
  | nil=>rfl
  | cons x r ih=>
    rw [List.map_cons,List.map_cons,List.sum_cons,← ih]
    show (wT (enT x) ++ wTs (r.map enT)).length = _
    rw [List.length_append]
    have:(wT (enT x)).length = 14 + x.nm.length:=by
      show (2 :: ((3:Int)) :: ((1 :: (x.nm.length:Int) :: (cod x.nm).map idx) ++ ([0,x.kd] ++ (wT (tgT x.tg) ++ [])))).length = _
      have t8:(wT (tgT x.tg)).length = 8:=rfl
      simp only [List.length_cons,List.length_append,List.length_map,cod_len,List.length_nil,t8]
      omega
    omega
theorem wlen_bk (b:Bk):(wT (bkT b)).length = sizeB b:=by
  cases b with
  | piece z=>
    show (2 :: (2:Int) :: ([0,0] ++ ((1 :: (z.length:Int) :: (cod z).map idx) ++ []))).length = 6 + z.length
    simp only [List.length_cons,List.length_append,List.length_map,cod_len,List.length_nil]
    omega
  | row lv ts=>
    show (2 :: (3:Int) :: ([0,1] ++ ([0,lv] ++ ((2 :: ((ts.map tgT).length:Int) :: wTs (ts.map tgT)) ++ [])))).length = 8 + 8 * ts.length
    simp only [List.length_cons,List.length_append,List.length_nil,wlen_ints]
    omega
  | folder es=>
    show (2 :: (2:Int) :: ([0,2] ++ ((2 :: ((es.map enT).length:Int) :: wTs (es.map enT)) ++ []))).length = 6 + (es.map fun x=>14 + x.nm.length).sum
    simp only [List.length_cons,List.length_append,List.length_nil,wlen_ens]
    omega
theorem size_le {b:Bk} (h:bkOk b):sizeB b≤500:=by
  cases b with
  | piece z=>
    have h':(decide ((1:Int)≤(z.length:Int)) && decide ((z.length:Int)≤8) && allIn SG z) = true:=h
    simp only [Bool.and_eq_true,decide_eq_true_eq] at h'
    show 6 + z.length≤500
    omega
  | row lv ts=>
    have:=h.2.1
    show 8 + 8 * ts.length≤500
    omega
  | folder es=>
    have n:=h.1
    have s0:∀ l:List En,(∀ x∈l,enOk x)→(l.map fun x=>14 + x.nm.length).sum≤22 * l.length:=fun l=>by
      induction l with
      | nil=>intro _; exact Nat.le_refl _
      | cons x r ih=>
        intro hx
        rw [List.map_cons,List.sum_cons,List.length_cons]
        have:=ih fun y hy=>hx y (List.mem_cons_of_mem _ hy)
        have:=(name_parts (hx x List.mem_cons_self).1).2.1
        omega
    have:=s0 es h.2.1
    show 6 + _≤500
    omega
def sp__law_tag (K:PySem.W.Frag):Sp:=fun vs H Q _=>∃ n:Int,vs = [.int n]∧0≤n∧n < 2147483647∧∀ a t H',Same H H'→H a = none→tgOk t→H' a = some (.tup [.int t.1,.int t.2.1,.int t.2.2])→Q (.ref a) H'
theorem ok__law_tag (T:Txt K mg C_WordReader C_Boards XC) (F:Fun K "_law_tag" "_law_tag" s__law_tag f fd):FnOk P w K mg base CX0 1 f fd ["_law_number"] (sp__law_tag K):=by
  refine F.ok sc__law_tag (fun vs H Q E h=>?_) (fun cdv A outer s H vs Q E hr h=>?_)
  · obtain ⟨n,rfl,_⟩:=h
    rfl
  obtain ⟨n,rfl,n0,n1,q⟩:=h
  refine ⟨_,(@pss_cons _ _ _ _ _ (@ps_set _ _ (1) _ _ _ _ sc__law_tag.nd rfl (by first | exact Or.inl rfl | exact Or.inr rfl) (@pe_tup _ _ _ _ _ (@pa_cons _ _ _ _ _ (@pe_op _ _ _ _ _ _ _ _ op_add (@pe_int _ _ _ _) (@pe_op _ _ _ _ _ _ _ _ op_mod (pv 0) (@pe_int _ _ _ _))) (@pa_cons _ _ _ _ _ (@pe_op _ _ _ _ _ _ _ _ op_mod (@pe_op _ _ _ _ _ _ _ _ op_mul (pv 0) (@pe_int _ _ _ _)) (@pe_op _ _ _ _ _ _ _ _ op_pow (@pe_int _ _ _ _) (@pe_int _ _ _ _))) (@pa_cons _ _ _ _ _ (@pe_op _ _ _ _ _ _ _ _ op_mod (@pe_op _ _ _ _ _ _ _ _ op_fdiv (pv 0) (@pe_int _ _ _ _)) (@pe_int _ _ _ _)) (@pa_nil _) (by rfl)) (by rfl)) (by rfl))) (by rfl) (by first | exact .inl rfl | exact .inr rfl | assumption)) (@pss_cons _ _ _ _ _ (@ps_if _ _ _ _ _ _ _ _ (@pt_cmpR _ _ _ _ _ _ _ _ op_eq (@pe_op _ _ _ _ _ _ _ _ op_mod (pv 0) (@pe_int _ _ _ _)) (@pe_int _ _ _ _) (nomark _)) (@pss_one _ _ _ (@ps_set _ _ (1) _ _ _ _ sc__law_tag.nd rfl (by first | exact Or.inl rfl | exact Or.inr rfl) (@pe_tup _ _ _ _ _ (@pa_cons _ _ _ _ _ (@pe_int _ _ _ _) (@pa_cons _ _ _ _ _ (@pe_int _ _ _ _) (@pa_cons _ _ _ _ _ (@pe_ix _ _ _ _ _ _ _ ix_list (@pe_lst _ _ _ _ (@pa_cons _ _ _ _ _ (@pe_int _ _ _ _) (@pa_cons _ _ _ _ _ (@pe_int _ _ _ _) (@pa_nil _) (by rfl)) (by rfl))) (@pe_op _ _ _ _ _ _ _ _ op_mod (@pe_op _ _ _ _ _ _ _ _ op_fdiv (pv 0) (@pe_int _ _ _ _)) (@pe_int _ _ _ _)) (fun _ _=>rfl)) (@pa_nil _) (by rfl)) (by rfl)) (by rfl))) (by rfl) (by first | exact .inl rfl | exact .inr rfl | assumption))) (@pss_nil _)) (@pss_cons _ _ _ _ _ (@ps_if _ _ _ _ _ _ _ _ (@pt_cmpR _ _ _ _ _ _ _ _ op_eq (@pe_op _ _ _ _ _ _ _ _ op_mod (pv 0) (@pe_int _ _ _ _)) (@pe_int _ _ _ _) (nomark _)) (@pss_one _ _ _ (@ps_set _ _ (1) _ _ _ _ sc__law_tag.nd rfl (by first | exact Or.inl rfl | exact Or.inr rfl) (@pe_tup _ _ _ _ _ (@pa_cons _ _ _ _ _ (@pe_op _ _ _ _ _ _ _ _ op_add (@pe_int _ _ _ _) (@pe_op _ _ _ _ _ _ _ _ op_mod (pv 0) (@pe_int _ _ _ _))) (@pa_cons _ _ _ _ _ (@pe_op _ _ _ _ _ _ _ _ op_mod (@pe_op _ _ _ _ _ _ _ _ op_fdiv (pv 0) (@pe_int _ _ _ _)) (@pe_int _ _ _ _)) (@pa_cons _ _ _ _ _ (@pe_op _ _ _ _ _ _ _ _ op_mod (@pe_op _ _ _ _ _ _ _ _ op_fdiv (pv 0) (@pe_int _ _ _ _)) (@pe_int _ _ _ _)) (@pa_nil _) (by rfl)) (by rfl)) (by rfl))) (by rfl) (by first | exact .inl rfl | exact .inr rfl | assumption))) (@pss_nil _)) (@pss_one _ _ _ (@ps_ret _ _ _ _ (pv 1)))))),?_⟩
  refine seq_mid (fun σ H1=>∃ a t,σ = [some (.int n),some (.ref a)]∧Same H H1∧H a = none∧tgOk t∧H1 a = some (.tup [.int t.1,.int t.2.1,.int t.2.2])) (fun N hN=>?_) ?_
  · refine ⟨_,rfl,_,_,rfl,rfl,(show (0:Int) < 999999 by decide),_,_,rfl,rfl,_,rfl,_,_,rfl,rfl,.inr ⟨by decide,by decide⟩,_,_,rfl,rfl,⟨by decide,by decide,by decide⟩,_,_,rfl,rfl,(show (0:Int) < 10 ^ 9 by decide),_,rfl,_,_,rfl,rfl,⟨by decide,by decide⟩,_,_,rfl,rfl,(show (0:Int) < 997 by decide),small (by show 3≤1000000; decide),fun p hp=>?_⟩
    refine hN _ _ ⟨p,(1 + n % 999999,n * 48271 % 1000000000,n / 5 % 997),rfl,same_new hp _,hp,⟨by dsimp only; omega,by dsimp only; omega,by dsimp only; omega⟩,upd_same⟩
  rintro σ H1 ⟨a,t,rfl,s1,na,ot,ha⟩
  refine seq_mid (fun σ H2=>∃ a t,σ = [some (.int n),some (.ref a)]∧Same H H2∧H a = none∧tgOk t∧H2 a = some (.tup [.int t.1,.int t.2.1,.int t.2.2])) (fun N hN=>?_) ?_
  · refine ⟨_,rfl,_,_,rfl,rfl,(show (0:Int) < 7 by decide),rfl,_,rfl,ite2 (fun c=>?_) (fun c=>hN _ _ ⟨a,t,rfl,s1,na,ot,ha⟩)⟩
    refine ⟨small (by show 2≤1000000; decide),fun p hp=>?_⟩
    have s2:=same_new hp (.lst [V.int 996,V.int 0])
    obtain ⟨k,hk,k0,k1⟩:∃ k:Int,atI [V.int 996,V.int 0] (n / 7 % 2) = some (.int k)∧0≤k∧k≤996:=by
      rcases (show n / 7 % 2 = 0∨n / 7 % 2 = 1 by omega) with e | e
      · rw [e]; exact ⟨996,rfl,by decide,by decide⟩
      · rw [e]; exact ⟨0,rfl,by decide,by decide⟩
    refine ⟨_,rfl,_,_,rfl,rfl,⟨by decide,by decide⟩,_,_,rfl,rfl,(show (0:Int) < 2 by decide),p,_,_,_,rfl,rfl,SqL.of upd_same,hk,small (by show 3≤1000000; decide),fun p2 hp2=>?_⟩
    exact hN _ _ ⟨p2,(999999,999999999,k),rfl,(s1.trans s2).trans (same_new hp2 _),(s1.trans s2).free hp2,⟨⟨show (1:Int)≤999999 by decide,show (999999:Int)≤999999 by decide⟩,⟨show (0:Int)≤999999999 by decide,show (999999999:Int)≤999999999 by decide⟩,k0,k1⟩,upd_same⟩
  rintro σ H2 ⟨a,t,rfl,s2,na,ot,ha⟩
  refine seq_mid (fun σ H3=>∃ a t,σ = [some (.int n),some (.ref a)]∧Same H H3∧H a = none∧tgOk t∧H3 a = some (.tup [.int t.1,.int t.2.1,.int t.2.2])) (fun N hN=>?_) ?_
  · refine ⟨_,rfl,_,_,rfl,rfl,(show (0:Int) < 7 by decide),rfl,_,rfl,ite2 (fun c=>?_) (fun c=>hN _ _ ⟨a,t,rfl,s2,na,ot,ha⟩)⟩
    refine ⟨_,rfl,_,_,rfl,rfl,(show (0:Int) < 9 by decide),_,_,rfl,rfl,_,rfl,_,_,rfl,rfl,⟨by decide,by decide⟩,_,_,rfl,rfl,(show (0:Int) < 2 by decide),_,rfl,_,_,rfl,rfl,⟨by decide,by decide⟩,_,_,rfl,rfl,(show (0:Int) < 997 by decide),small (by show 3≤1000000; decide),fun p hp=>?_⟩
    exact hN _ _ ⟨p,(1 + n % 9,n / 9 % 2,n / 18 % 997),rfl,s2.trans (same_new hp _),s2.free hp,⟨by dsimp only; omega,by dsimp only; omega,by dsimp only; omega⟩,upd_same⟩
  rintro σ H3 ⟨a,t,rfl,s3,na,ot,ha⟩
  exact ⟨_,rfl,q a t H3 s3 na ot ha⟩
theorem ln_len:(cod LN).length = 36:=by decide +kernel
theorem at_cod {z:Str} {i:Int} (h0:0≤i) (h1:i < (cod z).length):∃ c,atI z.cps.toList i = some c∧c∈cod z:=by
  obtain ⟨k,rfl⟩:=Int.eq_ofNat_of_zero_le h0
  have hk:k < z.cps.toList.length:=by have:((k:Nat):Int) < (cod z).length:=h1; exact_mod_cast this
  refine ⟨z.cps.toList[k],?_,List.getElem_mem hk⟩
  have hk2:k < z.cps.size:=by simpa using hk
  unfold atI ixN
  rw [if_pos h0]
  simp [hk2]
theorem singles {T:List Nat}:∀ (ys:List V),(∀ y∈ys,∃ c,y = .str ⟨#[c]⟩∧c∈T)→∃ cs:List Nat,ys = (cs.map fun c=>(⟨#[c]⟩:Str)).map V.str∧∀ c∈cs,c∈T
  | [],_=>⟨[],rfl,fun _ h=>nomatch h⟩
  | y :: ys,h=>by
    obtain ⟨c,rfl,hc⟩:=h y List.mem_cons_self
    obtain ⟨cs,e,hs⟩:=singles ys fun y hy=>h y (List.mem_cons_of_mem _ hy)
    exact ⟨c :: cs,by rw [e]; rfl,fun d hd=>(List.mem_cons.mp hd).elim (fun z=>z ▸ hc) (hs d)⟩
theorem cod_singles (cs:List Nat):cod (PySem.Txt.join nilS (cs.map fun c=>(⟨#[c]⟩:Str))) = cs:=by
  rw [join_cod (g:=nilS) (by decide +kernel),List.map_map]
  induction cs with
  | nil=>rfl
  | cons c r ih=>rw [List.map_cons,List.flatten_cons,ih]; rfl
theorem fits_singles (cs:List Nat) (h:cs.length≤100):((cs.map fun c=>(⟨#[c]⟩:Str)).map (·.length)).sum + (cs.map fun c=>(⟨#[c]⟩:Str)).length * nilS.length≤16777216:=by
  have e:nilS.length = 0:=by decide +kernel
  have e2:((cs.map fun c=>(⟨#[c]⟩:Str)).map (·.length)).sum = cs.length:=by
    clear h
    induction cs with
    | nil=>rfl
    | cons c r ih=>
      rw [List.map_cons,List.map_cons,List.sum_cons,ih,List.length_cons]
      show 1 + r.length = _
      omega
  rw [e,e2]
  omega
def sp__law_name (K:PySem.W.Frag):Sp:=fun vs H Q _=>∃ n:Int,vs = [.int n]∧0≤n∧∀ z H',Same H H'→nameB (.str z) = true→Q (.str z) H'
theorem ok__law_name (T:Txt K mg C_WordReader C_Boards XC) (F:Fun K "_law_name" "_law_name" s__law_name f fd):FnOk P w K mg base CX0 1 f fd ["_law_number"] (sp__law_name K):=by
  refine F.ok sc__law_name (fun vs H Q E h=>?_) (fun cdv A outer s H vs Q E hr h=>?_)
  · obtain ⟨n,rfl,_⟩:=h
    rfl
  obtain ⟨n,rfl,n0,q⟩:=h
  refine ⟨_,(@pss_cons _ _ _ _ _ (@ps_set _ _ (1) _ _ _ _ sc__law_name.nd rfl (by first | exact Or.inl rfl | exact Or.inr rfl) (@pe_op _ _ _ _ _ _ _ _ op_add (@pe_int _ _ _ _) (@pe_op _ _ _ _ _ _ _ _ op_mod (pv 0) (@pe_int _ _ _ _))) (by rfl) (by first | exact .inl rfl | exact .inr rfl | assumption)) (@pss_cons _ _ _ _ _ (@ps_set _ _ (2) _ _ _ _ sc__law_name.nd rfl (by first | exact Or.inl rfl | exact Or.inr rfl) (@pe_str _ _ _ _) (by rfl) (by first | exact .inl rfl | exact .inr rfl | assumption)) (@pss_one _ _ _ (@ps_ret _ _ _ _ (@pe_bm _ _ _ _ _ _ _ _ _ _ _ _ PySem.F.plainAttrs_str PySem.F.slot_str_join PySem.F.type_str_join (mt_join rfl) (@pe_str _ _ _ _) (@pa_cons _ _ _ _ _ (@pe_comp _ ["_law_k","_law_signs_here","_law_number"] [none,some 2,some 0] _ _ _ _ _ _ _ _ _ _ _ rfl (@pi_range1 _ _ _ _ _ _ rfl T.b_range (@pa_cons _ _ _ _ _ (pv 1) (@pa_nil _) (by rfl)) (by rfl)) (by rfl) rfl (by repeat (first | exact trivial | refine ⟨rfl,?_⟩)) (by repeat (first | exact trivial | refine ⟨fun h=>(by first | exact ⟨_,rfl⟩ | cases h),?_⟩)) (fun C s H fp=>⟨(@pg_name _ _ (0) _ (show (["_law_k","_law_signs_here","_law_number"]:List Str).Nodup by decide +kernel) rfl (by first | exact Or.inl rfl | exact Or.inr rfl) (by first | exact .inl rfl | exact .inr rfl | assumption)),(@pifs_nil _),(@pe_ix _ _ _ _ _ _ _ ix_str (pv 1) (@pe_op _ _ _ _ _ _ _ _ op_mod (@pe_op _ _ _ _ _ _ _ _ op_add (@pe_op _ _ _ _ _ _ _ _ op_fdiv (pv 2) (@pe_int _ _ _ _)) (@pe_op _ _ _ _ _ _ _ _ op_mul (pv 0) (@pe_op _ _ _ _ _ _ _ _ op_mod (@pe_op _ _ _ _ _ _ _ _ op_fdiv (pv 2) (@pe_int _ _ _ _)) (@pe_int _ _ _ _)))) (@pe_int _ _ _ _)) (fun _ _=>rfl))⟩) (by intro _; rfl)) (@pa_nil _) (by rfl)) (by rfl) (by rfl) (by rfl) (by rfl) (by rfl)))))),?_⟩
  refine ⟨_,rfl,_,_,rfl,rfl,(show (0:Int) < 8 by decide),_,_,rfl,rfl,?_⟩
  obtain ⟨m,hm⟩:∃ m:Nat,1 + n % 8 = (m:Int):=⟨(1 + n % 8).toNat,by omega⟩
  have m1:1≤m:=by omega
  have m8:m≤8:=by omega
  dsimp only
  rw [hm]
  refine ⟨rfl,_,rfl,(m:Int),rfl,by omega,by omega,?_⟩
  refine comp_rel (xs:=(List.range (m:Int).toNat).map fun (i:Nat)=>V.int (0 + (i:Int))) (fun _ y _=>∃ c,y = .str ⟨#[c]⟩∧c∈cod LN) (fun _ _ _ _ h _=>h) (fun _ _ _ _ _ _ h _ _=>h) itIs_range (by rw [List.length_map,List.length_range]; omega) (fun x H' R hx s' hR=>?_) fun l H7 ys n7 s7 h7 l7 hy=>?_
  · obtain ⟨k,hk,rfl⟩:=List.mem_map.mp hx
    obtain ⟨c,hc,mc⟩:=at_cod (z:=LN) (i:=(n / 8 + (0 + (k:Int)) * (n / 288 % 36)) % 36) (Int.emod_nonneg _ (by decide)) (by rw [ln_len]; exact Int.emod_lt_of_pos _ (by decide))
    refine ⟨_,rfl,_,rfl,_,_,rfl,rfl,⟨by decide,by decide⟩,_,rfl,_,rfl,_,_,rfl,rfl,⟨by decide,by decide⟩,_,_,rfl,rfl,(show (0:Int) < 36 by decide),_,_,rfl,rfl,.inr ⟨by omega,by omega⟩,_,_,rfl,rfl,_,_,rfl,rfl,(show (0:Int) < 36 by decide),LN,_,c,rfl,rfl,small (by show LN.length≤1000000; decide +kernel),hc,?_⟩
    exact hR _ H' (Same.refl _) (fun _ z=>nomatch z) ⟨c,rfl,mc⟩
  obtain ⟨cs,rfl,hcs⟩:=singles (T:=cod LN) ys fun y hy'=>by
    obtain ⟨i,hi,e⟩:=List.getElem_of_mem hy'
    have lx:i < ((List.range (m:Int).toNat).map fun (i:Nat)=>V.int (0 + (i:Int))).length:=by rw [← l7]; exact hi
    exact (hy i _ y (List.getElem?_eq_getElem lx) (by rw [List.getElem?_eq_getElem hi,e])).1
  have lc:cs.length = m:=by
    rw [List.length_map,List.length_map,List.length_map,List.length_range] at l7
    omega
  refine ⟨l,nilS,_,rfl,rfl,SqL.of h7,fits_singles cs (by omega),q _ H7 s7 ?_⟩
  have ec:=cod_singles cs
  have el:(PySem.Txt.join nilS (cs.map fun c=>(⟨#[c]⟩:Str))).length = m:=by rw [← cod_len,ec,lc]
  show (decide ((1:Int)≤((PySem.Txt.join nilS (cs.map fun c=>(⟨#[c]⟩:Str))).length:Int)) && decide (((PySem.Txt.join nilS (cs.map fun c=>(⟨#[c]⟩:Str))).length:Int)≤8) && allIn LN (PySem.Txt.join nilS (cs.map fun c=>(⟨#[c]⟩:Str)))) = true
  unfold allIn
  rw [el,ec,Bool.and_eq_true,Bool.and_eq_true,decide_eq_true_eq,decide_eq_true_eq,List.all_eq_true]
  exact ⟨⟨by omega,by omega⟩,fun c hc=>decide_eq_true (hcs c hc)⟩
theorem sl_ints (ns:List Int) {lo hi:Int} (h0:0≤lo) (h1:0≤hi):cutV (ns.map V.int) (some lo) (some hi) = ((ns.drop lo.toNat).take (hi.toNat - lo.toNat)).map V.int:=by
  rw [cut_lohi h0 h1,← List.map_drop,← List.map_take]
theorem sg_len':(cod SG).length = 94:=by decide +kernel
theorem tags_build {H:Hp}:∀ (ys:List V),(∀ y∈ys,∃ a t,y = .ref a∧tgOk t∧H a = some (.tup [.int t.1,.int t.2.1,.int t.2.2]))→∃ ts:List Tg,ts.length = ys.length∧(∀ t∈ts,tgOk t)∧Reps NL H (ts.map tgT) ys
  | [],_=>⟨[],rfl,(fun _ h=>nomatch h),rfl⟩
  | y :: ys,h=>by
    obtain ⟨a,t,rfl,ot,e⟩:=h y List.mem_cons_self
    obtain ⟨ts,l,o,r⟩:=tags_build ys fun y hy=>h y (List.mem_cons_of_mem _ hy)
    exact ⟨t :: ts,by rw [List.length_cons,List.length_cons,l],fun u hu=>(List.mem_cons.mp hu).elim (fun z=>z ▸ ot) (o u),⟨.ref a,ys,rfl,tg_rep e,r⟩⟩
theorem each_of {Pr:V→Prop} {xs ys:List V} {n:Nat} (l7:ys.length = xs.length) (h:∀ (i:Nat) x y,xs[i]? = some x→ys[i]? = some y→Pr y):∀ y∈ys,Pr y:=fun y hy=>by
  obtain ⟨i,hi,e⟩:=List.getElem_of_mem hy
  have lx:i < xs.length:=by rw [← l7]; exact hi
  exact h i _ y (List.getElem?_eq_getElem lx) (by rw [List.getElem?_eq_getElem hi,e])
def TgAt (H:Hp) (y:V):Prop:=∃ a t,y = .ref a∧tgOk t∧H a = some (.tup [.int t.1,.int t.2.1,.int t.2.2])
theorem TgAt.upd {H:Hp} {y:V} {l:Addr} {us us':List V} (h:TgAt H y) (hl:H l = some (.lst us)):TgAt (upd H l (.lst us')) y:=by
  obtain ⟨a,t,rfl,ot,e⟩:=h
  exact ⟨a,t,rfl,ot,by rw [upd_ne (fun z=>by rw [z,hl] at e; cases e)]; exact e⟩
def DEnt (H:Hp) (e:Key×V):Prop:=∃ z p b kd t,e = (.inr z,.ref p)∧nameB (.str z) = true∧H p = some (.tup [.int kd,.ref b])∧(1≤kd∧kd≤2)∧tgOk t∧H b = some (.tup [.int t.1,.int t.2.1,.int t.2.2])
theorem DEnt.keep {H H':Hp} {e:Key×V} (h:DEnt H e) (k:∀ c xs,H c = some (.tup xs)→H' c = some (.tup xs)):DEnt H' e:=by
  obtain ⟨z,p,b,kd,t,e1,e2,e3,e4,e5,e6⟩:=h
  exact ⟨z,p,b,kd,t,e1,e2,k _ _ e3,e4,e5,k _ _ e6⟩
theorem put_mem {kvs:List (Key×V)} {k:Key} {v:V} {e:Key×V} (h:e∈putK kvs k v):e∈kvs∨e = (k,v):=by
  unfold putK at h
  split at h
  · obtain ⟨x,hx,rfl⟩:=List.mem_map.mp h
    by_cases c:x.1 = k
    · rw [if_pos c,c]; exact .inr rfl
    · rw [if_neg c]; exact .inl hx
  · rcases List.mem_append.mp h with h | h
    · exact .inl h
    · exact .inr (List.mem_singleton.mp h)
theorem put_nodup {kvs:List (Key×V)} {k:Key} {v:V} (h:(kvs.map (·.1)).Nodup):((putK kvs k v).map (·.1)).Nodup:=by
  unfold putK
  split
  · rw [List.map_map]
    have e:(kvs.map ((fun x:Key×V=>x.1)∘fun kv=>if kv.1 = k then (kv.1,v) else kv)) = kvs.map (·.1):=List.map_congr_left fun x _=>by
      show (if x.1 = k then (x.1,v) else x).1 = x.1
      split <;> rfl
    rw [e]; exact h
  · rename_i c
    rw [List.map_append,List.nodup_append]
    refine ⟨h,by simp,fun a ha b hb=>?_⟩
    rw [List.map_cons,List.map_nil,List.mem_singleton] at hb
    subst hb
    intro z
    subst z
    obtain ⟨x,hx,e⟩:=List.mem_map.mp ha
    exact c (List.any_eq_true.mpr ⟨x,hx,decide_eq_true e⟩)
theorem val_of {kvs:List (Key×V)} {k:Key} (h:k∈kvs.map (·.1)):∃ v,valV kvs k = some v∧(k,v)∈kvs:=by
  obtain ⟨x,hx,e⟩:=List.mem_map.mp h
  have a:(valV kvs k).isSome = true:=by
    rw [← valV_any]
    exact List.any_eq_true.mpr ⟨x,hx,decide_eq_true e⟩
  obtain ⟨v,hv⟩:=Option.isSome_iff_exists.mp a
  refine ⟨v,hv,?_⟩
  unfold valV at hv
  cases z:kvs.find? fun kv=>decide (kv.1 = k) with
  | none=>rw [z] at hv; cases hv
  | some y=>
    rw [z] at hv
    injection hv with hv
    have h1:=List.find?_some z
    have h2:=List.mem_of_find?_eq_some z
    have e1:y.1 = k:=of_decide_eq_true h1
    rw [← e1,← hv]
    exact h2
theorem keys_strs {H:Hp}:∀ (kvs:List (Key×V)),(∀ e∈kvs,DEnt H e)→∃ ss:List Str,kvs.map (·.1) = ss.map Sum.inr
  | [],_=>⟨[],rfl⟩
  | e :: r,h=>by
    obtain ⟨z,p,b,kd,t,rfl,_⟩:=h e List.mem_cons_self
    obtain ⟨ss,es⟩:=keys_strs r fun x hx=>h x (List.mem_cons_of_mem _ hx)
    exact ⟨z :: ss,by rw [List.map_cons,es]; rfl⟩
def EnAt (H:Hp) (z y:V):Prop:=∃ (x:En) (p b:Addr),z = .str x.nm∧y = .ref p∧enOk x∧H p = some (.tup [.str x.nm,.int x.kd,.ref b])∧H b = some (.tup [.int x.tg.1,.int x.tg.2.1,.int x.tg.2.2])
theorem EnAt.keep {H H':Hp} {z y:V} (h:EnAt H z y) (k:∀ c xs,H c = some (.tup xs)→H' c = some (.tup xs)):EnAt H' z y:=by
  obtain ⟨x,p,b,e1,e2,e3,e4,e5⟩:=h
  exact ⟨x,p,b,e1,e2,e3,k _ _ e4,k _ _ e5⟩
theorem ens_build {H:Hp}:∀ (ts:List Str) (ys:List V),ys.length = (ts.map V.str).length→(∀ (i:Nat) x y,(ts.map V.str)[i]? = some x→ys[i]? = some y→EnAt H x y)→∃ es:List En,es.map (·.nm) = ts∧(∀ x∈es,enOk x)∧Reps NL H (es.map enT) ys
  | [],[],_,_=>⟨[],rfl,(fun _ h=>nomatch h),rfl⟩
  | [],_ :: _,h,_=>absurd h (by simp)
  | _ :: _,[],h,_=>absurd h (by simp)
  | t :: ts,y :: ys,h,f=>by
    obtain ⟨x,p,b,e1,rfl,o,e2,e3⟩:=f 0 _ _ rfl rfl
    obtain ⟨es,n,os,r⟩:=ens_build ts ys (by simpa using h) fun i x y h1 h2=>f (i + 1) x y h1 h2
    injection e1 with e1
    subst e1
    exact ⟨x :: es,by rw [List.map_cons,n],fun u hu=>(List.mem_cons.mp hu).elim (fun z=>z ▸ o) (os u),⟨.ref p,ys,rfl,en_rep e2 e3,r⟩⟩
theorem nodup_inr:∀ (ss:List Str),(ss.map (Sum.inr:Str→Key)).Nodup→ss.Nodup
  | [],_=>List.nodup_nil
  | x :: r,h=>by
    rw [List.map_cons,List.nodup_cons] at h
    exact List.nodup_cons.mpr ⟨fun z=>h.1 (List.mem_map.mpr ⟨x,z,rfl⟩),nodup_inr r h.2⟩
def sp__law_block (K:PySem.W.Frag):Sp:=fun vs H Q _=>∃ (a:Addr) (ns:List Int),vs = [.ref a]∧H a = some (.lst (ns.map V.int))∧ns.length = 24∧(∀ x∈ns,0≤x∧x < 2147483647)∧∀ v b H',Same H H'→bkOk b→Rep NL H' (bkT b) v→Q v H'
theorem ok__law_block (T:Txt K mg C_WordReader C_Boards XC) (F:Fun K "_law_block" "_law_block" s__law_block f fd) (D__law_name:Def P w K mg base 1 "_law_name" ["_law_number"] (sp__law_name K)) (D__law_tag:Def P w K mg base 1 "_law_tag" ["_law_number"] (sp__law_tag K)) (D__law_signs:Def P w K mg base 1 "_law_signs" [] (sp__law_signs K)):FnOk P w K mg base CX0 2 f fd ["_law_some"] (sp__law_block K):=by
  refine F.ok sc__law_block (fun vs H Q E h=>?_) (fun cdv A outer s H vs Q E hr h=>?_)
  · obtain ⟨a,ns,rfl,_⟩:=h
    rfl
  obtain ⟨a,ns,rfl,ha,ln,nb,q⟩:=h
  have hu:=hu_of hr
  have nn:∀ k:Nat,k < 24→0≤ns.getD k 0:=fun k hk=>by
    have hk':k < ns.length:=by omega
    simp only [List.getD,List.getElem?_eq_getElem hk',Option.getD_some]
    exact (nb _ (List.getElem_mem hk')).1
  have p0:=nn 0 (by decide)
  have p1:=nn 1 (by decide)
  have p2:=nn 2 (by decide)
  have A0:atI (ns.map V.int) 0 = some (.int (ns.getD 0 0)):=at_int (by decide) (by omega)
  have A1:atI (ns.map V.int) 1 = some (.int (ns.getD 1 0)):=at_int (by decide) (by omega)
  have A2:atI (ns.map V.int) 2 = some (.int (ns.getD 2 0)):=at_int (by decide) (by omega)
  generalize ns.getD 0 0 = r0 at p0 A0
  generalize ns.getD 1 0 = r1 at p1 A1
  generalize ns.getD 2 0 = r2 at p2 A2
  refine ⟨_,(@pss_cons _ _ _ _ _ (@ps_if _ _ _ _ _ _ _ _ (@pt_cmpR _ _ _ _ _ _ _ _ op_eq (@pe_op _ _ _ _ _ _ _ _ op_mod (@pe_ix _ _ _ _ _ _ _ ix_list (pv 0) (@pe_int _ _ _ _) (fun _ _=>rfl)) (@pe_int _ _ _ _)) (@pe_int _ _ _ _) (nomark _)) (@pss_one _ _ _ (@ps_ret _ _ _ _ (@pe_tup _ _ _ _ _ (@pa_cons _ _ _ _ _ (@pe_int _ _ _ _) (@pa_cons _ _ _ _ _ (@pe_bm _ _ _ _ _ _ _ _ _ _ _ _ PySem.F.plainAttrs_str PySem.F.slot_str_join PySem.F.type_str_join (mt_join rfl) (@pe_str _ _ _ _) (@pa_cons _ _ _ _ _ (@pe_comp0 _ ["_law_number"] _ _ _ _ _ _ _ _ _ _ rfl (@pi_list _ _ _ _ (@pe_slice _ _ _ _ _ _ _ _ _ _ sl_list (pv 0) (@po_some _ _ _ (@pe_int _ _ _ _)) (@po_some _ _ _ (@pe_op _ _ _ _ _ _ _ _ op_add (@pe_int _ _ _ _) (@pe_op _ _ _ _ _ _ _ _ op_mod (@pe_ix _ _ _ _ _ _ _ ix_list (pv 0) (@pe_int _ _ _ _) (fun _ _=>rfl)) (@pe_int _ _ _ _)))))) (by decide +kernel) (fun C s H fp=>⟨(@pg_name _ _ (0) _ (show (["_law_number"]:List Str).Nodup by decide +kernel) rfl (by first | exact Or.inl rfl | exact Or.inr rfl) (by first | exact .inl rfl | exact .inr rfl | assumption)),(@pifs_nil _),(@pe_ix _ _ _ _ _ _ _ ix_str (@pe_fn0 _ _ _ _ _ _ _ D__law_signs (hr.mono (by decide)) rfl (by decide)) (@pe_op _ _ _ _ _ _ _ _ op_mod (pv 0) (@pe_int _ _ _ _)) (fun _ _=>rfl))⟩) (by intro _; rfl)) (@pa_nil _) (by rfl)) (by rfl) (by rfl) (by rfl) (by rfl) (by rfl)) (@pa_nil _) (by rfl)) (by rfl))))) (@pss_nil _)) (@pss_cons _ _ _ _ _ (@ps_if _ _ _ _ _ _ _ _ (@pt_cmpR _ _ _ _ _ _ _ _ op_eq (@pe_op _ _ _ _ _ _ _ _ op_mod (@pe_ix _ _ _ _ _ _ _ ix_list (pv 0) (@pe_int _ _ _ _) (fun _ _=>rfl)) (@pe_int _ _ _ _)) (@pe_int _ _ _ _) (nomark _)) (@pss_cons _ _ _ _ _ (@ps_set _ _ (1) _ _ _ _ sc__law_block.nd rfl (by first | exact Or.inl rfl | exact Or.inr rfl) (@pe_op _ _ _ _ _ _ _ _ op_add (@pe_int _ _ _ _) (@pe_op _ _ _ _ _ _ _ _ op_mod (@pe_ix _ _ _ _ _ _ _ ix_list (pv 0) (@pe_int _ _ _ _) (fun _ _=>rfl)) (@pe_int _ _ _ _))) (by rfl) (by first | exact .inl rfl | exact .inr rfl | assumption)) (@pss_cons _ _ _ _ _ (@ps_set _ _ (2) _ _ _ _ sc__law_block.nd rfl (by first | exact Or.inl rfl | exact Or.inr rfl) (@pe_callB _ _ _ _ _ _ _ _ _ (call_max2 rfl) (by rfl) T.b_max bt_max (@pa_cons _ _ _ _ _ (@pe_callTy _ _ _ _ _ _ _ _ _ call_int1 (by rfl) T.b_int bt_int (@pa_cons _ _ _ _ _ (@pe_cmpR _ _ _ _ _ _ _ _ op_gt (pv 1) (@pe_int _ _ _ _) (nomark _)) (@pa_nil _) (by rfl)) (by decide) (by decide) (by rfl) (by rfl)) (@pa_cons _ _ _ _ _ (@pe_op _ _ _ _ _ _ _ _ op_mod (@pe_ix _ _ _ _ _ _ _ ix_list (pv 0) (@pe_int _ _ _ _) (fun _ _=>rfl)) (@pe_int _ _ _ _)) (@pa_nil _) (by rfl)) (by rfl)) (by decide) (by decide) (by rfl) (by rfl)) (by rfl) (by first | exact .inl rfl | exact .inr rfl | assumption)) (@pss_one _ _ _ (@ps_ret _ _ _ _ (@pe_tup _ _ _ _ _ (@pa_cons _ _ _ _ _ (@pe_int _ _ _ _) (@pa_cons _ _ _ _ _ (pv 1) (@pa_cons _ _ _ _ _ (@pe_callTy _ _ _ _ _ _ _ _ _ call_tuple_of (by rfl) T.b_tuple bt_tuple (@pa_cons _ _ _ _ _ (@pe_comp0 _ ["_law_number"] _ _ _ _ _ _ _ _ _ _ rfl (@pi_list _ _ _ _ (@pe_slice _ _ _ _ _ _ _ _ _ _ sl_list (pv 0) (@po_some _ _ _ (@pe_int _ _ _ _)) (@po_some _ _ _ (@pe_op _ _ _ _ _ _ _ _ op_add (@pe_int _ _ _ _) (pv 2))))) (by decide +kernel) (fun C s H fp=>⟨(@pg_name _ _ (0) _ (show (["_law_number"]:List Str).Nodup by decide +kernel) rfl (by first | exact Or.inl rfl | exact Or.inr rfl) (by first | exact .inl rfl | exact .inr rfl | assumption)),(@pifs_nil _),(@pe_fn _ _ _ _ _ _ _ _ _ _ D__law_tag (hr.mono (by decide)) rfl (@pa_cons _ _ _ _ _ (pv 0) (@pa_nil _) (by rfl)) (by decide) (by rfl) (by rfl))⟩) (by intro _; rfl)) (@pa_nil _) (by rfl)) (by decide) (by decide) (by rfl) (by rfl)) (@pa_nil _) (by rfl)) (by rfl)) (by rfl))))))) (@pss_nil _)) (@pss_cons _ _ _ _ _ (@ps_set _ _ (3) _ _ _ _ sc__law_block.nd rfl (by first | exact Or.inl rfl | exact Or.inr rfl) (@pe_dnewK _ _) (by rfl) (by first | exact .inl rfl | exact .inr rfl | assumption)) (@pss_cons _ _ _ _ _ (@ps_for _ _ _ _ _ _ _ _ PassesOwn.never rfl (@pi_list _ _ _ _ (@pe_slice _ _ _ _ _ _ _ _ _ _ sl_list (pv 0) (@po_some _ _ _ (@pe_int _ _ _ _)) (@po_some _ _ _ (@pe_op _ _ _ _ _ _ _ _ op_add (@pe_int _ _ _ _) (@pe_op _ _ _ _ _ _ _ _ op_mod (@pe_ix _ _ _ _ _ _ _ ix_list (pv 0) (@pe_int _ _ _ _) (fun _ _=>rfl)) (@pe_int _ _ _ _)))))) (@pg_name _ _ (4) _ sc__law_block.nd rfl (by first | exact Or.inl rfl | exact Or.inr rfl) (by first | exact .inl rfl | exact .inr rfl | assumption)) (@pss_one _ _ _ (@ps_dput _ _ _ _ _ _ _ _ _ hu (pv 3) (@pe_fn _ _ _ _ _ _ _ _ _ _ D__law_name (hr.mono (by decide)) rfl (@pa_cons _ _ _ _ _ (pv 4) (@pa_nil _) (by rfl)) (by decide) (by rfl) (by rfl)) (@pe_tup _ _ _ _ _ (@pa_cons _ _ _ _ _ (@pe_op _ _ _ _ _ _ _ _ op_add (@pe_int _ _ _ _) (@pe_op _ _ _ _ _ _ _ _ op_mod (@pe_op _ _ _ _ _ _ _ _ op_fdiv (pv 4) (@pe_int _ _ _ _)) (@pe_int _ _ _ _))) (@pa_cons _ _ _ _ _ (@pe_fn _ _ _ _ _ _ _ _ _ _ D__law_tag (hr.mono (by decide)) rfl (@pa_cons _ _ _ _ _ (@pe_op _ _ _ _ _ _ _ _ op_mod (@pe_op _ _ _ _ _ _ _ _ op_mul (pv 4) (@pe_int _ _ _ _)) (@pe_int _ _ _ _)) (@pa_nil _) (by rfl)) (by decide) (by rfl) (by rfl)) (@pa_nil _) (by rfl)) (by rfl))) rfl)) (by intro _; rfl)) (@pss_one _ _ _ (@ps_ret _ _ _ _ (@pe_tup _ _ _ _ _ (@pa_cons _ _ _ _ _ (@pe_int _ _ _ _) (@pa_cons _ _ _ _ _ (@pe_callTy _ _ _ _ _ _ _ _ _ call_tuple_of (by rfl) T.b_tuple bt_tuple (@pa_cons _ _ _ _ _ (@pe_comp _ ["_law_name_here","_law_entries"] [none,some 3] _ _ _ _ _ _ _ _ _ _ _ rfl (@pi_list _ _ _ _ (@pe_callB _ _ _ _ _ _ _ _ _ (call_sortD rfl) (by rfl) T.b_sorted bt_sorted (@pa_cons _ _ _ _ _ (pv 3) (@pa_nil _) (by rfl)) (by decide) (by decide) (by rfl) (by rfl))) (by rfl) rfl (by repeat (first | exact trivial | refine ⟨rfl,?_⟩)) (by repeat (first | exact trivial | refine ⟨fun h=>(by first | exact ⟨_,rfl⟩ | cases h),?_⟩)) (fun C s H fp=>⟨(@pg_name _ _ (0) _ (show (["_law_name_here","_law_entries"]:List Str).Nodup by decide +kernel) rfl (by first | exact Or.inl rfl | exact Or.inr rfl) (by first | exact .inl rfl | exact .inr rfl | assumption)),(@pifs_nil _),(@pe_op _ _ _ _ _ _ _ _ (op_catT3K (K:=K) (by rfl)) (@pe_tup _ _ _ _ _ (@pa_cons _ _ _ _ _ (pv 0) (@pa_nil _) (by rfl))) (@pe_dget _ _ _ _ _ _ hu (pv 1) (pv 0) (fun _ _=>rfl)))⟩) (by intro _; rfl)) (@pa_nil _) (by rfl)) (by decide) (by decide) (by rfl) (by rfl)) (@pa_nil _) (by rfl)) (by rfl))))))))),?_⟩
  refine ⟨_,rfl,a,_,_,_,rfl,rfl,SqL.of ha,A0,_,_,rfl,rfl,(show (0:Int) < 3 by decide),rfl,_,rfl,ite2 (fun c=>?_) (fun c=>?_)⟩
  · refine ⟨rfl,_,rfl,2,rfl,_,rfl,a,_,_,_,rfl,rfl,SqL.of ha,A1,_,_,rfl,rfl,(show (0:Int) < 8 by decide),_,_,rfl,rfl,_,rfl,a,_,rfl,SqL.of ha,fun p hp=>?_⟩
    rw [sl_ints ns (by decide) (by omega)]
    have s1:=same_new hp (.lst (((ns.drop (2:Int).toNat).take ((3 + r1 % 8).toNat - (2:Int).toNat)).map V.int))
    have lm:((ns.drop (2:Int).toNat).take ((3 + r1 % 8).toNat - (2:Int).toNat)).length = (1 + r1 % 8).toNat:=by
      rw [List.length_take,List.length_drop,ln]
      show min ((3 + r1 % 8).toNat - 2) (24 - 2) = _
      omega
    refine ⟨p,rfl,⟨_,SqL.of upd_same⟩,comp_rel (xs:=((ns.drop (2:Int).toNat).take ((3 + r1 % 8).toNat - (2:Int).toNat)).map V.int) (fun _ y _=>∃ c,y = .str ⟨#[c]⟩∧c∈cod SG) (fun _ _ _ _ h _=>h) (fun _ _ _ _ _ _ h _ _=>h) (itIs_list (SqL.of upd_same)) (by rw [List.length_map,lm]; omega) (fun x H' R hx s' hR=>?_) fun l H7 ys n7 s7 h7 l7 hy=>?_⟩
    · obtain ⟨k,hk,rfl⟩:=List.mem_map.mp hx
      obtain ⟨c,hc,mc⟩:=at_cod (z:=SG) (i:=k % 94) (Int.emod_nonneg _ (by decide)) (by rw [sg_len']; exact Int.emod_lt_of_pos _ (by decide))
      exact ⟨rfl,_,rfl,_,_,rfl,rfl,(show (0:Int) < 94 by decide),SG,_,c,rfl,rfl,small (by show SG.length≤1000000; decide +kernel),hc,hR _ H' (Same.refl _) (fun _ z=>nomatch z) ⟨c,rfl,mc⟩⟩
    obtain ⟨cs,rfl,hcs⟩:=singles (T:=cod SG) ys (each_of (n:=0) l7 fun i x y h1 h2=>(hy i x y h1 h2).1)
    have lc:cs.length = (1 + r1 % 8).toNat:=by
      rw [List.length_map,List.length_map,List.length_map,lm] at l7
      exact l7
    have ec:=cod_singles cs
    have el:(PySem.Txt.join nilS (cs.map fun c=>(⟨#[c]⟩:Str))).length = (1 + r1 % 8).toNat:=by rw [← cod_len,ec,lc]
    refine ⟨l,nilS,_,rfl,rfl,SqL.of h7,fits_singles cs (by omega),small (by show 2≤1000000; decide),fun p2 hp2=>?_⟩
    refine q _ (.piece (PySem.Txt.join nilS (cs.map fun c=>(⟨#[c]⟩:Str)))) _ ((s1.trans s7).trans (same_new hp2 _)) ?_ ⟨p2,_,rfl,upd_same,_,_,rfl,rfl,_,_,rfl,rfl,rfl⟩
    show (decide ((1:Int)≤((PySem.Txt.join nilS (cs.map fun c=>(⟨#[c]⟩:Str))).length:Int)) && decide (((PySem.Txt.join nilS (cs.map fun c=>(⟨#[c]⟩:Str))).length:Int)≤8) && allIn SG (PySem.Txt.join nilS (cs.map fun c=>(⟨#[c]⟩:Str)))) = true
    unfold allIn
    rw [el,ec,Bool.and_eq_true,Bool.and_eq_true,decide_eq_true_eq,decide_eq_true_eq,List.all_eq_true]
    exact ⟨⟨by omega,by omega⟩,fun c hc=>decide_eq_true (hcs c hc)⟩
  refine ⟨_,rfl,a,_,_,_,rfl,rfl,SqL.of ha,A0,_,_,rfl,rfl,(show (0:Int) < 3 by decide),rfl,_,rfl,ite2 (fun c=>?_) (fun c=>?_)⟩
  · refine ⟨_,rfl,a,_,_,_,rfl,rfl,SqL.of ha,A1,_,_,rfl,rfl,(show (0:Int) < 9 by decide),_,_,rfl,rfl,?_⟩
    refine ⟨_,rfl,_,_,rfl,rfl,.inr ⟨_,rfl,_,rfl,a,_,_,_,rfl,rfl,SqL.of ha,A2,_,_,rfl,rfl,(show (0:Int) < 9 by decide),_,_,rfl,?_⟩⟩
    dsimp only
    obtain ⟨m,hm,m8,m1⟩:∃ m:Nat,(if r2 % 9 > (if decide (1 < 1 + r1 % 9) = true then (1:Int) else 0) then r2 % 9 else (if decide (1 < 1 + r1 % 9) = true then (1:Int) else 0)) = (m:Int)∧m≤8∧(1 < 1 + r1 % 9→1≤m):=by
      by_cases c1:1 < 1 + r1 % 9
      · rw [decide_eq_true c1,if_pos rfl]
        by_cases c2:r2 % 9 > 1
        · rw [if_pos c2]; exact ⟨(r2 % 9).toNat,by omega,by omega,by omega⟩
        · rw [if_neg c2]; exact ⟨1,rfl,by decide,fun _=>Nat.le_refl _⟩
      · rw [decide_eq_false c1,if_neg Bool.false_ne_true]
        by_cases c2:r2 % 9 > 0
        · rw [if_pos c2]; exact ⟨(r2 % 9).toNat,by omega,by omega,by omega⟩
        · rw [if_neg c2]; exact ⟨0,rfl,by decide,fun z=>absurd z c1⟩
    rw [hm]
    refine ⟨_,rfl,_,rfl,3,rfl,_,rfl,_,_,rfl,rfl,_,rfl,a,_,rfl,SqL.of ha,fun p hp=>?_⟩
    rw [sl_ints ns (by decide) (by omega)]
    have s1:=same_new hp (.lst (((ns.drop (3:Int).toNat).take ((3 + (m:Int)).toNat - (3:Int).toNat)).map V.int))
    have lm:((ns.drop (3:Int).toNat).take ((3 + (m:Int)).toNat - (3:Int).toNat)).length = m:=by
      rw [List.length_take,List.length_drop,ln]
      show min ((3 + (m:Int)).toNat - 3) (24 - 3) = _
      omega
    refine ⟨p,rfl,⟨_,SqL.of upd_same⟩,comp_rel (xs:=((ns.drop (3:Int).toNat).take ((3 + (m:Int)).toNat - (3:Int).toNat)).map V.int) (fun _ y H=>TgAt H y) (fun _ y _ _ h s=>let ⟨a,t,e1,e2,e3⟩:=h; ⟨a,t,e1,e2,s.get e3⟩) (fun _ _ _ _ _ _ h hl _=>h.upd hl) (itIs_list (SqL.of upd_same)) (by rw [List.length_map,lm]; omega) (fun x H' R hx s' hR=>?_) fun l H7 ys n7 s7 h7 l7 hy=>?_⟩
    · obtain ⟨k,hk,rfl⟩:=List.mem_map.mp hx
      have bk:=nb k (List.mem_of_mem_drop (List.mem_of_mem_take hk))
      exact ⟨_,rfl,k,rfl,bk.1,bk.2,fun b t H3 s3 nb3 ot hb=>hR _ H3 s3 (fun x e=>by cases e; exact nb3) ⟨b,t,rfl,ot,hb⟩⟩
    obtain ⟨ts,lt,ot,rt⟩:=tags_build ys (each_of (n:=0) l7 fun i x y h1 h2=>(hy i x y h1 h2).1)
    rw [List.length_map,lm] at l7
    refine ⟨l,ys,rfl,.inl ⟨SqL.of h7,fun p2 hp2=>?_⟩⟩
    have s2:=same_new hp2 (.tup ys)
    refine ⟨small (by show 3≤1000000; decide),fun p3 hp3=>?_⟩
    have s3:=same_new hp3 (.tup [V.int 1,V.int (1 + r1 % 9),V.ref p2])
    refine q _ (.row (1 + r1 % 9) ts) _ (((s1.trans s7).trans s2).trans s3) ⟨⟨by omega,by omega⟩,by omega,fun z y=>?_,ot⟩ ⟨p3,_,rfl,upd_same,_,_,rfl,rfl,_,_,rfl,rfl,_,_,rfl,⟨p2,ys,rfl,s3.get upd_same,Reps.same (s2.trans s3) _ _ rt⟩,rfl⟩
    rw [y] at lt
    have:=m1 z
    simp at lt
    omega
  refine fun d hd=>?_
  have sd:=same_new hd (.dK [])
  refine ⟨_,rfl,2,rfl,_,rfl,a,_,_,_,rfl,rfl,SqL.of (sd.get ha),A1,_,_,rfl,rfl,(show (0:Int) < 17 by decide),_,_,rfl,rfl,_,rfl,a,_,rfl,SqL.of (sd.get ha),fun p hp=>?_⟩
  rw [sl_ints ns (by decide) (by omega)]
  have lm:((ns.drop (2:Int).toNat).take ((2 + r1 % 17).toNat - (2:Int).toNat)).length≤16:=by
    rw [List.length_take,List.length_drop,ln]
    show min ((2 + r1 % 17).toNat - 2) (24 - 2)≤_
    omega
  have bm:∀ k∈(ns.drop (2:Int).toNat).take ((2 + r1 % 17).toNat - (2:Int).toNat),0≤k∧k < 2147483647:=fun k hk=>nb k (List.mem_of_mem_drop (List.mem_of_mem_take hk))
  generalize (ns.drop (2:Int).toNat).take ((2 + r1 % 17).toNat - (2:Int).toNat) = ms at lm bm
  have sp:=same_new hp (.lst (ms.map V.int))
  have pd:p≠d:=fun z=>by rw [z] at hp; rw [upd_same] at hp; cases hp
  refine ⟨p,rfl,⟨_,SqL.of upd_same⟩,for_list (K:=K) (a:=p) (xs:=ms.map V.int) (fun i σ H2=>∃ v4 kvs,σ = [some (.ref a),none,none,some (.ref d),v4]∧Same H H2∧H2 d = some (.dK kvs)∧H2 p = some (.lst (ms.map V.int))∧kvs.length≤i∧(kvs.map (·.1)).Nodup∧∀ e∈kvs,DEnt H2 e) ⟨none,[],rfl,sd.trans sp,sp.get upd_same,upd_same,Nat.le_refl _,List.nodup_nil,fun _ h=>nomatch h⟩ (fun i σ H2 _ ⟨_,_,_,_,_,h,_⟩=>SqL.of h) ?_ ?_⟩
  · rintro i y σ H2 hi ⟨v4,kvs,rfl,s2,hd2,hp2,lk,nk,ek⟩
    obtain ⟨n,rfl,hn⟩:=ints_get hi
    have bn:=bm n (List.mem_of_getElem? hn)
    have il:=(List.getElem?_eq_some_iff.mp hn).1
    refine ⟨_,rfl,_,_,rfl,rfl,⟨by decide,by decide⟩,_,_,rfl,rfl,(show (0:Int) < 2 by decide),_,_,rfl,rfl,_,rfl,_,_,rfl,rfl,.inr ⟨by decide,by decide⟩,_,_,rfl,rfl,(show (0:Int) < 2147483647 by decide),_,rfl,by omega,by omega,fun b t H3 s3 nb3 ot hb=>?_⟩
    refine ⟨small (by show 2≤1000000; decide),fun pp hpp=>?_⟩
    have s4:=same_new hpp (.tup [V.int (1 + n / 7 % 2),V.ref b])
    refine ⟨_,rfl,_,rfl,n,rfl,bn.1,fun z H5 s5 nz=>?_⟩
    have s25:=(s3.trans s4).trans s5
    have hd5:=s25.get hd2
    refine ⟨d,_,rfl,DPut.k (k:=Sum.inr z) hd5 (by rw [PySem.sizeLine_eq]; omega),?_⟩
    have keepT:∀ c xs,H5 c = some (.tup xs)→(upd H5 d (.dK (putK kvs (Sum.inr z) (V.ref pp)))) c = some (.tup xs):=fun c xs e=>by rw [upd_ne (fun y=>by rw [y,hd5] at e; cases e)]; exact e
    refine ⟨_,_,rfl,same_upd (s2.trans s25) hd _,upd_same,?_,?_,put_nodup nk,fun e he=>?_⟩
    · rw [upd_ne pd]; exact s25.get hp2
    · exact Nat.le_trans (length_putK ..) (by omega)
    · rcases put_mem he with he | rfl
      · exact (ek e he).keep fun c xs h=>keepT c xs (s25.get h)
      · exact ⟨z,pp,b,1 + n / 7 % 2,t,rfl,nz,keepT _ _ (s5.get upd_same),by omega,ot,keepT _ _ (s5.get (s4.get hb))⟩
  rintro σ H2 ⟨v4,kvs,rfl,s2,hd2,hp2,lk,nk,ek⟩
  obtain ⟨ss,es⟩:=keys_strs kvs ek
  have lss:ss.length≤16:=by
    have:=congrArg List.length es
    rw [List.length_map,List.length_map] at this
    rw [List.length_map] at lk
    omega
  refine ⟨_,rfl,d,kvs,ss,rfl,hd2,es,by omega,fun ts p2 pt st hp2'=>?_⟩
  have s3:=same_new hp2' (.lst (ts.map V.str))
  have hd3:=s3.get hd2
  have lts:=pt.length_eq
  refine ⟨p2,rfl,⟨_,SqL.of upd_same⟩,comp_rel (xs:=ts.map V.str) (fun x y H=>EnAt H x y) (fun _ y _ _ h s=>h.keep fun c xs e=>s.get e) (fun _ _ _ _ _ _ h hl _=>h.keep fun c xs e=>by rw [upd_ne (fun z=>by rw [z,hl] at e; cases e)]; exact e) (itIs_list (SqL.of upd_same)) (by rw [List.length_map]; omega) (fun x H' R hx s' hR=>?_) fun l H7 ys n7 s7 h7 l7 hy=>?_⟩
  · obtain ⟨z,hz,rfl⟩:=List.mem_map.mp hx
    obtain ⟨v,hv,mv⟩:=val_of (kvs:=kvs) (k:=Sum.inr z) (by rw [es]; exact List.mem_map.mpr ⟨z,pt.mem_iff.mp hz,rfl⟩)
    obtain ⟨z',p',b,kd,t,e1,e2,e3,e4,e5,e6⟩:=ek _ mv
    cases e1
    refine ⟨_,rfl,small (by show 1≤1000000; decide),fun p1 hp1=>?_⟩
    have t1:=same_new hp1 (.tup [V.str z])
    have dg:=DGet.k (k:=Sum.inr z) (t1.get (s'.get hd3))
    rw [hv] at dg
    have u:=(s3.trans s').trans t1
    refine ⟨_,rfl,_,rfl,d,_,rfl,dg,p1,p',_,_,rfl,rfl,SqT.of upd_same,SqT.of (u.get e3),small (by show 1 + 2≤1000000; decide),(fun z=>nomatch z),(fun _ z=>nomatch z),fun _ _ p3 hp3=>?_⟩
    have t2:=same_new hp3 (.tup [V.str z,V.int kd,V.ref b])
    exact hR _ _ (t1.trans t2) (fun x e=>by cases e; exact t1.free hp3) ⟨⟨z,kd,t⟩,p3,b,rfl,rfl,⟨e2,e4,e5⟩,upd_same,t2.get (u.get e6)⟩
  obtain ⟨es2,nm,oe,re⟩:=ens_build ts ys l7 fun i x y h1 h2=>(hy i x y h1 h2).1
  refine ⟨l,ys,rfl,.inl ⟨SqL.of h7,fun p3 hp3=>?_⟩⟩
  have s4:=same_new hp3 (.tup ys)
  refine ⟨small (by show 2≤1000000; decide),fun p4 hp4=>?_⟩
  have s5:=same_new hp4 (.tup [V.int 2,V.ref p3])
  have nss:ss.Nodup:=by
    rw [es] at nk
    exact nodup_inr ss nk
  refine q _ (.folder es2) _ ((((s2.trans s3).trans s7).trans s4).trans s5) ⟨?_,oe,by rw [nm]; exact st,by rw [nm]; exact pt.nodup_iff.mpr nss⟩ ⟨p4,_,rfl,upd_same,_,_,rfl,rfl,_,_,rfl,⟨p3,ys,rfl,s5.get upd_same,Reps.same (s4.trans s5) _ _ re⟩,rfl⟩
  have:=congrArg List.length nm
  rw [List.length_map] at this
  omega
def sp__law_told (K:PySem.W.Frag):Sp:=fun vs H Q _=>∃ v b,vs = [v]∧Rep NL H (bkT b) v∧bkOk b∧∀ l H',Same H H'→H l = none→H' l = some (.lst ((told b).map V.int))→Q (.ref l) H'
theorem ok__law_told (T:Txt K mg C_WordReader C_Boards XC) (F:Fun K "_law_told" "_law_told" s__law_told f fd) (D__law_signs:Def P w K mg base 1 "_law_signs" [] (sp__law_signs K)):FnOk P w K mg base CX0 2 f fd ["_law_block_here"] (sp__law_told K):=by
  refine F.ok sc__law_told (fun vs H Q E h=>?_) (fun cdv A outer s H vs Q E hr h=>?_)
  · obtain ⟨v,b,rfl,_⟩:=h
    rfl
  obtain ⟨v,b,rfl,hv,ok,q⟩:=h
  refine ⟨_,(@pss_cons _ _ _ _ _ (@ps_if _ _ _ _ _ _ _ _ (@pt_cmpR _ _ _ _ _ _ _ _ op_eq (@pe_ix _ _ _ _ _ _ _ ix_tup (pv 0) (@pe_int _ _ _ _) (fun _ _=>rfl)) (@pe_int _ _ _ _) (nomark _)) (@pss_one _ _ _ (@ps_ret _ _ _ _ (@pe_comp0 _ ["_law_sign"] _ _ _ _ _ _ _ _ _ _ rfl (@pi_str _ _ _ _ (@pe_ix _ _ _ _ _ _ _ ix_tup (pv 0) (@pe_int _ _ _ _) (fun _ _=>rfl))) (by decide +kernel) (fun C s H fp=>⟨(@pg_name _ _ (0) _ (show (["_law_sign"]:List Str).Nodup by decide +kernel) rfl (by first | exact Or.inl rfl | exact Or.inr rfl) (by first | exact .inl rfl | exact .inr rfl | assumption)),(@pifs_nil _),(@pe_bmK _ (K) _ _ _ _ _ _ _ _ _ _ _ rfl PySem.F.plainAttrs_str PySem.F.slot_str_index PySem.F.type_str_index (mt_index rfl) (@pe_fn0 _ _ _ _ _ _ _ D__law_signs (hr.mono (by decide)) rfl (by decide)) (@pa_cons _ _ _ _ _ (pv 0) (@pa_nil _) (by rfl)) (by rfl) (by rfl) (by rfl) (by rfl) (by rfl))⟩) (by intro _; rfl)))) (@pss_nil _)) (@pss_cons _ _ _ _ _ (@ps_if _ _ _ _ _ _ _ _ (@pt_cmpR _ _ _ _ _ _ _ _ op_eq (@pe_ix _ _ _ _ _ _ _ ix_tup (pv 0) (@pe_int _ _ _ _) (fun _ _=>rfl)) (@pe_int _ _ _ _) (nomark _)) (@pss_one _ _ _ (@ps_ret _ _ _ _ (@pe_op _ _ _ _ _ _ _ _ op_catS (@pe_lst _ _ _ _ (@pa_cons _ _ _ _ _ (@pe_ix _ _ _ _ _ _ _ ix_tup (pv 0) (@pe_int _ _ _ _) (fun _ _=>rfl)) (@pa_nil _) (by rfl))) (@pe_comp0 _ ["_law_tag_here"] _ _ _ _ _ _ _ _ _ _ rfl (@pi_tup _ _ _ _ (@pe_ix _ _ _ _ _ _ _ ix_tup (pv 0) (@pe_int _ _ _ _) (fun _ _=>rfl))) (by decide +kernel) (fun C s H fp=>⟨(@pg_name _ _ (0) _ (show (["_law_tag_here"]:List Str).Nodup by decide +kernel) rfl (by first | exact Or.inl rfl | exact Or.inr rfl) (by first | exact .inl rfl | exact .inr rfl | assumption)),(@pifs_nil _),(@pe_ix _ _ _ _ _ _ _ (ix_tupK (K:=K) (by rfl)) (pv 0) (@pe_int _ _ _ _) (fun _ _=>rfl))⟩) (by intro _; rfl))))) (@pss_nil _)) (@pss_cons _ _ _ _ _ (@ps_set _ _ (1) _ _ _ _ sc__law_told.nd rfl (by first | exact Or.inl rfl | exact Or.inr rfl) (@pe_lst _ _ _ _ (@pa_nil _)) (by rfl) (by first | exact .inl rfl | exact .inr rfl | assumption)) (@pss_cons _ _ _ _ _ (@ps_for _ _ _ _ _ _ _ _ PassesOwn.never rfl (@pi_tup _ _ _ _ (@pe_ix _ _ _ _ _ _ _ ix_tup (pv 0) (@pe_int _ _ _ _) (fun _ _=>rfl))) (@pg_tup _ _ _ _ _ _ rfl (@pgs_cons _ _ _ _ _ (@pg_name _ _ (2) _ sc__law_told.nd rfl (by first | exact Or.inl rfl | exact Or.inr rfl) (by first | exact .inl rfl | exact .inr rfl | assumption)) (@pgs_cons _ _ _ _ _ (@pg_name _ _ (3) _ sc__law_told.nd rfl (by first | exact Or.inl rfl | exact Or.inr rfl) (by first | exact .inl rfl | exact .inr rfl | assumption)) (@pgs_cons _ _ _ _ _ (@pg_name _ _ (4) _ sc__law_told.nd rfl (by first | exact Or.inl rfl | exact Or.inr rfl) (by first | exact .inl rfl | exact .inr rfl | assumption)) (@pgs_nil _) (by rfl)) (by rfl)) (by rfl)) (by rfl) (by rfl)) (@pss_one _ _ _ (@ps_set _ _ (1) _ _ _ _ sc__law_told.nd rfl (by first | exact Or.inl rfl | exact Or.inr rfl) (@pe_op _ _ _ _ _ _ _ _ op_catS (@pe_op _ _ _ _ _ _ _ _ op_catS (pv 1) (@pe_comp0 _ ["_law_sign"] _ _ _ _ _ _ _ _ _ _ rfl (@pi_str _ _ _ _ (pv 2)) (by decide +kernel) (fun C s H fp=>⟨(@pg_name _ _ (0) _ (show (["_law_sign"]:List Str).Nodup by decide +kernel) rfl (by first | exact Or.inl rfl | exact Or.inr rfl) (by first | exact .inl rfl | exact .inr rfl | assumption)),(@pifs_nil _),(@pe_bmK _ (K) _ _ _ _ _ _ _ _ _ _ _ rfl PySem.F.plainAttrs_str PySem.F.slot_str_index PySem.F.type_str_index (mt_index rfl) (@pe_fn0 _ _ _ _ _ _ _ D__law_signs (hr.mono (by decide)) rfl (by decide)) (@pa_cons _ _ _ _ _ (pv 0) (@pa_nil _) (by rfl)) (by rfl) (by rfl) (by rfl) (by rfl) (by rfl))⟩) (by intro _; rfl))) (@pe_lst _ _ _ _ (@pa_cons _ _ _ _ _ (pv 3) (@pa_cons _ _ _ _ _ (@pe_ix _ _ _ _ _ _ _ ix_tup (pv 4) (@pe_int _ _ _ _) (fun _ _=>rfl)) (@pa_nil _) (by rfl)) (by rfl)))) (by rfl) (by first | exact .inl rfl | exact .inr rfl | assumption))) (by intro _; rfl)) (@pss_one _ _ _ (@ps_ret _ _ _ _ (pv 1))))))),?_⟩
  cases b with
  | piece z=>
    obtain ⟨a,rfl,e⟩:=rep_piece hv
    have h':(decide ((1:Int)≤(z.length:Int)) && decide ((z.length:Int)≤8) && allIn SG z) = true:=ok
    simp only [Bool.and_eq_true,decide_eq_true_eq] at h'
    have zs:∀ c∈cod z,c∈cod SG:=fun c hc=>by simpa using List.all_eq_true.mp h'.2 c hc
    refine ⟨_,rfl,a,_,_,_,rfl,rfl,SqT.of e,rfl,rfl,_,rfl,iteTc rfl ?_⟩
    refine ⟨_,rfl,a,_,_,_,rfl,rfl,SqT.of e,rfl,z,rfl,?_⟩
    refine comp_map (fun v=>match v with | .str y=>.int (PySem.Txt.find SG y) | _=>.non) itIs_str (by rw [List.length_map]; exact Nat.le_trans (Nat.le_of_eq (cod_len z)) (by omega)) (fun x H' R hx s' hR=>?_) fun l H7 n7 s7 h7=>?_
    · obtain ⟨u,hu,rfl⟩:=List.mem_map.mp hx
      exact ⟨rfl,rfl,_,rfl,_,_,rfl,rfl,(idx_sg (zs u hu)).1,hR H' (Same.refl _)⟩
    rw [idx_map] at h7
    exact q l H7 s7 n7 h7
  | row lv ts=>
    obtain ⟨a,b,us,rfl,e,e2,r⟩:=rep_row hv
    have lu:=Reps.len _ _ r
    rw [List.length_map] at lu
    have l8:=ok.2.1
    refine ⟨_,rfl,a,_,_,_,rfl,rfl,SqT.of e,rfl,rfl,_,rfl,iteFc rfl ?_⟩
    refine ⟨_,rfl,a,_,_,_,rfl,rfl,SqT.of e,rfl,rfl,_,rfl,iteTc rfl ?_⟩
    refine ⟨_,rfl,a,_,_,_,rfl,rfl,SqT.of e,rfl,small (by show 1≤1000000; decide),fun p1 hp1=>?_⟩
    have s1:=same_new hp1 (.lst [V.int lv])
    have e2':=s1.get e2
    have r':=Reps.same s1 _ _ r
    refine ⟨_,rfl,a,_,_,_,rfl,rfl,SqT.of (s1.get e),rfl,b,rfl,⟨_,SqT.of e2'⟩,comp_map (fun v=>match v with | .ref x=>(match (upd H p1 (.lst [V.int lv])) x with | some (.tup [_,_,y])=>y | _=>.non) | _=>.non) (itIs_tup e2') (by omega) (fun x H' R hx s' hR=>?_) fun l H7 n7 s7 h7=>?_⟩
    · obtain ⟨t,ht,rt⟩:=reps_at r' hx
      obtain ⟨c,rfl,ec⟩:=rep_tg rt
      have:=hR H' (Same.refl _)
      simp only [ec] at this
      exact ⟨_,rfl,c,_,_,_,rfl,rfl,SqT.of (s'.get ec),rfl,this⟩
    rw [third_of r'] at h7
    refine ⟨p1,l,_,_,rfl,rfl,SqL.of (s7.get upd_same),SqL.of h7,small (by rw [List.length_map,List.length_map]; show 1 + ts.length≤1000000; omega),fun p hp=>?_⟩
    exact q p _ ((s1.trans s7).trans (same_new hp _)) ((s1.trans s7).free hp) upd_same
  | folder es=>
    obtain ⟨a,b,us,rfl,e,e2,r⟩:=rep_folder hv
    have lu:=Reps.len _ _ r
    rw [List.length_map] at lu
    obtain ⟨o1,o2,_⟩:=ok
    refine ⟨_,rfl,a,_,_,_,rfl,rfl,SqT.of e,rfl,rfl,_,rfl,iteFc rfl ?_⟩
    refine ⟨_,rfl,a,_,_,_,rfl,rfl,SqT.of e,rfl,rfl,_,rfl,iteFc rfl ?_⟩
    refine ⟨small (by show 0≤1000000; decide),fun g hg=>?_⟩
    have sg:=same_new hg (.lst [])
    refine ⟨_,rfl,a,_,_,_,rfl,rfl,SqT.of (sg.get e),rfl,b,rfl,⟨_,SqT.of (sg.get e2)⟩,for_tup (K:=K) (a:=b) (xs:=us) (fun i σ H2=>∃ g2 v2 v3 v4,σ = [some (.ref a),some (.ref g2),v2,v3,v4]∧Same H H2∧H g2 = none∧H2 g2 = some (.lst (((es.take i).flatMap enTold).map V.int))) ⟨g,none,none,none,rfl,sg,hg,upd_same⟩ (fun i σ H2 _ ⟨_,_,_,_,_,s2,_⟩=>SqT.of (s2.get e2)) ?_ ?_⟩
    · rintro i y σ H2 hi ⟨g2,v2,v3,v4,rfl,s2,ng2,hg2⟩
      obtain ⟨t,ht,ry⟩:=Reps.get r hi
      rw [List.getElem?_map] at ht
      cases z:es[i]? with
      | none=>rw [z] at ht; cases ht
      | some x=>
        rw [z] at ht
        cases ht
        obtain ⟨c,d,rfl,ec,ed⟩:=rep_en ry
        have ox:=o2 x (List.mem_of_getElem? z)
        obtain ⟨n1,n2,_,n4⟩:=name_parts ox.1
        have tl:((es.take i).flatMap enTold).length≤160:=by
          have:=told_len (es:=es.take i) fun y hy=>en_len (o2 y (List.mem_of_mem_take hy))
          rw [List.length_take] at this
          omega
        refine ⟨c,_,rfl,SqT.of (s2.get ec),rfl,_,_,rfl,_,_,rfl,_,_,rfl,rfl,?_⟩
        refine ⟨_,rfl,_,rfl,x.nm,rfl,?_⟩
        refine comp_map (fun v=>match v with | .str y=>.int (PySem.Txt.find SG y) | _=>.non) itIs_str (by rw [List.length_map]; exact Nat.le_trans (Nat.le_of_eq (cod_len x.nm)) (by omega)) (fun u H' R hu s' hR=>?_) fun l H7 n7 s7 h7=>?_
        · obtain ⟨k,hk,rfl⟩:=List.mem_map.mp hu
          exact ⟨rfl,rfl,_,rfl,_,_,rfl,rfl,(idx_sg (n4 k hk)).1,hR H' (Same.refl _)⟩
        rw [idx_map] at h7
        refine ⟨g2,l,_,_,rfl,rfl,SqL.of (s7.get hg2),SqL.of h7,small (by rw [List.length_map,List.length_map,List.length_map,cod_len]; omega),fun p1 hp1=>?_⟩
        have t8:=same_new hp1 (.lst (((es.take i).flatMap enTold).map V.int ++ ((cod x.nm).map idx).map V.int))
        have t78:=(s2.trans s7).trans t8
        refine ⟨_,rfl,_,rfl,d,_,_,_,rfl,rfl,SqT.of (t78.get ed),rfl,small (by show 2≤1000000; decide),fun p2 hp2=>?_⟩
        have t9:=same_new hp2 (.lst [V.int x.kd,V.int x.tg.2.2])
        refine ⟨p1,p2,_,_,rfl,rfl,SqL.of (t9.get upd_same),SqL.of upd_same,small (by rw [List.length_append,List.length_map,List.length_map,List.length_map,cod_len]; show _ + _ + 2≤_; omega),fun p3 hp3=>?_⟩
        refine ⟨p3,_,_,_,rfl,(t78.trans t9).trans (same_new hp3 _),(t78.trans t9).free hp3,?_⟩
        rw [upd_same,told_take z,List.map_append]
        unfold enTold
        rw [List.map_append,List.append_assoc]
        rfl
    · rintro σ H2 ⟨g2,v2,v3,v4,rfl,s2,ng2,hg2⟩
      rw [lu,List.take_of_length_le (Nat.le_refl _)] at hg2
      exact ⟨_,rfl,q g2 H2 s2 ng2 hg2⟩
def sp__law_sum (K:PySem.W.Frag):Sp:=fun vs H Q _=>∃ v b,vs = [v]∧Rep NL H (bkT b) v∧bkOk b∧∀ H',Same H H'→Q (.int (sumB b)) H'
theorem ok__law_sum (T:Txt K mg C_WordReader C_Boards XC) (F:Fun K "_law_sum" "_law_sum" s__law_sum f fd) (D__law_told:Def P w K mg base 2 "_law_told" ["_law_block_here"] (sp__law_told K)):FnOk P w K mg base CX0 3 f fd ["_law_block_here"] (sp__law_sum K):=by
  refine F.ok sc__law_sum (fun vs H Q E h=>?_) (fun cdv A outer s H vs Q E hr h=>?_)
  · obtain ⟨v,b,rfl,_⟩:=h
    rfl
  obtain ⟨v,b,rfl,hv,ok,q⟩:=h
  obtain ⟨a,xs,rfl,e⟩:=bk_first hv
  refine ⟨_,(@pss_cons _ _ _ _ _ (@ps_set _ _ (1) _ _ _ _ sc__law_sum.nd rfl (by first | exact Or.inl rfl | exact Or.inr rfl) (@pe_op _ _ _ _ _ _ _ _ op_add (@pe_int _ _ _ _) (@pe_ix _ _ _ _ _ _ _ ix_tup (pv 0) (@pe_int _ _ _ _) (fun _ _=>rfl))) (by rfl) (by first | exact .inl rfl | exact .inr rfl | assumption)) (@pss_cons _ _ _ _ _ (@ps_for _ _ _ _ _ _ _ _ PassesOwn.never rfl (@pi_list _ _ _ _ (@pe_fn _ _ _ _ _ _ _ _ _ _ D__law_told (hr.mono (by decide)) rfl (@pa_cons _ _ _ _ _ (pv 0) (@pa_nil _) (by rfl)) (by decide) (by rfl) (by rfl))) (@pg_name _ _ (2) _ sc__law_sum.nd rfl (by first | exact Or.inl rfl | exact Or.inr rfl) (by first | exact .inl rfl | exact .inr rfl | assumption)) (@pss_one _ _ _ (@ps_set _ _ (1) _ _ _ _ sc__law_sum.nd rfl (by first | exact Or.inl rfl | exact Or.inr rfl) (@pe_op _ _ _ _ _ _ _ _ op_mod (@pe_op _ _ _ _ _ _ _ _ op_add (@pe_op _ _ _ _ _ _ _ _ op_add (@pe_op _ _ _ _ _ _ _ _ op_mul (@pe_int _ _ _ _) (pv 1)) (pv 2)) (@pe_int _ _ _ _)) (@pe_int _ _ _ _)) (by rfl) (by first | exact .inl rfl | exact .inr rfl | assumption))) (by intro _; rfl)) (@pss_one _ _ _ (@ps_ret _ _ _ _ (pv 1))))),?_⟩
  refine ⟨_,rfl,a,_,_,_,rfl,rfl,SqT.of e,at_first,_,_,rfl,rfl,?_⟩
  refine ⟨_,rfl,_,b,rfl,hv,ok,fun l H1 s1 n1 h1=>?_⟩
  refine ⟨l,rfl,⟨_,SqL.of h1⟩,for_list (K:=K) (a:=l) (xs:=(told b).map V.int) (fun i σ H2=>∃ v2,σ = [some (.ref a),some (.int (((told b).take i).foldl (fun t n=>(31 * t + n + 1) % 997) (1 + kindB b))),v2]∧Same H1 H2) ⟨none,rfl,Same.refl _⟩ (fun i σ H2 _ ⟨_,_,s2⟩=>SqL.of (s2.get h1)) ?_ ?_⟩
  · rintro i y σ H2 hi ⟨v2,rfl,s2⟩
    obtain ⟨n,rfl,hn⟩:=ints_get hi
    refine ⟨_,rfl,_,_,rfl,rfl,.inl ⟨by decide,by decide⟩,_,rfl,_,_,rfl,rfl,_,_,rfl,rfl,_,_,rfl,rfl,(show (0:Int) < 997 by decide),?_⟩
    refine ⟨some (.int n),?_,s2⟩
    rw [fold_take hn]
    rfl
  · rintro σ H2 ⟨v2,rfl,s2⟩
    rw [List.length_map,List.take_length]
    exact ⟨_,rfl,q H2 (s1.trans s2)⟩
def sp__law_words (K:PySem.W.Frag):Sp:=sp_wo 8 K
theorem lw_step (T:Txt K mg C_WordReader C_Boards XC) (F:Fun K "_law_words" "_law_words" s__law_words f fd) (D__law_signs:Def P w K mg base 1 "_law_signs" [] (sp__law_signs K)) (n:Nat) (D__law_words:Def P w K mg base (1 + n) "_law_words" ["_law_thing"] (sp_wo n K)):FnOk P w K mg base CX0 (1 + n + 1) f fd ["_law_thing"] (sp_wo (n + 1) K):=by
  refine F.ok sc__law_words (fun vs H Q E h=>?_) (fun cdv A outer s H vs Q E hr h=>?_)
  · obtain ⟨v,t,rfl,_⟩:=h
    rfl
  obtain ⟨v,t,rfl,hv,ht,hw,q⟩:=h
  have ok:=isT_ok _ _ ht
  have okv:=(rep_all hv).ok ok
  have ety:=(rep_all hv).tyN
  refine ⟨_,(@pss_cons _ _ _ _ _ (@ps_if _ _ _ _ _ _ _ _ (@pt_val _ _ _ (@pe_callB _ _ _ _ _ _ _ _ _ call_isinst (by rfl) T.b_isinstance bt_isinstance (@pa_cons _ _ _ _ _ (pv 0) (@pa_cons _ _ _ _ _ (@pe_ty _ _ _ _ rfl T.b_tuple bt_tuple (by decide) (by decide)) (@pa_nil _) (by rfl)) (by rfl)) (by decide) (by decide) (by rfl) (by rfl)) (by intro _; rfl)) (@pss_cons _ _ _ _ _ (@ps_set _ _ (1) _ _ _ _ sc__law_words.nd rfl (by first | exact Or.inl rfl | exact Or.inr rfl) (@pe_lst _ _ _ _ (@pa_cons _ _ _ _ _ (@pe_int _ _ _ _) (@pa_cons _ _ _ _ _ (@pe_callB _ _ _ _ _ _ _ _ _ call_len_seq (by rfl) T.b_len bt_len (@pa_cons _ _ _ _ _ (pv 0) (@pa_nil _) (by rfl)) (by decide) (by decide) (by rfl) (by rfl)) (@pa_nil _) (by rfl)) (by rfl))) (by rfl) (by first | exact .inl rfl | exact .inr rfl | assumption)) (@pss_cons _ _ _ _ _ (@ps_for _ _ _ _ _ _ _ _ PassesOwn.never rfl (@pi_tup _ _ _ _ (pv 0)) (@pg_name _ _ (2) _ sc__law_words.nd rfl (by first | exact Or.inl rfl | exact Or.inr rfl) (by first | exact .inl rfl | exact .inr rfl | assumption)) (@pss_one _ _ _ (@ps_set _ _ (1) _ _ _ _ sc__law_words.nd rfl (by first | exact Or.inl rfl | exact Or.inr rfl) (@pe_op _ _ _ _ _ _ _ _ op_catS (pv 1) (@pe_fn _ _ _ _ _ _ _ _ _ _ D__law_words (hr.mono (by omega)) rfl (@pa_cons _ _ _ _ _ (pv 2) (@pa_nil _) (by rfl)) (by decide) (by rfl) (by rfl))) (by rfl) (by first | exact .inl rfl | exact .inr rfl | assumption))) (by intro _; rfl)) (@pss_one _ _ _ (@ps_ret _ _ _ _ (pv 1))))) (@pss_nil _)) (@pss_cons _ _ _ _ _ (@ps_if _ _ _ _ _ _ _ _ (@pt_val _ _ _ (@pe_callB _ _ _ _ _ _ _ _ _ call_isinst (by rfl) T.b_isinstance bt_isinstance (@pa_cons _ _ _ _ _ (pv 0) (@pa_cons _ _ _ _ _ (@pe_ty _ _ _ _ rfl T.b_str bt_str (by decide) (by decide)) (@pa_nil _) (by rfl)) (by rfl)) (by decide) (by decide) (by rfl) (by rfl)) (by intro _; rfl)) (@pss_one _ _ _ (@ps_ret _ _ _ _ (@pe_op _ _ _ _ _ _ _ _ op_catS (@pe_lst _ _ _ _ (@pa_cons _ _ _ _ _ (@pe_int _ _ _ _) (@pa_cons _ _ _ _ _ (@pe_callB _ _ _ _ _ _ _ _ _ call_len_str (by rfl) T.b_len bt_len (@pa_cons _ _ _ _ _ (pv 0) (@pa_nil _) (by rfl)) (by decide) (by decide) (by rfl) (by rfl)) (@pa_nil _) (by rfl)) (by rfl))) (@pe_comp0 _ ["_law_sign"] _ _ _ _ _ _ _ _ _ _ rfl (@pi_str _ _ _ _ (pv 0)) (by decide +kernel) (fun C s H fp=>⟨(@pg_name _ _ (0) _ (show (["_law_sign"]:List Str).Nodup by decide +kernel) rfl (by first | exact Or.inl rfl | exact Or.inr rfl) (by first | exact .inl rfl | exact .inr rfl | assumption)),(@pifs_nil _),(@pe_bmK _ (K) _ _ _ _ _ _ _ _ _ _ _ rfl PySem.F.plainAttrs_str PySem.F.slot_str_index PySem.F.type_str_index (mt_index rfl) (@pe_fn0 _ _ _ _ _ _ _ D__law_signs (hr.mono (by omega)) rfl (by decide)) (@pa_cons _ _ _ _ _ (pv 0) (@pa_nil _) (by rfl)) (by rfl) (by rfl) (by rfl) (by rfl) (by rfl))⟩) (by intro _; rfl))))) (@pss_nil _)) (@pss_one _ _ _ (@ps_ret _ _ _ _ (@pe_lst _ _ _ _ (@pa_cons _ _ _ _ _ (@pe_int _ _ _ _) (@pa_cons _ _ _ _ _ (pv 0) (@pa_nil _) (by rfl)) (by rfl))))))),?_⟩
  refine ⟨_,rfl,_,_,_,_,rfl,okv.ty K,okv.kit K,_,rfl,?_⟩
  rw [ety]
  cases t with
  | tup ts=>
    obtain ⟨a,vs,rfl,ha,hr'⟩:=hv
    have lv:=Reps.len ts vs hr'
    obtain ⟨tl,tt⟩:=isT_tup ht
    rw [wT_tup] at hw q
    have hw2:(wTs ts).length≤899998:=by simp only [List.length_cons] at hw; omega
    refine iteTc (by show isA "tuple" "tuple" = true; decide) ?_
    refine ⟨_,rfl,a,_,rfl,.inr (SqT.of ha),small (by show 2≤1000000; decide),fun g hg=>?_⟩
    rw [lv]
    refine ⟨_,rfl,a,rfl,⟨_,SqT.of ((same_new hg _).get ha)⟩,for_tup (K:=K) (a:=a) (xs:=vs) (fun i σ H2=>∃ (g1:Addr) (v2:Option V),σ = [some (.ref a),some (.ref g1),v2]∧Same H H2∧H g1 = none∧H2 g1 = some (.lst ((2 :: (ts.length:Int) :: wTs (ts.take i)).map V.int)))
      ⟨g,none,rfl,same_new hg _,hg,upd_same⟩ (fun i σ H2 _ ⟨_,_,_,s2,_⟩=>SqT.of (s2.get ha)) ?_ ?_⟩
    · rintro i y σ H2 hi ⟨g1,v2,rfl,s2,n2,hg2⟩
      obtain ⟨ty,et,ry⟩:=Reps.get hr' hi
      have b1:=wTs_one et
      refine ⟨_,rfl,_,rfl,y,ty,rfl,Rep.same s2 _ _ ry,tt i ty et,by omega,fun l3 H3 s3 n3 h3=>?_⟩
      refine ⟨g1,l3,_,_,rfl,rfl,SqL.of (s3.get hg2),SqL.of h3,small (by simp only [List.length_map,List.length_cons]; omega),fun p hp=>?_⟩
      refine ⟨p,_,rfl,(s2.trans s3).trans (same_new hp _),(s2.trans s3).free hp,?_⟩
      rw [upd_same,← List.map_append,wTs_take et]
      rfl
    · rintro σ H2 ⟨g1,v2,rfl,s2,n2,hg2⟩
      rw [lv,List.take_of_length_le (Nat.le_refl _)] at hg2
      exact ⟨_,rfl,q g1 H2 s2 n2 hg2⟩
  | str z=>
    cases (show v = V.str z from hv)
    obtain ⟨zl,zs⟩:=isT_str ht
    have zc:=cod_len z
    refine iteFc (by show isA "str" "tuple" = false; decide) ?_
    refine ⟨_,rfl,_,_,_,_,rfl,okv.ty K,okv.kit K,_,rfl,iteTc (by rw [ety]; show isA "str" "str" = true; decide) ?_⟩
    refine ⟨_,rfl,_,rfl,small (by omega),small (by show 2≤1000000; decide),fun p1 hp1=>?_⟩
    refine ⟨_,rfl,z,rfl,?_⟩
    refine comp_map (fun v=>match v with | .str y=>.int (PySem.Txt.find SG y) | _=>.non) itIs_str (by rw [List.length_map]; exact Nat.le_trans (Nat.le_of_eq zc) (by omega)) (fun x H' R hx s' hR=>?_) fun l H7 n7 s7 h7=>?_
    · obtain ⟨u,hu,rfl⟩:=List.mem_map.mp hx
      exact ⟨rfl,rfl,_,rfl,_,_,rfl,rfl,(idx_sg (zs u hu)).1,hR H' (Same.refl _)⟩
    have e7:((z.cps.toList.map fun c=>V.str ⟨#[c]⟩).map fun v=>match v with | V.str y=>V.int (PySem.Txt.find SG y) | _=>V.non) = ((cod z).map idx).map V.int:=by
      rw [List.map_map,List.map_map]; rfl
    rw [e7] at h7
    have s1:=same_new hp1 (.lst [V.int 1,V.int (z.length:Int)])
    refine ⟨p1,l,_,_,rfl,rfl,SqL.of (s7.get upd_same),SqL.of h7,small (by rw [List.length_map,List.length_map]; show 2 + _≤_; omega),fun p hp=>?_⟩
    exact q p _ ((s1.trans s7).trans (same_new hp _)) ((s1.trans s7).free hp) upd_same
  | int i=>
    cases (show v = V.int i from hv)
    refine iteFc (by show isA "int" "tuple" = false; decide) ?_
    refine ⟨_,rfl,_,_,_,_,rfl,okv.ty K,okv.kit K,_,rfl,iteFc (by rw [ety]; show isA "int" "str" = false; decide) ?_⟩
    exact ⟨_,rfl,small (by show 2≤1000000; decide),fun l hl=>q l _ (same_new hl _) hl upd_same⟩
  | non=>cases n <;> cases ht
  | bl b=>cases n <;> cases ht
  | lst ts=>cases n <;> cases ht
theorem lw_all (T:Txt K mg C_WordReader C_Boards XC) (F:Fun K "_law_words" "_law_words" s__law_words f fd) (D__law_signs:Def P w K mg base 1 "_law_signs" [] (sp__law_signs K)) (hm:mg "_law_words" = some (.ref f)) (hk:PySem.W.keepIn K (.ref f) = true) (hb:Binds K fd ["_law_thing"] []):∀ n,FnOk P w K mg base CX0 (1 + n) f fd ["_law_thing"] (sp_wo n K)
  | 0=>by
    refine F.ok sc__law_words (fun vs H Q E h=>?_) (fun cdv A outer s H vs Q E hr h=>?_)
    · obtain ⟨v,t,rfl,_,ht,_⟩:=h
      cases ht
    · obtain ⟨v,t,rfl,_,ht,_⟩:=h
      cases ht
  | n + 1=>lw_step T F D__law_signs n ⟨f,fd,lw_all T F D__law_signs hm hk hb n,hm,hk,hb⟩
theorem ok__law_words (T:Txt K mg C_WordReader C_Boards XC) (F:Fun K "_law_words" "_law_words" s__law_words f fd) (D__law_signs:Def P w K mg base 1 "_law_signs" [] (sp__law_signs K)) (hm:mg "_law_words" = some (.ref f)) (hk:PySem.W.keepIn K (.ref f) = true) (hb:Binds K fd ["_law_thing"] []):FnOk P w K mg base CX0 9 f fd ["_law_thing"] (sp__law_words K):=
  lw_all T F D__law_signs hm hk hb 8
end
open M06
section
variable {P:Program} {w:World} {K:PySem.W.Frag} {mg:Str→Option Value} {base:Heap} {f C_WordReader C_Boards:Addr} {XC:Nat→Addr} {fd:FuncData}
theorem ok_Lost_init (T:Txt K mg C_WordReader C_Boards XC) (F:Fun K "__init__" "Lost.__init__" s_Lost_init f fd):FnOk P w K mg base CX0 1 f fd ["self","number"] (spXini (XC 1) "number"):=by
  refine F.ok sc_Lost_init (fun vs H Q E h=>?_) (fun cdv A outer s H vs Q E hr h=>?_)
  · obtain ⟨e,y,rfl,_⟩:=h
    rfl
  obtain ⟨e,y,rfl,he,q⟩:=h
  refine ⟨_,(@pss_one _ _ _ (@ps_xfld _ _ _ _ _ _ _ _ (pv 0) (pv 1) rfl)),?_⟩
  exact ⟨_,rfl,_,rfl,e,XC 1,rfl,he,T.i_Lost,T.f_Lost,q⟩
def sp__law_sealed (K:PySem.W.Frag):Sp:=fun vs H Q _=>∃ (a:Addr) (ns:List Int),vs = [.ref a]∧H a = some (.lst (ns.map V.int))∧ns.length≤1000∧∀ (r:Addr) (H':Hp),Same H H'→H r = none→H' r = some (.lst ((ns ++ [mk ns]).map V.int))→Q (.ref r) H'
theorem mk_step {ns:List Int} {i:Nat} (h:i < ns.length):(mk (ns.take i) + (1 + (i:Int)) * ns[i]) % 2147483647 = mk (ns.take (i + 1)):=by
  unfold mk
  rw [wsum_take h,Int.mul_comm (1 + (i:Int)),Int.add_comm 1 (i:Int),Int.emod_add_emod]
theorem ok__law_sealed (T:Txt K mg C_WordReader C_Boards XC) (F:Fun K "_law_sealed" "_law_sealed" s__law_sealed f fd):FnOk P w K mg base CX0 1 f fd ["_law_words_here"] (sp__law_sealed K):=by
  refine F.ok sc__law_sealed (fun vs H Q E h=>?_) (fun cdv A outer s H vs Q E hr h=>?_)
  · obtain ⟨a,ns,rfl,_⟩:=h
    rfl
  obtain ⟨a,ns,rfl,hS,hlen,q⟩:=h
  refine ⟨_,(@pss_cons _ _ _ _ _ (@ps_set _ _ (1) _ _ _ _ sc__law_sealed.nd rfl (by first | exact Or.inl rfl | exact Or.inr rfl) (@pe_int _ _ _ _) (by rfl) (by first | exact .inl rfl | exact .inr rfl | assumption)) (@pss_cons _ _ _ _ _ (@ps_for _ _ _ _ _ _ _ _ PassesOwn.never rfl (@pi_range1 _ _ _ _ _ _ rfl T.b_range (@pa_cons _ _ _ _ _ (@pe_callB _ _ _ _ _ _ _ _ _ call_len_seq (by rfl) T.b_len bt_len (@pa_cons _ _ _ _ _ (pv 0) (@pa_nil _) (by rfl)) (by decide) (by decide) (by rfl) (by rfl)) (@pa_nil _) (by rfl)) (by rfl)) (@pg_name _ _ (2) _ sc__law_sealed.nd rfl (by first | exact Or.inl rfl | exact Or.inr rfl) (by first | exact .inl rfl | exact .inr rfl | assumption)) (@pss_one _ _ _ (@ps_set _ _ (1) _ _ _ _ sc__law_sealed.nd rfl (by first | exact Or.inl rfl | exact Or.inr rfl) (@pe_op _ _ _ _ _ _ _ _ op_mod (@pe_op _ _ _ _ _ _ _ _ op_add (pv 1) (@pe_op _ _ _ _ _ _ _ _ op_mul (@pe_op _ _ _ _ _ _ _ _ op_add (@pe_int _ _ _ _) (pv 2)) (@pe_ix _ _ _ _ _ _ _ ix_list (pv 0) (pv 2) (fun _ _=>rfl)))) (@pe_int _ _ _ _)) (by rfl) (by first | exact .inl rfl | exact .inr rfl | assumption))) (by intro _; rfl)) (@pss_one _ _ _ (@ps_ret _ _ _ _ (@pe_op _ _ _ _ _ _ _ _ op_catS (pv 0) (@pe_lst _ _ _ _ (@pa_cons _ _ _ _ _ (pv 1) (@pa_nil _) (by rfl)))))))),?_⟩
  refine ⟨_,rfl,a,_,rfl,.inl (SqL.of hS),ns.length,by rw [List.length_map],by omega,by omega,for_range (lo:=0) (n:=_) (fun i σ H2=>∃ v2,σ = [some (.ref a),some (.int (mk (ns.take i))),v2]∧H2 = H) ⟨none,rfl,rfl⟩ ?_ ?_⟩
  · rintro i σ H2 hi ⟨v2,rfl,rfl⟩
    have hi':i < ns.length:=by omega
    have ai:atI (ns.map V.int) (0 + (i:Int)) = some (.int ns[i]):=by rw [Int.zero_add]; exact atI_nat (by rw [List.getElem?_map,List.getElem?_eq_getElem hi']; rfl)
    refine ⟨_,rfl,_,rfl,_,_,rfl,rfl,_,rfl,_,rfl,a,_,_,_,rfl,rfl,SqL.of hS,ai,_,_,rfl,rfl,.inl ⟨by omega,by omega⟩,_,_,rfl,rfl,_,_,rfl,rfl,(show (0:Int) < 2147483647 by decide),?_⟩
    refine ⟨some (.int (0 + (i:Int))),?_,rfl⟩
    show [some (V.ref a),some (V.int ((mk (ns.take i) + (1 + (0 + (i:Int))) * ns[i]) % 2147483647)),some (V.int (0 + (i:Int)))] = _
    rw [show (1:Int) + (0 + (i:Int)) = 1 + (i:Int) by omega,mk_step hi']
  · rintro σ H2 ⟨v2,rfl,rfl⟩
    have e:((ns.length:Int):Int).toNat = ns.length:=by omega
    rw [e,List.take_of_length_le (Nat.le_refl _)]
    refine ⟨_,rfl,_,rfl,small (by show 1≤1000000; decide),fun g hg=>?_⟩
    refine ⟨a,g,_,_,rfl,rfl,SqL.of ((same_new hg _).get hS),SqL.of upd_same,small (by rw [List.length_map]; show ns.length + 1≤1000000; omega),fun p hp=>?_⟩
    refine q p _ ((same_new hg _).trans (same_new hp _)) ((same_new hg _).free hp) ?_
    rw [upd_same,List.map_append]; rfl
def sp_Boards_twins (K:PySem.W.Frag) (C:Addr):Sp:=fun vs H Q _=>∃ p ds bs n lf z,vs = [.ref p,.int z]∧BAt C H p ds bs n lf∧0 < bs.length∧∀ a,H a = none→Q (.ref a) (upd H a (.tup [.int (z % (bs.length:Int)),.int ((z + 1) % (bs.length:Int))]))
theorem ok_Boards_twins (T:Txt K mg C_WordReader C_Boards XC) (F:Fun K "twins" "Boards.twins" s_Boards_twins f fd) (D_Boards_many:MDef P w K mg base 1 C_Boards "many" ["self"] (sp_Boards_many K C_Boards)):FnOk P w K mg base CX0 2 f fd ["self","number"] (sp_Boards_twins K C_Boards):=by
  refine F.ok sc_Boards_twins (fun vs H Q E h=>?_) (fun cdv A outer s H vs Q E hr h=>?_)
  · obtain ⟨p,ds,bs,n,lf,z,rfl,_⟩:=h
    rfl
  obtain ⟨p,ds,bs,n,lf,z,rfl,hB,b0,q⟩:=h
  obtain ⟨dx,s0,h1,h2,h3,h4⟩:=id hB
  refine ⟨_,(@pss_one _ _ _ (@ps_ret _ _ _ _ (@pe_tup _ _ _ _ _ (@pa_cons _ _ _ _ _ (@pe_op _ _ _ _ _ _ _ _ op_mod (pv 1) (@pe_mth0 _ _ _ _ _ _ _ _ _ _ _ (pv 0) T.cl_Boards D_Boards_many (hr.mono (by decide)) (by rfl))) (@pa_cons _ _ _ _ _ (@pe_op _ _ _ _ _ _ _ _ op_mod (@pe_op _ _ _ _ _ _ _ _ op_add (pv 1) (@pe_int _ _ _ _)) (@pe_mth0 _ _ _ _ _ _ _ _ _ _ _ (pv 0) T.cl_Boards D_Boards_many (hr.mono (by decide)) (by rfl))) (@pa_nil _) (by rfl)) (by rfl))))),?_⟩
  refine ⟨_,rfl,_,rfl,p,dx,_,rfl,h1,rfl,p,ds,bs,n,lf,rfl,hB,_,_,rfl,rfl,(by omega),_,rfl,_,_,rfl,rfl,_,rfl,p,dx,_,rfl,h1,rfl,p,ds,bs,n,lf,rfl,hB,_,_,rfl,rfl,(by omega),small (by show 2≤1000000; decide),fun a ha=>q a ha⟩
end
section
variable {P:Program} {w:World} {K:PySem.W.Frag} {mg:Str→Option Value} {base:Heap} {f C_WordReader C_Boards:Addr} {XC:Nat→Addr} {fd:FuncData}
def sealW (t:Tr):List Int:=wT t ++ [mk (wT t)]
def recT (z y:Int) (b:Bk):Tr:=.tup [.int z,.int y,bkT b]
theorem isT_bk7 {b:Bk} (h:bkOk b):isT 7 (bkT b) = true:=by
  cases b with
  | piece z=>
    have h':(decide ((1:Int)≤(z.length:Int)) && decide ((z.length:Int)≤8) && allIn SG z) = true:=h
    simp only [Bool.and_eq_true,decide_eq_true_eq] at h'
    simp only [bkT,isT,List.all_cons,List.all_nil,List.length_cons,List.length_nil,Bool.and_true,Bool.and_eq_true,decide_eq_true_eq,h'.2,and_true]
    omega
  | row lv ts=>
    obtain ⟨l,n,_,o⟩:=h
    have d:(ts.map tgT).all (isT 5) = true:=List.all_eq_true.mpr fun t ht=>by
      obtain ⟨x,hx,rfl⟩:=List.mem_map.mp ht
      exact isT_tg (o x hx) 3
    simp only [bkT,isT,List.all_cons,List.all_nil,List.length_cons,List.length_nil,List.length_map,Bool.and_true,Bool.and_eq_true,decide_eq_true_eq,d,and_true]
    omega
  | folder es=>
    obtain ⟨n,o,_⟩:=h
    have d:(es.map enT).all (isT 5) = true:=List.all_eq_true.mpr fun t ht=>by
      obtain ⟨x,hx,rfl⟩:=List.mem_map.mp ht
      exact isT_en (o x hx) 2
    simp only [bkT,isT,List.all_cons,List.all_nil,List.length_cons,List.length_nil,List.length_map,Bool.and_true,Bool.and_eq_true,decide_eq_true_eq,d,and_true]
    omega
def nbOk (z y:Int):Prop:=(0≤z∧z≤999999999)∧0≤y∧y≤999999999
theorem isT_rec {z y:Int} {b:Bk} (n:nbOk z y) (h:bkOk b):isT 8 (recT z y b) = true:=by
  have d:=isT_bk7 h
  obtain ⟨⟨a1,a2⟩,a3,a4⟩:=n
  show (decide (3≤100) && ((decide (0≤z) && decide (z≤999999999)) && ((decide (0≤y) && decide (y≤999999999)) && (isT 7 (bkT b) && true)))) = true
  simp only [d,Bool.and_true,Bool.and_eq_true,decide_eq_true_eq]
  omega
theorem rec_len {z y:Int} {b:Bk} (h:bkOk b):(wT (recT z y b)).length≤600:=by
  have l:=wlen_bk b
  have s:=size_le h
  show (2 :: (3:Int) :: ([0,z] ++ ([0,y] ++ (wT (bkT b) ++ [])))).length≤600
  simp only [List.length_cons,List.length_append,List.length_nil]
  omega
mutual
theorem wT_in:∀ (n:Nat) (t:Tr),isT n t = true→∀ x∈wT t,0≤x∧x≤2147483646
  | 0,_,h=>nomatch h
  | n + 1,.non,h=>nomatch h
  | n + 1,.bl _,h=>nomatch h
  | n + 1,.int i,h=>fun x hx=>by
    have h':(decide (0≤i) && decide (i≤999999999)) = true:=h
    simp only [Bool.and_eq_true,decide_eq_true_eq] at h'
    rcases List.mem_cons.mp hx with rfl | hx
    · omega
    · rw [List.mem_singleton.mp hx]; omega
  | n + 1,.str z,h=>fun x hx=>by
    obtain ⟨zl,zs⟩:=isT_str h
    rcases List.mem_cons.mp hx with rfl | hx
    · omega
    rcases List.mem_cons.mp hx with rfl | hx
    · omega
    obtain ⟨c,hc,rfl⟩:=List.mem_map.mp hx
    have:=idx_sg (zs c hc)
    omega
  | n + 1,.tup ts,h=>fun x hx=>by
    have h':(decide (ts.length≤100) && ts.all (isT n)) = true:=h
    rw [Bool.and_eq_true,decide_eq_true_eq] at h'
    rcases List.mem_cons.mp hx with rfl | hx
    · omega
    rcases List.mem_cons.mp hx with rfl | hx
    · omega
    exact wTs_in n ts h'.2 x hx
  | n + 1,.lst _,h=>nomatch h
theorem wTs_in:∀ (n:Nat) (ts:List Tr),ts.all (isT n) = true→∀ x∈wTs ts,0≤x∧x≤2147483646
  | _,[],_=>fun x hx=>nomatch hx
  | n,t :: ts,h=>fun x hx=>by
    rw [List.all_cons,Bool.and_eq_true] at h
    rcases List.mem_append.mp hx with hx | hx
    · exact wT_in n t h.1 x hx
    · exact wTs_in n ts h.2 x hx
end
theorem sealW_sound {t:Tr} {n:Nat} (h:isT n t = true):sound (sealW t) = true:=sound_sealed (wT_in n t h)
theorem sealW_drop (t:Tr):(sealW t).dropLast = wT t:=by unfold sealW; rw [List.dropLast_concat]
theorem sealW_len (t:Tr):(sealW t).length = (wT t).length + 1:=by unfold sealW; rw [List.length_append]; rfl
def sp_thing_on (K:PySem.W.Frag) (C:Addr):Sp:=fun vs H Q _=>∃ p ds bs n lf,∃ (b:Nat) (z:Int),vs = [.ref p,.int (b:Int),.int z]∧BAt C H p ds bs n lf∧b < bs.length∧((getC (bs.getD b []) z = none∧Q .non H)∨∃ t,getC (bs.getD b []) z = some (sealW t)∧isT 8 t = true∧(wT t).length≤900∧∀ v H',Same H H'→Rep NL H' t v→Q v H')
theorem ok_thing_on (T:Txt K mg C_WordReader C_Boards XC) (F:Fun K "thing_on" "thing_on" s_thing_on f fd) (D_Boards_cell:MDef P w K mg base 4 C_Boards "cell" ["self","board","number"] (sp_Boards_cell K C_Boards)) (D_unsealed:Def P w K mg base 3 "unsealed" ["row"] (sp_unsealed K)) (D_thing_of:Def P w K mg base 13 "thing_of" ["words"] (sp_thing_of K)):FnOk P w K mg base CX0 14 f fd ["boards","board","number"] (sp_thing_on K C_Boards):=by
  refine F.ok sc_thing_on (fun vs H Q E h=>?_) (fun cdv A outer s H vs Q E hr h=>?_)
  · obtain ⟨p,ds,bs,n,lf,b,z,rfl,_⟩:=h
    rfl
  obtain ⟨p,ds,bs,n,lf,b,z,rfl,hB,b1,q⟩:=h
  obtain ⟨dx,s0,h1,h2,h3,h4⟩:=id hB
  refine ⟨_,(@pss_cons _ _ _ _ _ (@ps_set _ _ (3) _ _ _ _ sc_thing_on.nd rfl (by first | exact Or.inl rfl | exact Or.inr rfl) (@pe_mth _ _ _ _ _ _ _ _ _ _ _ _ _ _ (pv 0) T.cl_Boards D_Boards_cell (hr.mono (by decide)) (@pa_cons _ _ _ _ _ (pv 1) (@pa_cons _ _ _ _ _ (pv 2) (@pa_nil _) (by rfl)) (by rfl)) (by rfl) (by rfl) (by rfl)) (by rfl) (by first | exact .inl rfl | exact .inr rfl | assumption)) (@pss_cons _ _ _ _ _ (@ps_if _ _ _ _ _ _ _ _ (@pt_cmp _ _ _ _ _ _ (@pc_isN _ _ _ _ _ (pv 3)) (by first | exact nobehind _ (by decide) (by decide) | rfl)) (@pss_one _ _ _ (@ps_ret _ _ _ _ (@pe_non _ _ _))) (@pss_nil _)) (@pss_cons _ _ _ _ _ (@ps_set _ _ (4) _ _ _ _ sc_thing_on.nd rfl (by first | exact Or.inl rfl | exact Or.inr rfl) (@pe_fn _ _ _ _ _ _ _ _ _ _ D_unsealed (hr.mono (by decide)) rfl (@pa_cons _ _ _ _ _ (pv 3) (@pa_nil _) (by rfl)) (by decide) (by rfl) (by rfl)) (by rfl) (by first | exact .inl rfl | exact .inr rfl | assumption)) (@pss_cons _ _ _ _ _ (@ps_if _ _ _ _ _ _ _ _ (@pt_cmp _ _ _ _ _ _ (@pc_isN _ _ _ _ _ (pv 4)) (by first | exact nobehind _ (by decide) (by decide) | rfl)) (@pss_one _ _ _ (@ps_ret _ _ _ _ (@pe_non _ _ _))) (@pss_nil _)) (@pss_one _ _ _ (@ps_try _ _ _ _ _ _ _ _ _ _ _ _ _ ⟨rfl,rfl⟩ T.x_NoThing rfl (@pxs_one _ _ _ (@px_lift _ _ _ (@ps_ret _ _ _ _ (@pe_fn _ _ _ _ _ _ _ _ _ _ D_thing_of (hr.mono (by decide)) rfl (@pa_cons _ _ _ _ _ (pv 4) (@pa_nil _) (by rfl)) (by decide) (by rfl) (by rfl))))) (@pss_nil _) (fun e=>(@pss_one _ _ _ (@ps_ret _ _ _ _ (@pe_non _ _ _)))) (by decide))))))),?_⟩
  refine ⟨_,rfl,p,dx,_,rfl,h1,rfl,_,rfl,_,rfl,p,ds,bs,n,lf,b,z,rfl,hB,b1,?_⟩
  rcases q with ⟨g,q⟩ | ⟨t,g,it,wl,q⟩
  · refine ⟨fun _=>⟨_,rfl,_,rfl,iteTc rfl q⟩,fun row e=>?_⟩
    rw [g] at e; cases e
  · refine ⟨(fun e=>by rw [g] at e; cases e),fun row e l hl=>?_⟩
    rw [g] at e
    cases e
    have s1:=same_new hl (.lst ((sealW t).map V.int))
    refine ⟨_,rfl,_,rfl,iteFc rfl ?_⟩
    refine ⟨_,rfl,l,sealW t,rfl,upd_same,by rw [sealW_len]; omega,(fun z=>by rw [sealW_sound it] at z; cases z),fun _ r H2 s2 nr hr2=>?_⟩
    rw [sealW_drop] at hr2
    refine ⟨_,rfl,_,rfl,iteFc rfl ?_⟩
    exact ⟨_,rfl,r,t,rfl,hr2,it,fun v H3 s3 rv=>q v H3 ((s1.trans s2).trans s3) rv⟩
def sp_block_on (K:PySem.W.Frag) (C:Addr):Sp:=fun vs H Q _=>∃ p ds bs n lf,∃ (b:Nat) (ta:Addr) (z y k:Int),vs = [.ref p,.int (b:Int),.ref ta]∧BAt C H p ds bs n lf∧b < bs.length∧H ta = some (.tup [.int z,.int y,.int k])∧
  ((getC (bs.getD b []) z = none∧Q .non H)∨∃ bk,getC (bs.getD b []) z = some (sealW (recT z y bk))∧bkOk bk∧sumB bk = k∧nbOk z y∧∀ v H',Same H H'→Rep NL H' (bkT bk) v→Q v H')
theorem ok_block_on (T:Txt K mg C_WordReader C_Boards XC) (F:Fun K "block_on" "block_on" s_block_on f fd) (D_thing_on:Def P w K mg base 14 "thing_on" ["boards","board","number"] (sp_thing_on K C_Boards)) (D_is_tuple_of:Def P w K mg base 1 "is_tuple_of" ["thing","many"] (sp_is_tuple_of K)) (D_is_block:Def P w K mg base 6 "is_block" ["thing"] (sp_is_block K)) (D_sum_of:Def P w K mg base 3 "sum_of" ["block"] (sp_sum_of K)):FnOk P w K mg base CX0 15 f fd ["boards","board","tag"] (sp_block_on K C_Boards):=by
  refine F.ok sc_block_on (fun vs H Q E h=>?_) (fun cdv A outer s H vs Q E hr h=>?_)
  · obtain ⟨p,ds,bs,n,lf,b,ta,z,y,k,rfl,_⟩:=h
    rfl
  obtain ⟨p,ds,bs,n,lf,b,ta,z,y,k,rfl,hB,b1,ht,q⟩:=h
  have hu9:=hu9_of hr
  refine ⟨_,(@pss_cons _ _ _ _ _ (@ps_set _ _ (3) _ _ _ _ sc_block_on.nd rfl (by first | exact Or.inl rfl | exact Or.inr rfl) (@pe_fn _ _ _ _ _ _ _ _ _ _ D_thing_on (hr.mono (by decide)) rfl (@pa_cons _ _ _ _ _ (pv 0) (@pa_cons _ _ _ _ _ (pv 1) (@pa_cons _ _ _ _ _ (@pe_ix _ _ _ _ _ _ _ ix_tup (pv 2) (@pe_int _ _ _ _) (fun _ _=>rfl)) (@pa_nil _) (by rfl)) (by rfl)) (by rfl)) (by decide) (by rfl) (by rfl)) (by rfl) (by first | exact .inl rfl | exact .inr rfl | assumption)) (@pss_cons _ _ _ _ _ (@ps_if _ _ _ _ _ _ _ _ (@PW.pt _ _ _ (@pw_or _ _ _ _ _ _ _ (@pt_not _ _ _ _ (@pt_val _ _ _ (@pe_fn _ _ _ _ _ _ _ _ _ _ D_is_tuple_of (hr.mono (by decide)) rfl (@pa_cons _ _ _ _ _ (pv 3) (@pa_cons _ _ _ _ _ (@pe_int _ _ _ _) (@pa_nil _) (by rfl)) (by rfl)) (by decide) (by rfl) (by rfl)) (by intro _; rfl))) (@pw_or1 _ _ _ _ (@pt_cmpR _ _ _ _ _ _ _ _ (op_neR hu9) (@pe_slice _ _ _ _ _ _ _ _ _ _ sl_tup (pv 3) (@po_none _) (@po_some _ _ _ (@pe_int _ _ _ _))) (@pe_slice _ _ _ _ _ _ _ _ _ _ sl_tup (pv 2) (@po_none _) (@po_some _ _ _ (@pe_int _ _ _ _))) (nomark _))))) (@pss_one _ _ _ (@ps_ret _ _ _ _ (@pe_non _ _ _))) (@pss_nil _)) (@pss_cons _ _ _ _ _ (@ps_if _ _ _ _ _ _ _ _ (@PW.pt _ _ _ (@pw_or _ _ _ _ _ _ _ (@pt_not _ _ _ _ (@pt_val _ _ _ (@pe_fn _ _ _ _ _ _ _ _ _ _ D_is_block (hr.mono (by decide)) rfl (@pa_cons _ _ _ _ _ (@pe_ix _ _ _ _ _ _ _ ix_tup (pv 3) (@pe_int _ _ _ _) (fun _ _=>rfl)) (@pa_nil _) (by rfl)) (by decide) (by rfl) (by rfl)) (by intro _; rfl))) (@pw_or1 _ _ _ _ (@pt_cmpR _ _ _ _ _ _ _ _ op_ne (@pe_fn _ _ _ _ _ _ _ _ _ _ D_sum_of (hr.mono (by decide)) rfl (@pa_cons _ _ _ _ _ (@pe_ix _ _ _ _ _ _ _ ix_tup (pv 3) (@pe_int _ _ _ _) (fun _ _=>rfl)) (@pa_nil _) (by rfl)) (by decide) (by rfl) (by rfl)) (@pe_ix _ _ _ _ _ _ _ ix_tup (pv 2) (@pe_int _ _ _ _) (fun _ _=>rfl)) (nomark _))))) (@pss_one _ _ _ (@ps_ret _ _ _ _ (@pe_non _ _ _))) (@pss_nil _)) (@pss_one _ _ _ (@ps_ret _ _ _ _ (@pe_ix _ _ _ _ _ _ _ ix_tup (pv 3) (@pe_int _ _ _ _) (fun _ _=>rfl))))))),?_⟩
  refine ⟨_,rfl,_,rfl,_,rfl,ta,_,_,_,rfl,rfl,SqT.of ht,rfl,p,ds,bs,n,lf,b,z,rfl,hB,b1,?_⟩
  rcases q with ⟨g,q⟩ | ⟨bk,g,ok,es,nb,q⟩
  · refine .inl ⟨g,?_⟩
    exact ⟨_,rfl,.non,3,rfl,trivial,_,rfl,iteTc rfl q⟩
  · refine .inr ⟨recT z y bk,g,isT_rec nb ok,by have:=rec_len (z:=z) (y:=y) ok; omega,fun v H1 s1 rv=>?_⟩
    obtain ⟨a,us,rfl,e,u1,us,rfl,r1,u2,us,rfl,r2,u3,us,rfl,r3,rfl⟩:=rv
    cases (show u1 = V.int z from r1)
    cases (show u2 = V.int y from r2)
    have okv:Ok H1 (.ref a):=.inr ⟨_,e⟩
    have ht1:=s1.get ht
    refine ⟨_,rfl,.ref a,3,rfl,okv,_,rfl,iteFc (by rw [tupN_tup e]; rfl) ?_⟩
    refine ⟨_,rfl,2,rfl,a,_,rfl,SqT.of e,(show ¬ (HT.sIx 3 0 none = 0∧HT.sIx 3 3 (some 2) = 3) by decide),fun p1 hp1=>?_⟩
    have s2:=same_new hp1 (.tup [V.int z,V.int y])
    refine ⟨_,rfl,2,rfl,ta,_,rfl,SqT.of (s2.get ht1),(show ¬ (HT.sIx 3 0 none = 0∧HT.sIx 3 3 (some 2) = 3) by decide),fun p2 hp2=>?_⟩
    have s3:=same_new hp2 (.tup [V.int z,V.int y])
    refine ⟨.tup [.int z,.int y],NL,NL,(by show 1 + max 1 (max 1 0)≤100; decide),⟨p1,_,rfl,s3.get upd_same,_,_,rfl,rfl,_,_,rfl,rfl,rfl⟩,⟨p2,_,rfl,upd_same,_,_,rfl,rfl,_,_,rfl,rfl,rfl⟩,_,rfl,iteFc rfl ?_⟩
    have s13:=s2.trans s3
    have r3':=Rep.same s13 _ _ r3
    have e3:=s13.get e
    obtain ⟨wok,wb⟩:=ok_well ok
    refine ⟨_,rfl,a,_,_,_,rfl,rfl,SqT.of e3,rfl,u3,bk,rfl,r3',wok,fun H4 s4=>⟨_,rfl,iteFc (by rw [wb]; rfl) ?_⟩⟩
    refine ⟨_,rfl,a,_,_,_,rfl,rfl,SqT.of (s4.get e3),rfl,u3,bk,rfl,Rep.same s4 _ _ r3',ok,fun H5 s5=>?_⟩
    have s45:=s4.trans s5
    refine ⟨_,rfl,ta,_,_,_,rfl,rfl,SqT.of (s45.get (s13.get ht1)),rfl,rfl,_,rfl,iteFc (by rw [es]; simp) ?_⟩
    exact ⟨_,rfl,a,_,_,_,rfl,rfl,SqT.of (s45.get e3),rfl,q u3 H5 ((s1.trans s13).trans s45) (Rep.same s45 _ _ r3')⟩
end
section
variable {P:Program} {w:World} {K:PySem.W.Frag} {mg:Str→Option Value} {base:Heap} {f C_WordReader C_Boards:Addr} {XC:Nat→Addr} {fd:FuncData}
theorem comp_pick {J:It} {xs:List V} {fr:List (Option Nat)} {k:Nat} {tt:TT} {te:TE} {Q:VK} {σ:St} {H:Hp} (p:V→Bool) (hJ:ItIs J H xs) (hn:xs.length≤1000000)
    (htest:∀ (x:V) (H':Hp) (R:Bool→Hp→Prop),x∈xs→Same H H'→(∀ H'',Same H' H''→R (p x) H'')→tt ((stC fr σ).set k (some x)) H' R)
    (helt:∀ (x:V) (H':Hp) (R:VK),Same H H'→(∀ H'',Same H' H''→R x H'')→te ((stC fr σ).set k (some x)) H' R)
    (hQ:∀ l H',H l = none→Same H H'→H' l = some (.lst (xs.filter p))→Q (.ref l) H'):tCompK fr (gName k) tt te σ Q J H:=by
  intro l hl
  refine ⟨fun i m σ' H'=>m = xs.length - i∧i≤xs.length∧(∀ y,σ'.set k y = (stC fr σ).set k y)∧Same H H'∧H' l = some (.lst ((xs.take i).filter p)),⟨xs.length,by simp,Nat.zero_le _,fun _=>rfl,same_new hl _,upd_same⟩,?_⟩
  rintro i m σ' H' ⟨rfl,hi,hσ,hs,hl'⟩
  obtain ⟨h1,h2,h3⟩:=hJ H' hs i
  by_cases hlt:i < xs.length
  · refine .inr ⟨h1 hlt,fun x H'' y=>?_⟩
    obtain ⟨rfl,hx⟩:=h2 x H'' y
    have hx:=hx hlt
    have hf:(xs.take i).filter p ++ [x].filter p = (xs.take (i + 1)).filter p:=by rw [List.take_add_one,hx,List.filter_append]; rfl
    have hle:((xs.take i).filter p).length≤i:=Nat.le_trans (List.length_filter_le ..) (by rw [List.length_take]; omega)
    show tt (σ'.set k (some x)) H'' _
    rw [hσ]
    refine htest x H'' _ (List.mem_of_getElem? hx) hs fun H3 s3=>ite2 (fun c=>?_) (fun c=>?_)
    · refine helt x H3 _ (hs.trans s3) fun H4 s4=>?_
      refine ⟨_,s4.get (s3.get hl'),smallLt (by omega),xs.length - (i + 1),by omega,rfl,hlt,fun y=>by rw [List.set_set],same_upd ((hs.trans s3).trans s4) hl _,?_⟩
      rw [upd_same,← hf,List.filter_cons_of_pos c]; rfl
    · refine ⟨xs.length - (i + 1),by omega,rfl,hlt,fun y=>by rw [List.set_set],hs.trans s3,?_⟩
      rw [s3.get hl',← hf,List.filter_cons_of_neg c,List.filter_nil,List.append_nil]
  · have e:i = xs.length:=by omega
    subst e
    exact .inl ⟨h3 (Nat.le_refl _),hQ l H' hl hs (by rw [hl',List.take_of_length_le (Nat.le_refl _)])⟩
def Lies (bs:List Cel) (z y:Int) (bk:Bk):Prop:=∀ b,b < bs.length→getC (bs.getD b []) z = none∨getC (bs.getD b []) z = some (sealW (recT z y bk))
def hasB (bs:List Cel) (z:Int) (b:Int):Bool:=(getC (bs.getD b.toNat []) z).isSome
def twn (bs:List Cel) (z:Int):List Int:=[z % (bs.length:Int),(z + 1) % (bs.length:Int)]
theorem twn_in {bs:List Cel} {z:Int} (h:0 < bs.length):∀ x∈twn bs z,0≤x∧x < (bs.length:Int):=fun x hx=>by
  have e:x = z % (bs.length:Int)∨x = (z + 1) % (bs.length:Int):=by simpa [twn] using hx
  rcases e with rfl | rfl
  · exact ⟨Int.emod_nonneg _ (by omega),Int.emod_lt_of_pos _ (by omega)⟩
  · exact ⟨Int.emod_nonneg _ (by omega),Int.emod_lt_of_pos _ (by omega)⟩
theorem on_one {H:Hp} {p ta:Addr} {ds:List Addr} {bs:List Cel} {n:Int} {lf:V} {z y:Int} {bk:Bk} {x:Int} {Q:VK} (hB:BAt C_Boards H p ds bs n lf) (x0:0≤x) (x1:x < (bs.length:Int)) (ht:H ta = some (.tup [.int z,.int y,.int (sumB bk)])) (hl:Lies bs z y bk) (ok:bkOk bk) (nb:nbOk z y)
    (q0:hasB bs z x = false→Q .non H) (q1:hasB bs z x = true→∀ v H',Same H H'→Rep NL H' (bkT bk) v→Q v H'):sp_block_on K C_Boards [.ref p,.int x,.ref ta] H Q E0:=by
  have ex:((x.toNat:Nat):Int) = x:=by omega
  refine ⟨p,ds,bs,n,lf,x.toNat,ta,z,y,sumB bk,by rw [ex],hB,by omega,ht,?_⟩
  rcases hl x.toNat (by omega) with e | e
  · exact .inl ⟨e,q0 (by unfold hasB; rw [e]; rfl)⟩
  · exact .inr ⟨bk,e,ok,rfl,nb,q1 (by unfold hasB; rw [e]; rfl)⟩
def sp_right_copies (K:PySem.W.Frag) (C:Addr):Sp:=fun vs H Q _=>∃ p ds bs n lf,∃ (ta:Addr) (z y:Int) (bk:Bk),vs = [.ref p,.ref ta]∧BAt C H p ds bs n lf∧0 < bs.length∧H ta = some (.tup [.int z,.int y,.int (sumB bk)])∧Lies bs z y bk∧bkOk bk∧nbOk z y∧
  ∀ (l:Addr) (H':Hp) (ms:List Int),Same H H'→H l = none→H' l = some (.lst (ms.map V.int))→ms.Perm ((twn bs z).filter (hasB bs z))→ms.Pairwise (·≤·)→Q (.ref l) H'
theorem ok_right_copies (T:Txt K mg C_WordReader C_Boards XC) (F:Fun K "right_copies" "right_copies" s_right_copies f fd) (D_Boards_twins:MDef P w K mg base 2 C_Boards "twins" ["self","number"] (sp_Boards_twins K C_Boards)) (D_block_on:Def P w K mg base 15 "block_on" ["boards","board","tag"] (sp_block_on K C_Boards)):FnOk P w K mg base CX0 16 f fd ["boards","tag"] (sp_right_copies K C_Boards):=by
  refine F.ok sc_right_copies (fun vs H Q E h=>?_) (fun cdv A outer s H vs Q E hr h=>?_)
  · obtain ⟨p,ds,bs,n,lf,ta,z,y,bk,rfl,_⟩:=h
    rfl
  obtain ⟨p,ds,bs,n,lf,ta,z,y,bk,rfl,hB,b0,ht,hl,ok,nb,q⟩:=h
  obtain ⟨dx,s0,h1,h2,h3,h4⟩:=id hB
  refine ⟨_,(@pss_one _ _ _ (@ps_ret _ _ _ _ (@pe_callB _ _ _ _ _ _ _ _ _ (call_sortI (K:=K) (by rfl)) (by rfl) T.b_sorted bt_sorted (@pa_cons _ _ _ _ _ (@pe_comp _ ["board","boards","tag"] [none,some 0,some 1] _ _ _ _ _ _ _ _ _ _ _ rfl (@pi_tup _ _ _ _ (@pe_mth _ _ _ _ _ _ _ _ _ _ _ _ _ _ (pv 0) T.cl_Boards D_Boards_twins (hr.mono (by decide)) (@pa_cons _ _ _ _ _ (@pe_ix _ _ _ _ _ _ _ ix_tup (pv 1) (@pe_int _ _ _ _) (fun _ _=>rfl)) (@pa_nil _) (by rfl)) (by rfl) (by rfl) (by rfl))) (by rfl) rfl (by repeat (first | exact trivial | refine ⟨rfl,?_⟩)) (by repeat (first | exact trivial | refine ⟨fun h=>(by first | exact ⟨_,rfl⟩ | cases h),?_⟩)) (fun C s H fp=>⟨(@pg_name _ _ (0) _ (show (["board","boards","tag"]:List Str).Nodup by decide +kernel) rfl (by first | exact Or.inl rfl | exact Or.inr rfl) (by first | exact .inl rfl | exact .inr rfl | assumption)),(@pifs_one _ _ _ (@pt_cmp _ _ _ _ _ _ (@pc_notN _ _ _ _ _ (@pe_fn _ _ _ _ _ _ _ _ _ _ D_block_on (hr.mono (by decide)) rfl (@pa_cons _ _ _ _ _ (pv 1) (@pa_cons _ _ _ _ _ (pv 0) (@pa_cons _ _ _ _ _ (pv 2) (@pa_nil _) (by rfl)) (by rfl)) (by rfl)) (by decide) (by rfl) (by rfl))) (by first | exact nobehind _ (by decide) (by decide) | rfl))),(pv 0)⟩) (by intro _; rfl)) (@pa_nil _) (by rfl)) (by decide) (by decide) (by rfl) (by rfl)))),?_⟩
  refine ⟨_,rfl,p,dx,_,rfl,h1,rfl,_,rfl,ta,_,_,_,rfl,rfl,SqT.of ht,rfl,p,ds,bs,n,lf,z,rfl,hB,b0,fun tp htp=>?_⟩
  have s1:=same_new htp (.tup [V.int (z % (bs.length:Int)),V.int ((z + 1) % (bs.length:Int))])
  refine ⟨tp,rfl,⟨_,SqT.of upd_same⟩,comp_pick (xs:=(twn bs z).map V.int) (fun v=>match v with | .int x=>hasB bs z x | _=>false) (itIs_tup upd_same) (by show 2≤1000000; decide) (fun x H' R hx s' hR=>?_) (fun x H' R s' hR=>⟨_,rfl,hR H' (Same.refl _)⟩) fun l H7 n7 s7 h7=>?_⟩
  · obtain ⟨k,hk,rfl⟩:=List.mem_map.mp hx
    obtain ⟨k0,k1⟩:=twn_in b0 k hk
    have u:=s1.trans s'
    refine ⟨_,rfl,_,rfl,_,rfl,?_⟩
    dsimp only [tNil,List.append_nil]
    refine on_one (hB.same u) k0 k1 (u.get ht) hl ok nb (fun e=>⟨_,rfl,?_⟩) (fun e v H2 s2 rv=>⟨_,rfl,?_⟩)
    · have:=hR H' (Same.refl _)
      have e':(match V.int k with | V.int x=>hasB bs z x | _=>false) = false:=e
      rw [e'] at this
      exact this
    · have:=hR H2 s2
      have e':(match V.int k with | V.int x=>hasB bs z x | _=>false) = true:=e
      rw [e'] at this
      have nv:v≠.non:=by
        obtain ⟨a,xs,rfl,_⟩:=bk_first rv
        intro z; cases z
      rw [decide_eq_false nv]
      exact this
  · have ef:((twn bs z).map V.int).filter (fun v=>match v with | V.int x=>hasB bs z x | _=>false) = ((twn bs z).filter (hasB bs z)).map V.int:=by rw [List.filter_map]; rfl
    rw [ef] at h7
    have lf:((twn bs z).filter (hasB bs z)).length≤2:=List.length_filter_le _ _
    refine ⟨l,_,rfl,SqL.of h7,by omega,fun ms g pm so hg=>?_⟩
    exact q g _ ms ((s1.trans s7).trans (same_new hg _)) ((s1.trans s7).free hg) upd_same pm so
def sp_fetched (K:PySem.W.Frag) (C:Addr) (XC:Nat→Addr):Sp:=fun vs H Q E=>∃ p ds bs n lf,∃ (ta:Addr) (z y:Int) (bk:Bk),vs = [.ref p,.ref ta]∧BAt C H p ds bs n lf∧0 < bs.length∧H ta = some (.tup [.int z,.int y,.int (sumB bk)])∧Lies bs z y bk∧bkOk bk∧nbOk z y∧
  ((twn bs z).filter (hasB bs z)≠[]→∀ v H',Same H H'→Rep NL H' (bkT bk) v→Q v H')∧((twn bs z).filter (hasB bs z) = []→∀ dx H',Same H H'→H dx = none→H' dx = some (.xd [("number",.int z)])→E (.ref (XC 1)) (some dx) H')
theorem ok_fetched (T:Txt K mg C_WordReader C_Boards XC) (F:Fun K "fetched" "fetched" s_fetched f fd) (D_Boards_twins:MDef P w K mg base 2 C_Boards "twins" ["self","number"] (sp_Boards_twins K C_Boards)) (D_Lost_init:XDef P w K mg base 1 "Lost" (XC 1) "number" ["self","number"]) (D_block_on:Def P w K mg base 15 "block_on" ["boards","board","tag"] (sp_block_on K C_Boards)):FnOk P w K mg base (CXe P w) 16 f fd ["boards","tag"] (sp_fetched K C_Boards XC):=by
  refine F.okE sc_fetched (fun vs H Q E h=>?_) (fun cdv A outer s H vs Q E hr h=>?_)
  · obtain ⟨p,ds,bs,n,lf,ta,z,y,bk,rfl,_⟩:=h
    rfl
  obtain ⟨p,ds,bs,n,lf,ta,z,y,bk,rfl,hB,b0,ht,hl,ok,nb,q,qE⟩:=h
  obtain ⟨dx,s0,h1,h2,h3,h4⟩:=id hB
  refine ⟨_,(@pss_cons _ _ _ _ _ (@ps_for _ _ _ _ _ _ _ _ PassesOwn.leaving rfl (@pi_tup _ _ _ _ (@pe_mth _ _ _ _ _ _ _ _ _ _ _ _ _ _ (pv 0) T.cl_Boards D_Boards_twins (hr.mono (by decide)) (@pa_cons _ _ _ _ _ (@pe_ix _ _ _ _ _ _ _ ix_tup (pv 1) (@pe_int _ _ _ _) (fun _ _=>rfl)) (@pa_nil _) (by rfl)) (by rfl) (by rfl) (by rfl))) (@pg_name _ _ (2) _ sc_fetched.nd rfl (by first | exact Or.inl rfl | exact Or.inr rfl) (by first | exact .inl rfl | exact .inr rfl | assumption)) (@pss_cons _ _ _ _ _ (@ps_set _ _ (3) _ _ _ _ sc_fetched.nd rfl (by first | exact Or.inl rfl | exact Or.inr rfl) (@pe_fn _ _ _ _ _ _ _ _ _ _ D_block_on (hr.mono (by decide)) rfl (@pa_cons _ _ _ _ _ (pv 0) (@pa_cons _ _ _ _ _ (pv 2) (@pa_cons _ _ _ _ _ (pv 1) (@pa_nil _) (by rfl)) (by rfl)) (by rfl)) (by decide) (by rfl) (by rfl)) (by rfl) (by first | exact .inl rfl | exact .inr rfl | assumption)) (@pss_one _ _ _ (@ps_if _ _ _ _ _ _ _ _ (@pt_cmp _ _ _ _ _ _ (@pc_notN _ _ _ _ _ (pv 3)) (by first | exact nobehind _ (by decide) (by decide) | rfl)) (@pss_one _ _ _ (@ps_ret _ _ _ _ (pv 3))) (@pss_nil _)))) (by intro _; rfl)) (@pss_one _ _ _ (@ps_raise1 _ _ _ _ _ _ _ _ _ _ _ _ raise_upE0 rfl D_Lost_init (hr.mono (by decide)) rfl (@pa_cons _ _ _ _ _ (@pe_ix _ _ _ _ _ _ _ ix_tup (pv 1) (@pe_int _ _ _ _) (fun _ _=>rfl)) (@pa_nil _) (by rfl)) (by decide) (by rfl)))),?_⟩
  dsimp only [cxOf]
  refine ⟨_,rfl,p,dx,_,rfl,h1,rfl,_,rfl,ta,_,_,_,rfl,rfl,SqT.of ht,rfl,p,ds,bs,n,lf,z,rfl,hB,b0,fun tp htp=>?_⟩
  have s1:=same_new htp (.tup [V.int (z % (bs.length:Int)),V.int ((z + 1) % (bs.length:Int))])
  have etp:(upd H tp (.tup [V.int (z % (bs.length:Int)),V.int ((z + 1) % (bs.length:Int))])) tp = some (.tup ((twn bs z).map V.int)):=upd_same
  generalize upd H tp (.tup [V.int (z % (bs.length:Int)),V.int ((z + 1) % (bs.length:Int))]) = H0 at s1 etp
  refine ⟨tp,rfl,⟨_,SqT.of etp⟩,for_tup (K:=K) (a:=tp) (xs:=(twn bs z).map V.int) (fun i σ H2=>∃ v2 v3,σ = [some (.ref p),some (.ref ta),v2,v3]∧Same H0 H2∧((twn bs z).take i).filter (hasB bs z) = []) ⟨none,none,rfl,Same.refl _,rfl⟩ (fun i σ H2 _ ⟨_,_,_,s2,_⟩=>SqT.of (s2.get etp)) ?_ ?_⟩
  · rintro i x σ H2 hi ⟨v2,v3,rfl,s2,hf⟩
    obtain ⟨k,rfl,hk⟩:=ints_get hi
    obtain ⟨k0,k1⟩:=twn_in b0 k (List.mem_of_getElem? hk)
    have u:=s1.trans s2
    refine ⟨_,rfl,_,rfl,_,rfl,?_⟩
    dsimp only [tNil,List.append_nil]
    refine on_one (hB.same u) k0 k1 (u.get ht) hl ok nb (fun e=>?_) (fun e v H3 s3 rv=>?_)
    · refine ⟨_,rfl,_,rfl,iteFc rfl ?_⟩
      refine ⟨_,_,rfl,s2,?_⟩
      rw [List.take_add_one,hk,List.filter_append,hf]
      show [k].filter (hasB bs z) = []
      rw [List.filter_cons_of_neg (by rw [e]; exact Bool.false_ne_true),List.filter_nil]
    · have nv:v≠.non:=by
        obtain ⟨a,xs,rfl,_⟩:=bk_first rv
        intro z; cases z
      refine ⟨_,rfl,_,rfl,iteTc (by rw [decide_eq_false nv]; rfl) ?_⟩
      refine ⟨_,rfl,q (fun zz=>?_) v H3 (u.trans s3) rv⟩
      have:k∈(twn bs z).filter (hasB bs z):=List.mem_filter.mpr ⟨List.mem_of_getElem? hk,e⟩
      rw [zz] at this
      cases this
  · rintro σ H2 ⟨v2,v3,rfl,s2,hf⟩
    rw [List.take_of_length_le (by rw [List.length_map]; exact Nat.le_refl _)] at hf
    have u:=s1.trans s2
    refine ⟨_,rfl,ta,_,_,_,rfl,rfl,SqT.of (u.get ht),rfl,_,rfl,fun d hd=>?_⟩
    exact qE hf d _ (u.trans (same_new hd _)) (u.free hd) upd_same
end
section
variable {P:Program} {w:World} {K:PySem.W.Frag} {mg:Str→Option Value} {base:Heap} {f C_WordReader C_Boards:Addr} {XC:Nat→Addr} {fd:FuncData}
def wr (bs:List Cel) (z:Int) (row:List Int) (l:List Int):List Cel:=l.foldl (fun bs x=>bs.set x.toNat (putC (bs.getD x.toNat []) z row)) bs
theorem wr_len (z:Int) (row:List Int):∀ (l:List Int) (bs:List Cel),(wr bs z row l).length = bs.length
  | [],_=>rfl
  | x :: l,bs=>by
    show (wr (bs.set _ _) z row l).length = _
    rw [wr_len z row l,List.length_set]
theorem wr_snoc (bs:List Cel) (z:Int) (row:List Int) (l:List Int) (x:Int):wr bs z row (l ++ [x]) = (wr bs z row l).set x.toNat (putC ((wr bs z row l).getD x.toNat []) z row):=by
  unfold wr; rw [List.foldl_append]; rfl
theorem wr_bound {z:Int} {row:List Int} {M:Nat}:∀ (l:List Int) {bs:List Cel},(∀ c∈bs,c.length≤M)→∀ c∈wr bs z row l,c.length≤M + l.length:=fun l=>by
  induction l generalizing M with
  | nil=>intro bs h; exact h
  | cons x l ih=>
    intro bs h c hc
    have:∀ c∈bs.set x.toNat (putC (bs.getD x.toNat []) z row),c.length≤M + 1:=fun c hc=>by
      rcases List.mem_or_eq_of_mem_set hc with hc | rfl
      · have:=h c hc; omega
      · have:=putC_len (bs.getD x.toNat []) z row
        have:(bs.getD x.toNat []).length≤M:=by
          unfold List.getD
          cases e:bs[x.toNat]? with
          | none=>exact Nat.zero_le _
          | some c=>exact h c (List.mem_of_getElem? e)
        omega
    have:=ih this c hc
    rw [List.length_cons]
    omega
def lfN (lf:V):Nat→V
  | 0=>lf
  | i + 1=>lfDec (lfN lf i)
theorem lfDec_ok {lf:V} (h:LfOk lf) (n:lf≠.int 0):LfOk (lfDec lf):=by
  rcases h with rfl | ⟨k,rfl⟩
  · exact .inl rfl
  · have:k≠0:=fun z=>n (by rw [z]; rfl)
    exact .inr ⟨k - 1,by show V.int ((k:Int) - 1) = _; rw [show (k:Int) - 1 = ((k - 1:Nat):Int) by omega]⟩
def sp_lay (K:PySem.W.Frag) (C:Addr) (XC:Nat→Addr):Sp:=fun vs H Q E=>∃ p ds bs n lf,∃ (z y:Int) (bv:V) (bk:Bk),vs = [.ref p,.int z,.int y,bv]∧BAt C H p ds bs n lf∧LfOk lf∧0 < bs.length∧(∀ c∈bs,c.length≤900)∧Rep NL H (bkT bk) bv∧bkOk bk∧nbOk z y∧
  (∀ i,i < 2→(∀ j,j < i→lfN lf j≠.int 0)→lfN lf i = .int 0→∀ H',BAt C H' p ds (wr bs z (sealW (recT z y bk)) ((twn bs z).take i)) (n + (i:Int)) (lfN lf i)→Kb H H' p ds→E (.ref (XC 0)) none H')∧
  ((∀ j,j < 2→lfN lf j≠.int 0)→∀ H',BAt C H' p ds (wr bs z (sealW (recT z y bk)) (twn bs z)) (n + 2) (lfN lf 2)→Kb H H' p ds→Q .non H')
theorem ok_lay (T:Txt K mg C_WordReader C_Boards XC) (F:Fun K "lay" "lay" s_lay f fd) (D_sealed:Def P w K mg base 2 "sealed" ["words"] (sp_sealed K)) (D_Boards_twins:MDef P w K mg base 2 C_Boards "twins" ["self","number"] (sp_Boards_twins K C_Boards)) (D_words_of:Def P w K mg base 9 "words_of" ["thing"] (sp_words_of K)) (D_Boards_write:MDefX P w K mg base 4 C_Boards "write" ["self","board","number","row"] (sp_Boards_write K C_Boards XC)):FnOk P w K mg base (CXd P w) 10 f fd ["boards","number","birth","block"] (sp_lay K C_Boards XC):=by
  refine F.okX sc_lay (fun vs H Q E h=>?_) (fun cdv A outer s H vs Q E hr h=>?_)
  · obtain ⟨p,ds,bs,n,lf,z,y,bv,bk,rfl,_⟩:=h
    rfl
  obtain ⟨p,ds,bs,n,lf,z,y,bv,bk,rfl,hB,lok,b0,bb,hv,ok,nb,qE,q⟩:=h
  refine ⟨_,(@pss_cons _ _ _ _ _ (@ps_set _ _ (4) _ _ _ _ sc_lay.nd rfl (by first | exact Or.inl rfl | exact Or.inr rfl) (@pe_fn _ _ _ _ _ _ _ _ _ _ D_sealed (hr.mono (by decide)) rfl (@pa_cons _ _ _ _ _ (@pe_fn _ _ _ _ _ _ _ _ _ _ D_words_of (hr.mono (by decide)) rfl (@pa_cons _ _ _ _ _ (@pe_tup _ _ _ _ _ (@pa_cons _ _ _ _ _ (pv 1) (@pa_cons _ _ _ _ _ (pv 2) (@pa_cons _ _ _ _ _ (pv 3) (@pa_nil _) (by rfl)) (by rfl)) (by rfl))) (@pa_nil _) (by rfl)) (by decide) (by rfl) (by rfl)) (@pa_nil _) (by rfl)) (by decide) (by rfl) (by rfl)) (by rfl) (by first | exact .inl rfl | exact .inr rfl | assumption)) (@pss_one _ _ _ (@ps_for _ _ _ _ _ _ _ _ PassesOwn.leaving rfl (@pi_tup _ _ _ _ (@pe_mth _ _ _ _ _ _ _ _ _ _ _ _ _ _ (pv 0) T.cl_Boards D_Boards_twins (hr.mono (by decide)) (@pa_cons _ _ _ _ _ (pv 1) (@pa_nil _) (by rfl)) (by rfl) (by rfl) (by rfl))) (@pg_name _ _ (5) _ sc_lay.nd rfl (by first | exact Or.inl rfl | exact Or.inr rfl) (by first | exact .inl rfl | exact .inr rfl | assumption)) (@pss_one _ _ _ (@ps_expr _ _ _ _ (@pe_mthX _ _ _ _ _ _ _ _ _ _ _ _ _ _ _ (pv 0) T.cl_Boards D_Boards_write (hr.mono (by decide)) pass_up (@pa_cons _ _ _ _ _ (pv 5) (@pa_cons _ _ _ _ _ (pv 1) (@pa_cons _ _ _ _ _ (pv 4) (@pa_nil _) (by rfl)) (by rfl)) (by rfl)) (by rfl) (by rfl) (by rfl)) (by rfl))) (by intro _; rfl)))),?_⟩
  dsimp only [cxOf]
  refine ⟨_,rfl,_,rfl,_,rfl,small (by show 3≤1000000; decide),fun tr htr=>?_⟩
  have s1:=same_new htr (.tup [V.int z,V.int y,bv])
  have hrec:Rep NL (upd H tr (.tup [V.int z,V.int y,bv])) (recT z y bk) (.ref tr):=⟨tr,_,rfl,upd_same,_,_,rfl,rfl,_,_,rfl,rfl,_,_,rfl,Rep.same s1 _ _ hv,rfl⟩
  have rl:=rec_len (z:=z) (y:=y) ok
  refine ⟨.ref tr,recT z y bk,rfl,hrec,isT_rec nb ok,by omega,fun wl H2 s2 nw hw=>?_⟩
  refine ⟨wl,_,rfl,hw,by omega,fun rw_ H3 s3 nr hrw=>?_⟩
  have s03:=(s1.trans s2).trans s3
  have hB3:=hB.same s03
  obtain ⟨dx,sh,h1,h2,h3,h4⟩:=id hB3
  refine ⟨_,rfl,p,dx,_,rfl,h1,rfl,_,rfl,p,ds,bs,n,lf,z,rfl,hB3,b0,fun tp htp=>?_⟩
  have s4:=same_new htp (.tup [V.int (z % (bs.length:Int)),V.int ((z + 1) % (bs.length:Int))])
  have etp:(upd H3 tp (.tup [V.int (z % (bs.length:Int)),V.int ((z + 1) % (bs.length:Int))])) tp = some (.tup ((twn bs z).map V.int)):=upd_same
  have hB4:=hB3.same s4
  have hrw4:=s4.get hrw
  have s04:=s03.trans s4
  generalize upd H3 tp (.tup [V.int (z % (bs.length:Int)),V.int ((z + 1) % (bs.length:Int))]) = H4 at s4 etp hB4 hrw4 s04
  obtain ⟨dx4,sh4,g1,_,_,_⟩:=id hB4
  have ntp:tp≠p:=ne_of etp g1 (by intro z; cases z)
  have ndp:tp ∉ ds:=hB4.notin etp (by intro kvs z; cases z)
  have nrp:rw_≠p:=ne_of hrw4 g1 (by intro z; cases z)
  have ndr:rw_ ∉ ds:=hB4.notin hrw4 (by intro kvs z; cases z)
  refine ⟨tp,rfl,⟨_,SqT.of etp⟩,for_tup (K:=K) (a:=tp) (xs:=(twn bs z).map V.int) (fun i σ H2=>∃ v5,σ = [some (.ref p),some (.int z),some (.int y),some bv,some (.ref rw_),v5]∧BAt C_Boards H2 p ds (wr bs z (sealW (recT z y bk)) ((twn bs z).take i)) (n + (i:Int)) (lfN lf i)∧Kb H4 H2 p ds∧LfOk (lfN lf i)∧∀ j,j < i→lfN lf j≠.int 0) ⟨none,rfl,by rw [List.take_zero,show n + ((0:Nat):Int) = n by omega]; exact hB4,fun _ _ e _ _=>e,lok,fun _ h=>nomatch h⟩ (fun i σ H2 _ ⟨_,_,_,k2,_⟩=>SqT.of (k2 _ _ etp ntp ndp)) ?_ ?_⟩
  · rintro i x σ H5 hi ⟨v5,rfl,hB5,k5,l5,nz⟩
    obtain ⟨k,rfl,hk⟩:=ints_get hi
    obtain ⟨k0,k1⟩:=twn_in b0 k (List.mem_of_getElem? hk)
    have i2:i < 2:=(List.getElem?_eq_some_iff.mp hk).1
    have ek:((k.toNat:Nat):Int) = k:=by omega
    obtain ⟨dx5,sh5,e1,e2,e3,e4⟩:=id hB5
    refine ⟨_,rfl,p,dx5,_,rfl,e1,rfl,_,rfl,_,rfl,_,rfl,p,ds,_,_,_,k.toNat,z,rw_,sealW (recT z y bk),by rw [ek]; rfl,hB5,l5,by rw [wr_len]; omega,fun c hc=>?_,k5 _ _ hrw4 nrp ndr,fun e0=>?_,fun ne H6 hB6 k6=>?_⟩
    · have:=wr_bound _ bb c hc
      have:((twn bs z).take i).length≤2:=by rw [List.length_take]; exact Nat.le_trans (Nat.min_le_right _ _) (Nat.le_refl 2)
      omega
    · exact qE i i2 nz e0 H5 hB5 ((Same.kb s04 p ds).trans k5)
    · refine ⟨_,rfl,?_,k5.trans k6,lfDec_ok l5 ne,fun j hj=>?_⟩
      · rw [List.take_add_one,hk]
        show BAt _ _ _ _ (wr bs z _ ((twn bs z).take i ++ [k])) _ _
        rw [wr_snoc,show n + ((i + 1:Nat):Int) = n + (i:Int) + 1 by omega]
        exact hB6
      · rcases Nat.lt_succ_iff_lt_or_eq.mp hj with hj | rfl
        · exact nz j hj
        · exact ne
  · rintro σ H5 ⟨v5,rfl,hB5,k5,l5,nz⟩
    rw [List.take_of_length_le (by rw [List.length_map]; exact Nat.le_refl _)] at hB5
    exact q nz H5 hB5 ((Same.kb s04 p ds).trans k5)
end
section
variable {P:Program} {w:World} {K:PySem.W.Frag} {mg:Str→Option Value} {base:Heap} {f C_WordReader C_Boards:Addr} {XC:Nat→Addr} {fd:FuncData}
theorem vals3 {x y z:Addr}:∀ us,Vals [V.ref x,V.ref y,V.ref z] us→us = [Value.ref x,Value.ref y,Value.ref z]:=fun us h=>by
  cases h with
  | cons h1 t=>
    cases t with
    | cons h2 t=>
      cases t with
      | cons h3 t=>
        cases t
        rw [show _ = Value.ref x from h1,show _ = Value.ref y from h2,show _ = Value.ref z from h3]
def sp__law_laid (K:PySem.W.Frag) (C:Addr):Sp:=fun vs H Q _=>∃ p ds bs n lf,∃ (z y:Int) (bv:V) (bk:Bk),vs = [.ref p,.int z,.int y,bv]∧BAt C H p ds bs n lf∧LfOk lf∧0 < bs.length∧(∀ c∈bs,c.length≤900)∧Rep NL H (bkT bk) bv∧bkOk bk∧nbOk z y∧
  (∀ i,i < 2→(∀ j,j < i→lfN lf j≠.int 0)→lfN lf i = .int 0→∀ H',BAt C H' p ds (wr bs z (sealW (recT z y bk)) ((twn bs z).take i)) (n + (i:Int)) (lfN lf i)→Kb H H' p ds→Q (.bl true) H')∧
  ((∀ j,j < 2→lfN lf j≠.int 0)→∀ H',BAt C H' p ds (wr bs z (sealW (recT z y bk)) (twn bs z)) (n + 2) (lfN lf 2)→Kb H H' p ds→Q .non H')
theorem ok__law_laid (T:Txt K mg C_WordReader C_Boards XC) (F:Fun K "_law_laid" "_law_laid" s__law_laid f fd) (D_lay:DefX P w K mg base 10 "lay" ["boards","number","birth","block"] (sp_lay K C_Boards XC)):FnOk P w K mg base CX0 11 f fd ["_law_boards","_law_number","_law_birth","_law_block_here"] (sp__law_laid K C_Boards):=by
  refine F.ok sc__law_laid (fun vs H Q E h=>?_) (fun cdv A outer s H vs Q E hr h=>?_)
  · obtain ⟨p,ds,bs,n,lf,z,y,bv,bk,rfl,_⟩:=h
    rfl
  obtain ⟨p,ds,bs,n,lf,z,y,bv,bk,rfl,hB,lok,b0,bb,hv,ok,nb,qE,q⟩:=h
  refine ⟨_,(@pss_cons _ _ _ _ _ (@ps_set _ _ (4) _ _ _ _ sc__law_laid.nd rfl (by first | exact Or.inl rfl | exact Or.inr rfl) (@pe_non _ _ _) (by rfl) (by first | exact .inl rfl | exact .inr rfl | assumption)) (@pss_cons _ _ _ _ _ (@ps_tryAs _ _ _ _ _ _ _ _ _ _ _ (5) _ _ _ ⟨rfl,rfl⟩ T.x_StemError rfl sc__law_laid.nd rfl rfl (@pxs_one _ _ _ (@px_expr _ _ _ _ (@pex_fn _ _ _ _ _ _ _ _ _ _ D_lay (hr.mono (by decide)) rfl (@pa_cons _ _ _ _ _ (pv 0) (@pa_cons _ _ _ _ _ (pv 1) (@pa_cons _ _ _ _ _ (pv 2) (@pa_cons _ _ _ _ _ (pv 3) (@pa_nil _) (by rfl)) (by rfl)) (by rfl)) (by rfl)) (by decide) (by rfl) (by rfl)) (by rfl))) (@pss_nil _) (fun e=>(@pss_cons _ _ _ _ _ (@ps_set _ _ (6) _ _ _ _ sc__law_laid.nd rfl (by first | exact Or.inl rfl | exact Or.inr rfl) (@pe_not _ _ _ _ (@pe_callB _ _ _ _ _ _ _ _ _ (call_isXT (K:=K) (by rfl)) (by rfl) T.b_isinstance bt_isinstance (@pa_cons _ _ _ _ _ (pv 5) (@pa_cons _ _ _ _ _ (@pe_tup _ _ _ _ _ (@pa_cons _ _ _ _ _ (@pe_xcl _ _ _ _ rfl T.x_Lost (by decide)) (@pa_cons _ _ _ _ _ (@pe_xcl _ _ _ _ rfl T.x_NoBoards (by decide)) (@pa_cons _ _ _ _ _ (@pe_xcl _ _ _ _ rfl T.x_NoThing (by decide)) (@pa_nil _) (by rfl)) (by rfl)) (by rfl))) (@pa_nil _) (by rfl)) (by rfl)) (by decide) (by decide) (by rfl) (by rfl))) (by rfl) (by first | exact .inl rfl | exact .inr rfl | assumption)) (@pss_one _ _ _ (@ps_set _ _ (4) _ _ _ _ sc__law_laid.nd rfl (by first | exact Or.inl rfl | exact Or.inr rfl) (@pe_and _ _ _ _ _ _ _ (@pe_callB _ _ _ _ _ _ _ _ _ (call_isXK (K:=K) (by rfl)) (by rfl) T.b_isinstance bt_isinstance (@pa_cons _ _ _ _ _ (pv 5) (@pa_cons _ _ _ _ _ (@pe_xcl _ _ _ _ rfl T.x_Stopped (by decide)) (@pa_nil _) (by rfl)) (by rfl)) (by decide) (by decide) (by rfl) (by rfl)) (@pe_and _ _ _ _ _ _ _ (@pe_callB _ _ _ _ _ _ _ _ _ (call_isXK (K:=K) (by rfl)) (by rfl) T.b_isinstance bt_isinstance (@pa_cons _ _ _ _ _ (pv 5) (@pa_cons _ _ _ _ _ (@pe_ty _ _ _ _ rfl T.b_ValueError bt_ValueError (by decide) (by decide)) (@pa_nil _) (by rfl)) (by rfl)) (by decide) (by decide) (by rfl) (by rfl)) (@pe_one _ _ _ _ _ (pv 6)))) (by rfl) (by first | exact .inl rfl | exact .inr rfl | assumption))))) (by decide)) (@pss_one _ _ _ (@ps_ret _ _ _ _ (pv 4))))),?_⟩
  try dsimp only [cxOf,Cx.nox,Cx.wish]
  refine ⟨_,rfl,_,rfl,_,rfl,_,rfl,p,ds,bs,n,lf,z,y,bv,bk,rfl,hB,lok,b0,bb,hv,ok,nb,fun i i2 nz e0 H1 hB1 k1=>⟨T.m_Stopped_StemError,XC 0,rfl,fun ea hea=>?_⟩,fun nz H1 hB1 k1=>?_⟩
  · have se:=same_new hea (excO ea (XC 0))
    refine ⟨_,rfl,small (by show 3≤1000000; decide),fun tp htp=>?_⟩
    have st:=same_new htp (.tup [V.ref (XC 1),V.ref (XC 3),V.ref (XC 4)])
    refine ⟨ea,XC 0,tp,_,_,false,rfl,st.get upd_same,T.e_Stopped,upd_same,vals3,by simp [PySem.W.kitAny,T.k_Stopped_Lost,T.k_Stopped_NoBoards,T.k_Stopped_NoThing],?_⟩
    refine ⟨_,rfl,?_⟩
    have eE:(upd (upd H1 ea (excO ea (XC 0))) tp (.tup [V.ref (XC 1),V.ref (XC 3),V.ref (XC 4)])) ea = some (excO ea (XC 0)):=st.get upd_same
    refine ⟨_,rfl,ea,XC 0,_,_,_,rfl,eE,T.e_Stopped,(fun u h=>h),T.k_Stopped_Stopped,_,rfl,iteTc rfl ?_⟩
    refine ⟨_,rfl,ea,XC 0,_,_,_,rfl,eE,T.e_Stopped,(fun u h=>h),T.k_Stopped_ValueError,_,rfl,iteTc rfl ?_⟩
    refine ⟨_,rfl,_,rfl,?_⟩
    exact qE i i2 nz e0 _ (hB1.same (se.trans st)) (k1.trans (Same.kb (se.trans st) p ds))
  · exact ⟨_,rfl,q nz H1 hB1 k1⟩
def sp__law_told_of (K:PySem.W.Frag) (C:Addr):Sp:=fun vs H Q _=>∃ p ds bs n lf,∃ (ta:Addr) (z y:Int) (bk:Bk),vs = [.ref p,.ref ta]∧BAt C H p ds bs n lf∧0 < bs.length∧H ta = some (.tup [.int z,.int y,.int (sumB bk)])∧Lies bs z y bk∧bkOk bk∧nbOk z y∧
  ((twn bs z).filter (hasB bs z)≠[]→∀ a v H',Same H H'→H' a = some (.tup [.str "told",v])→Rep NL H' (bkT bk) v→Q (.ref a) H')∧((twn bs z).filter (hasB bs z) = []→∀ a H',Same H H'→H' a = some (.tup [.str "lost",.int z,.bl true])→Q (.ref a) H')
theorem ok__law_told_of (T:Txt K mg C_WordReader C_Boards XC) (F:Fun K "_law_told_of" "_law_told_of" s__law_told_of f fd) (D_fetched:DefE P w K mg base 16 "fetched" ["boards","tag"] (sp_fetched K C_Boards XC)):FnOk P w K mg base CX0 17 f fd ["_law_boards","_law_tag_here"] (sp__law_told_of K C_Boards):=by
  refine F.ok sc__law_told_of (fun vs H Q E h=>?_) (fun cdv A outer s H vs Q E hr h=>?_)
  · obtain ⟨p,ds,bs,n,lf,ta,z,y,bk,rfl,_⟩:=h
    rfl
  obtain ⟨p,ds,bs,n,lf,ta,z,y,bk,rfl,hB,b0,ht,hl,ok,nb,q,qE⟩:=h
  refine ⟨_,(@pss_cons _ _ _ _ _ (@ps_set _ _ (2) _ _ _ _ sc__law_told_of.nd rfl (by first | exact Or.inl rfl | exact Or.inr rfl) (@pe_tup _ _ _ _ _ (@pa_cons _ _ _ _ _ (@pe_str _ _ _ _) (@pa_cons _ _ _ _ _ (@pe_int _ _ _ _) (@pa_cons _ _ _ _ _ (@pe_bl _ _ _ _) (@pa_nil _) (by rfl)) (by rfl)) (by rfl))) (by rfl) (by first | exact .inl rfl | exact .inr rfl | assumption)) (@pss_cons _ _ _ _ _ (@ps_tryAsE _ _ _ _ _ _ _ _ _ _ _ (3) _ _ _ ⟨rfl,rfl⟩ T.x_StemError rfl sc__law_told_of.nd rfl rfl (@pxes_one _ _ _ (@pxe_set _ _ _ (2) _ _ _ sc__law_told_of.nd rfl (by first | exact Or.inl rfl | exact Or.inr rfl) (@pexe_tup _ _ _ _ _ (@paxe_cons _ _ _ _ _ (@pexe_lift _ _ _ (@pe_str _ _ _ _)) (@paxe_cons _ _ _ _ _ (@pexe_fn _ _ _ _ _ _ _ _ _ _ D_fetched (hr.mono (by decide)) rfl (@pa_cons _ _ _ _ _ (pv 0) (@pa_cons _ _ _ _ _ (pv 1) (@pa_nil _) (by rfl)) (by rfl)) (by decide) (by rfl) (by rfl)) (@paxe_nil _) (by rfl)) (by rfl))) (by rfl) (by first | exact .inl rfl | exact .inr rfl | assumption))) (@pss_nil _) (fun ea=>(@pss_one _ _ _ (@ps_if _ _ _ _ _ _ _ _ (@pt_val _ _ _ (@pe_callB _ _ _ _ _ _ _ _ _ (call_isXD (K:=K) (by rfl)) (by rfl) T.b_isinstance bt_isinstance (@pa_cons _ _ _ _ _ (pv 3) (@pa_cons _ _ _ _ _ (@pe_xcl _ _ _ _ rfl T.x_Lost (by decide)) (@pa_nil _) (by rfl)) (by rfl)) (by decide) (by decide) (by rfl) (by rfl)) (by intro _; rfl)) (@pss_cons _ _ _ _ _ (@ps_set _ _ (4) _ _ _ _ sc__law_told_of.nd rfl (by first | exact Or.inl rfl | exact Or.inr rfl) (@pe_not _ _ _ _ (@pe_callB _ _ _ _ _ _ _ _ _ (call_isXTD (K:=K) (by rfl)) (by rfl) T.b_isinstance bt_isinstance (@pa_cons _ _ _ _ _ (pv 3) (@pa_cons _ _ _ _ _ (@pe_tup _ _ _ _ _ (@pa_cons _ _ _ _ _ (@pe_xcl _ _ _ _ rfl T.x_Stopped (by decide)) (@pa_cons _ _ _ _ _ (@pe_xcl _ _ _ _ rfl T.x_NoHouse (by decide)) (@pa_cons _ _ _ _ _ (@pe_xcl _ _ _ _ rfl T.x_NoThing (by decide)) (@pa_nil _) (by rfl)) (by rfl)) (by rfl))) (@pa_nil _) (by rfl)) (by rfl)) (by decide) (by decide) (by rfl) (by rfl))) (by rfl) (by first | exact .inl rfl | exact .inr rfl | assumption)) (@pss_one _ _ _ (@ps_set _ _ (2) _ _ _ _ sc__law_told_of.nd rfl (by first | exact Or.inl rfl | exact Or.inr rfl) (@pe_tup _ _ _ _ _ (@pa_cons _ _ _ _ _ (@pe_str _ _ _ _) (@pa_cons _ _ _ _ _ (@pe_xfld _ (K) (by rfl) _ _ _ _ (pv 3) rfl) (@pa_cons _ _ _ _ _ (@pe_and _ _ _ _ _ _ _ (@pe_callB _ _ _ _ _ _ _ _ _ (call_isXD (K:=K) (by rfl)) (by rfl) T.b_isinstance bt_isinstance (@pa_cons _ _ _ _ _ (pv 3) (@pa_cons _ _ _ _ _ (@pe_ty _ _ _ _ rfl T.b_ValueError bt_ValueError (by decide) (by decide)) (@pa_nil _) (by rfl)) (by rfl)) (by decide) (by decide) (by rfl) (by rfl)) (@pe_one _ _ _ _ _ (pv 4))) (@pa_nil _) (by rfl)) (by rfl)) (by rfl))) (by rfl) (by first | exact .inl rfl | exact .inr rfl | assumption)))) (@pss_nil _)))) (by decide)) (@pss_one _ _ _ (@ps_ret _ _ _ _ (pv 2))))),?_⟩
  try dsimp only [cxOf,Cx.nox,Cx.wish]
  refine ⟨small (by show 3≤1000000; decide),fun t0 ht0=>?_⟩
  have s1:=same_new ht0 (.tup [V.str "lost",V.int 0,V.bl false])
  refine ⟨_,rfl,_,rfl,p,ds,bs,n,lf,ta,z,y,bk,rfl,hB.same s1,b0,s1.get ht,hl,ok,nb,fun hf v H2 s2 rv=>?_,fun hf dx H2 s2 nd hd=>⟨T.m_Lost_StemError,XC 1,rfl,fun ea hea=>?_⟩⟩
  · refine ⟨small (by show 2≤1000000; decide),fun a ha=>?_⟩
    have s3:=same_new ha (.tup [V.str "told",v])
    exact ⟨_,rfl,q hf a v _ ((s1.trans s2).trans s3) upd_same (Rep.same s3 _ _ rv)⟩
  · have se:=same_new hea (excD ea (XC 1) (some dx))
    refine ⟨_,rfl,ea,XC 1,_,_,_,_,rfl,upd_same,T.i_Lost.toExcCls,(fun u h=>h),T.k_Lost_Lost,_,rfl,iteTc rfl ?_⟩
    refine ⟨_,rfl,small (by show 3≤1000000; decide),fun tp htp=>?_⟩
    have st:=same_new htp (.tup [V.ref (XC 0),V.ref (XC 5),V.ref (XC 4)])
    have eE:(upd (upd H2 ea (excD ea (XC 1) (some dx))) tp (.tup [V.ref (XC 0),V.ref (XC 5),V.ref (XC 4)])) ea = some (excD ea (XC 1) (some dx)):=st.get upd_same
    have dE:=(se.trans st).get hd
    refine ⟨ea,XC 1,tp,some dx,_,_,false,rfl,eE,T.i_Lost.toExcCls,upd_same,vals3,by simp [PySem.W.kitAny,T.k_Lost_Stopped,T.k_Lost_NoHouse,T.k_Lost_NoThing],?_⟩
    refine ⟨_,rfl,?_⟩
    refine ⟨_,rfl,ea,XC 1,dx,_,_,rfl,eE,T.i_Lost,T.f_Lost,dE,rfl,?_⟩
    refine ⟨_,rfl,ea,XC 1,some dx,_,_,_,rfl,eE,T.i_Lost.toExcCls,(fun u h=>h),T.k_Lost_ValueError,_,rfl,iteTc rfl ?_⟩
    refine ⟨_,rfl,small (by show 3≤1000000; decide),fun a ha=>?_⟩
    have s5:=same_new ha (.tup [V.str "lost",V.int z,V.bl true])
    exact ⟨_,rfl,qE hf a _ ((((s1.trans s2).trans se).trans st).trans s5) upd_same⟩
theorem ints_one:∀ {a b:List Int},a.Perm b→a.Pairwise (·≤·)→b.Pairwise (·≤·)→a = b
  | [],b,p,_,_=>(List.nil_perm.mp p).symm
  | x :: a,[],p,_,_=>absurd p.length_eq (by simp)
  | x :: a,y :: b,p,ha,hb=>by
    have e:x = y:=by
      have m1:x∈y :: b:=p.mem_iff.mp List.mem_cons_self
      have m2:y∈x :: a:=p.mem_iff.mpr List.mem_cons_self
      rcases List.mem_cons.mp m1 with e | m1
      · exact e
      rcases List.mem_cons.mp m2 with e | m2
      · exact e.symm
      have l1:=(List.pairwise_cons.mp ha).1 y m2
      have l2:=(List.pairwise_cons.mp hb).1 x m1
      omega
    subst e
    rw [ints_one p.cons_inv (List.pairwise_cons.mp ha).2 (List.pairwise_cons.mp hb).2]
theorem isT_dep2:∀ (n:Nat) (t:Tr),isT n t = true→t.dep≤n
  | 0,_,h=>nomatch h
  | n + 1,.non,h=>nomatch h
  | n + 1,.bl _,h=>nomatch h
  | n + 1,.int _,_=>Nat.le_add_left 1 n
  | n + 1,.str z,h=>Nat.le_add_left 1 n
  | n + 1,.tup ts,h=>by
    have h':(decide (ts.length≤100) && ts.all (isT n)) = true:=h
    rw [Bool.and_eq_true] at h'
    have all:∀ l:List Tr,(∀ t∈l,t.dep≤n)→Tr.deps l≤n:=fun l=>by
      induction l with
      | nil=>intro _; exact Nat.zero_le _
      | cons t l ih=>intro hl; exact Nat.max_le.mpr ⟨hl t List.mem_cons_self,ih fun u hu=>hl u (List.mem_cons_of_mem _ hu)⟩
    have:=all ts fun t ht=>isT_dep2 n t (List.all_eq_true.mp h'.2 t ht)
    show 1 + Tr.deps ts≤n + 1
    omega
  | n + 1,.lst _,h=>nomatch h
theorem dep_told {b:Bk} (h:bkOk b):(Tr.tup [.str "told",bkT b]).dep≤100:=by
  have:=isT_dep2 8 _ (isT_bk h)
  show 1 + max 1 (max (bkT b).dep 0)≤100
  omega
theorem flat_ints (ns:List Int):(ns.map V.int).all flatV = true:=by
  rw [List.all_map]
  exact List.all_eq_true.mpr fun _ _=>rfl
theorem inV_int (x:Int) (ns:List Int):inV (V.int x) (ns.map V.int) = decide (x∈ns):=by
  unfold inV
  rw [List.any_map,Bool.eq_iff_iff,List.any_eq_true,decide_eq_true_eq]
  constructor
  · rintro ⟨y,hy,e⟩
    have e':eqV (V.int y) (V.int x) = true:=e
    simp [eqV] at e'
    rw [← e']; exact hy
  · intro h
    exact ⟨x,h,by show eqV (V.int x) (V.int x) = true; simp [eqV]⟩
def sp__law_seen (K:PySem.W.Frag) (C:Addr):Sp:=fun vs H Q _=>∃ p ds bs n lf,∃ (ta ra rt:Addr) (z y:Int) (bk:Bk) (bv:V),vs = [.ref p,.ref ta,.ref ra,.ref rt,bv]∧BAt C H p ds bs n lf∧0 < bs.length∧bs.length≤4∧H ta = some (.tup [.int z,.int y,.int (sumB bk)])∧bkOk bk∧nbOk z y∧H ra = some (.lst ((sealW (recT z y bk)).map V.int))∧H rt = some (.lst (((twn bs z).filter (hasB bs z)).map V.int))∧
  (∀ b,b < bs.length→getC (bs.getD b []) z = if (b:Int)∈(twn bs z).filter (hasB bs z) then some (sealW (recT z y bk)) else none)∧Rep NL H (bkT bk) bv∧∀ H',Same H H'→Q (.bl true) H'
theorem ok__law_seen (T:Txt K mg C_WordReader C_Boards XC) (F:Fun K "_law_seen" "_law_seen" s__law_seen f fd) (D_Boards_many:MDef P w K mg base 1 C_Boards "many" ["self"] (sp_Boards_many K C_Boards)) (D_right_copies:Def P w K mg base 16 "right_copies" ["boards","tag"] (sp_right_copies K C_Boards)) (D_Boards_cell:MDef P w K mg base 4 C_Boards "cell" ["self","board","number"] (sp_Boards_cell K C_Boards)) (D__law_told_of:Def P w K mg base 17 "_law_told_of" ["_law_boards","_law_tag_here"] (sp__law_told_of K C_Boards)):FnOk P w K mg base CX0 18 f fd ["_law_boards","_law_tag_here","_law_row","_law_right","_law_block_here"] (sp__law_seen K C_Boards):=by
  refine F.ok sc__law_seen (fun vs H Q E h=>?_) (fun cdv A outer s H vs Q E hr h=>?_)
  · obtain ⟨p,ds,bs,n,lf,ta,ra,rt,z,y,bk,bv,rfl,_⟩:=h
    rfl
  obtain ⟨p,ds,bs,n,lf,ta,ra,rt,z,y,bk,bv,rfl,hB,b0,b4,ht,ok,nb,hra,hrt,hg,hv,q⟩:=h
  have hu:=hu_of hr
  have hu9:=hu9_of hr
  obtain ⟨dx,s0,h1,h2,h3,h4⟩:=id hB
  have lies:Lies bs z y bk:=fun b hb=>by
    rw [hg b hb]
    split
    · exact .inr rfl
    · exact .inl rfl
  refine ⟨_,(@pss_cons _ _ _ _ _ (@ps_for _ _ _ _ _ _ _ _ PassesOwn.never rfl (@pi_range1 _ _ _ _ _ _ rfl T.b_range (@pa_cons _ _ _ _ _ (@pe_mth0 _ _ _ _ _ _ _ _ _ _ _ (pv 0) T.cl_Boards D_Boards_many (hr.mono (by decide)) (by rfl)) (@pa_nil _) (by rfl)) (by rfl)) (@pg_name _ _ (5) _ sc__law_seen.nd rfl (by first | exact Or.inl rfl | exact Or.inr rfl) (by first | exact .inl rfl | exact .inr rfl | assumption)) (@pss_one _ _ _ (@ps_if _ _ _ _ _ _ _ _ (@pt_cmpR _ _ _ _ _ _ _ _ (op_neO hu) (@pe_mth _ _ _ _ _ _ _ _ _ _ _ _ _ _ (pv 0) T.cl_Boards D_Boards_cell (hr.mono (by decide)) (@pa_cons _ _ _ _ _ (pv 5) (@pa_cons _ _ _ _ _ (@pe_ix _ _ _ _ _ _ _ ix_tup (pv 1) (@pe_int _ _ _ _) (fun _ _=>rfl)) (@pa_nil _) (by rfl)) (by rfl)) (by rfl) (by rfl) (by rfl)) (@pe_ix _ _ _ _ _ _ _ ix_list (@pe_lst _ _ _ _ (@pa_cons _ _ _ _ _ (@pe_non _ _ _) (@pa_cons _ _ _ _ _ (pv 2) (@pa_nil _) (by rfl)) (by rfl))) (@pe_callTy _ _ _ _ _ _ _ _ _ call_int1 (by rfl) T.b_int bt_int (@pa_cons _ _ _ _ _ (@pe_cmpR _ _ _ _ _ _ _ _ op_in_seq (pv 5) (pv 3) rfl) (@pa_nil _) (by rfl)) (by decide) (by decide) (by rfl) (by rfl)) (fun _ _=>rfl)) (nomark _)) (@pss_one _ _ _ (@ps_ret _ _ _ _ (@pe_bl _ _ _ _))) (@pss_nil _))) (by intro _; rfl)) (@pss_cons _ _ _ _ _ (@ps_set _ _ (6) _ _ _ _ sc__law_seen.nd rfl (by first | exact Or.inl rfl | exact Or.inr rfl) (@pe_tup _ _ _ _ _ (@pa_cons _ _ _ _ _ (@pe_str _ _ _ _) (@pa_cons _ _ _ _ _ (@pe_ix _ _ _ _ _ _ _ ix_tup (pv 1) (@pe_int _ _ _ _) (fun _ _=>rfl)) (@pa_cons _ _ _ _ _ (@pe_bl _ _ _ _) (@pa_nil _) (by rfl)) (by rfl)) (by rfl))) (by rfl) (by first | exact .inl rfl | exact .inr rfl | assumption)) (@pss_cons _ _ _ _ _ (@ps_if _ _ _ _ _ _ _ _ (@pt_cmpR _ _ _ _ _ _ _ _ (op_neD hu) (pv 3) (@pe_lst _ _ _ _ (@pa_nil _)) (nomark _)) (@pss_one _ _ _ (@ps_set _ _ (6) _ _ _ _ sc__law_seen.nd rfl (by first | exact Or.inl rfl | exact Or.inr rfl) (@pe_tup _ _ _ _ _ (@pa_cons _ _ _ _ _ (@pe_str _ _ _ _) (@pa_cons _ _ _ _ _ (pv 4) (@pa_nil _) (by rfl)) (by rfl))) (by rfl) (by first | exact .inl rfl | exact .inr rfl | assumption))) (@pss_nil _)) (@pss_cons _ _ _ _ _ (@ps_for _ _ _ _ _ _ _ _ PassesOwn.never rfl (@pi_range1 _ _ _ _ _ _ rfl T.b_range (@pa_cons _ _ _ _ _ (@pe_int _ _ _ _) (@pa_nil _) (by rfl)) (by rfl)) (@pg_name _ _ (7) _ sc__law_seen.nd rfl (by first | exact Or.inl rfl | exact Or.inr rfl) (by first | exact .inl rfl | exact .inr rfl | assumption)) (@pss_cons _ _ _ _ _ (@ps_set _ _ (8) _ _ _ _ sc__law_seen.nd rfl (by first | exact Or.inl rfl | exact Or.inr rfl) (@pe_fn _ _ _ _ _ _ _ _ _ _ D_right_copies (hr.mono (by decide)) rfl (@pa_cons _ _ _ _ _ (pv 0) (@pa_cons _ _ _ _ _ (pv 1) (@pa_nil _) (by rfl)) (by rfl)) (by decide) (by rfl) (by rfl)) (by rfl) (by first | exact .inl rfl | exact .inr rfl | assumption)) (@pss_cons _ _ _ _ _ (@ps_if _ _ _ _ _ _ _ _ (@PW.pt _ _ _ (@pw_or _ _ _ _ _ _ _ (@pt_not _ _ _ _ (@pt_val _ _ _ (@pe_callB _ _ _ _ _ _ _ _ _ call_isinst (by rfl) T.b_isinstance bt_isinstance (@pa_cons _ _ _ _ _ (pv 8) (@pa_cons _ _ _ _ _ (@pe_ty _ _ _ _ rfl T.b_list bt_list (by decide) (by decide)) (@pa_nil _) (by rfl)) (by rfl)) (by decide) (by decide) (by rfl) (by rfl)) (by intro _; rfl))) (@pw_or _ _ _ _ _ _ _ (@pt_cmpR _ _ _ _ _ _ _ _ (op_neD hu) (pv 8) (@pe_callB _ _ _ _ _ _ _ _ _ (call_sortI (K:=K) (by rfl)) (by rfl) T.b_sorted bt_sorted (@pa_cons _ _ _ _ _ (pv 3) (@pa_nil _) (by rfl)) (by decide) (by decide) (by rfl) (by rfl)) (nomark _)) (@pw_or1 _ _ _ _ (@pt_cmpR _ _ _ _ _ _ _ _ (op_neR hu9) (@pe_fn _ _ _ _ _ _ _ _ _ _ D__law_told_of (hr.mono (by decide)) rfl (@pa_cons _ _ _ _ _ (pv 0) (@pa_cons _ _ _ _ _ (pv 1) (@pa_nil _) (by rfl)) (by rfl)) (by decide) (by rfl) (by rfl)) (pv 6) (nomark _)))))) (@pss_one _ _ _ (@ps_ret _ _ _ _ (@pe_bl _ _ _ _))) (@pss_nil _)) (@pss_one _ _ _ (@ps_expr _ _ _ _ (@pe_bm _ _ _ _ _ _ _ _ _ _ _ _ PySem.F.plainAttrs_list PySem.F.slot_list_append PySem.F.type_list_append mt_append (pv 8) (@pa_cons _ _ _ _ _ (@pe_int _ _ _ _) (@pa_nil _) (by rfl)) (by rfl) (by rfl) (by rfl) (by rfl) (by rfl)) (by rfl))))) (by intro _; rfl)) (@pss_one _ _ _ (@ps_ret _ _ _ _ (@pe_bl _ _ _ _))))))),?_⟩
  try dsimp only [cxOf,Cx.nox,Cx.wish]
  refine ⟨_,rfl,p,dx,_,rfl,h1,rfl,p,ds,bs,n,lf,rfl,hB,bs.length,rfl,by omega,by omega,for_range (lo:=0) (n:=_) (fun i σ H2=>∃ v5,σ = [some (.ref p),some (.ref ta),some (.ref ra),some (.ref rt),some bv,v5,none,none,none]∧Same H H2) ⟨none,rfl,Same.refl _⟩ ?_ ?_⟩
  · rintro i σ H2 hi ⟨v5,rfl,s2⟩
    have hi':i < bs.length:=by omega
    have hB2:=hB.same s2
    obtain ⟨dx2,sh2,g1,_,_,_⟩:=id hB2
    have due:∀ (H3:Hp),Same H2 H3→∀ (o:Option (List Int)) (x:V),CellV K H3 o x→(∀ H4,Same H3 H4→CellV K H4 o x)→o = (if (i:Int)∈(twn bs z).filter (hasB bs z) then some (sealW (recT z y bk)) else none)→∀ (R:VK),(∀ H4,Same H3 H4→R (.bl false) H4)→
        tOp (rIxL K) (tLst (tCons (tC V.non) (tCons (tVar 2) tNil))) (tCB (fun xs H Q=>(∃ i,xs = [V.int i]∧Q (V.int i) H)∨∃ k,xs = [V.bl k]∧Q (V.int (if k = true then 1 else 0)) H) (tCons (tOp (rIn K false) (tVar 5) (tVar 3)) tNil)) [some (V.ref p),some (V.ref ta),some (V.ref ra),some (V.ref rt),some bv,some (V.int (0 + (i:Int))),none,none,none] H3 fun u H4=>rNeO K x u H4 R:=fun H3 s3 o x cx cx' eo R hR=>by
      refine ⟨_,rfl,small (by show 2≤1000000; decide),fun lp hlp=>?_⟩
      have sl:=same_new hlp (.lst [V.non,V.ref ra])
      have S:=(s2.trans s3).trans sl
      refine ⟨_,rfl,_,rfl,rt,_,rfl,.inl (SqL.of (S.get hrt)),rfl,flat_ints _,.inr ⟨_,rfl,?_⟩⟩
      have ein:inV (V.int (0 + (i:Int))) (((twn bs z).filter (hasB bs z)).map V.int) = decide ((i:Int)∈(twn bs z).filter (hasB bs z)):=by rw [Int.zero_add]; exact inV_int _ _
      rw [ein]
      by_cases hm:(i:Int)∈(twn bs z).filter (hasB bs z)
      · rw [if_pos hm] at eo
        rw [decide_eq_true hm]
        refine ⟨lp,_,_,V.ref ra,rfl,rfl,SqL.of upd_same,rfl,o,some (sealW (recT z y bk)),cx' _ sl,⟨ra,rfl,SqL.of (S.get hra)⟩,?_⟩
        rw [eo,decide_eq_true rfl]
        exact hR _ sl
      · rw [if_neg hm] at eo
        rw [decide_eq_false hm]
        refine ⟨lp,_,_,V.non,rfl,rfl,SqL.of upd_same,rfl,o,none,cx' _ sl,rfl,?_⟩
        rw [eo,decide_eq_true rfl]
        exact hR _ sl
    refine ⟨_,rfl,p,dx2,_,rfl,g1,rfl,_,rfl,_,rfl,ta,_,_,_,rfl,rfl,SqT.of (s2.get ht),rfl,p,ds,bs,n,lf,i,z,by rw [Int.zero_add]; rfl,hB2,hi',fun e=>?_,fun row e l hl=>?_⟩
    · refine due H2 (Same.refl _) none .non rfl (fun _ _=>rfl) (by rw [← hg i hi',e]) _ fun H4 s4=>⟨_,rfl,iteFc rfl ?_⟩
      exact ⟨_,rfl,s2.trans s4⟩
    · have sl:=same_new hl (.lst (row.map V.int))
      refine due _ sl (some row) (.ref l) ⟨l,rfl,SqL.of upd_same⟩ (fun H4 s4=>⟨l,rfl,SqL.of (s4.get upd_same)⟩) (by rw [← hg i hi',e]) _ fun H4 s4=>⟨_,rfl,iteFc rfl ?_⟩
      exact ⟨_,rfl,(s2.trans sl).trans s4⟩
  · rintro σ H2 ⟨v5,rfl,s2⟩
    dsimp only
    refine ⟨_,rfl,ta,_,_,_,rfl,rfl,SqT.of (s2.get ht),rfl,small (by show 3≤1000000; decide),fun d0 hd0=>?_⟩
    have s3:=same_new hd0 (.tup [V.str "lost",V.int z,V.bl true])
    dsimp only
    refine seq_mid (fun σ' H'=>∃ a tr,σ' = [some (.ref p),some (.ref ta),some (.ref ra),some (.ref rt),some bv,v5,some (.ref a),none,none]∧Same H H'∧Rep NL H' tr (.ref a)∧tr = (if (twn bs z).filter (hasB bs z) = [] then Tr.tup [.str "lost",.int z,.bl true] else Tr.tup [.str "told",bkT bk])) (fun N hN=>?_) ?_
    · refine ⟨_,rfl,small (by show 0≤1000000; decide),fun e2 he2=>?_⟩
      have s5:=same_new he2 (.lst [])
      have S5:=(s2.trans s3).trans s5
      refine ⟨rt,e2,_,_,rfl,rfl,SqL.of (S5.get hrt),SqL.of upd_same,all_pure_int _,rfl,?_⟩
      rw [if_pos rfl]
      by_cases hf:(twn bs z).filter (hasB bs z) = []
      · refine ⟨_,rfl,iteFc (by rw [hf]; rfl) (hN _ _ ⟨d0,Tr.tup [.str "lost",.int z,.bl true],rfl,S5,⟨d0,_,rfl,s5.get upd_same,_,_,rfl,rfl,_,_,rfl,rfl,_,_,rfl,rfl,rfl⟩,by rw [if_pos hf]⟩)⟩
      · refine ⟨_,rfl,iteTc (by rw [decide_eq_false fun y=>hf (List.map_eq_nil_iff.mp y)]; rfl) ?_⟩
        refine ⟨_,rfl,small (by show 2≤1000000; decide),fun a ha=>?_⟩
        have s6:=same_new ha (.tup [V.str "told",bv])
        exact hN _ _ ⟨a,Tr.tup [.str "told",bkT bk],rfl,S5.trans s6,⟨a,_,rfl,upd_same,_,_,rfl,rfl,_,_,rfl,Rep.same (S5.trans s6) _ _ hv,rfl⟩,by rw [if_neg hf]⟩
    rintro σ' H' ⟨a,tr,rfl,s4,ra4,etr⟩
    refine ⟨_,rfl,by decide,by decide,for_range (lo:=0) (n:=_) (fun i σ H5=>∃ v7 v8,σ = [some (.ref p),some (.ref ta),some (.ref ra),some (.ref rt),some bv,v5,some (.ref a),v7,v8]∧Same H' H5) ⟨none,none,rfl,Same.refl _⟩ ?_ ?_⟩
    · rintro i σ H5 hi ⟨v7,v8,rfl,s5⟩
      have S5:=s4.trans s5
      refine ⟨_,rfl,_,rfl,p,ds,bs,n,lf,ta,z,y,bk,rfl,hB.same S5,b0,S5.get ht,lies,ok,nb,fun l H6 ms s6 nl hl pm so=>?_⟩
      have S6:=S5.trans s6
      have lm:ms.length≤2:=by rw [pm.length_eq]; exact List.length_filter_le _ _
      refine ⟨_,rfl,_,_,_,_,rfl,.lst hl,kit_list_list K,_,rfl,iteFc rfl ?_⟩
      refine ⟨_,rfl,_,rfl,rt,_,rfl,SqL.of (S6.get hrt),by rw [← pm.length_eq]; omega,fun ms2 g pm2 so2 hg2=>?_⟩
      have s7:=same_new hg2 (.lst (ms2.map V.int))
      have em:ms2 = ms:=ints_one (pm2.trans pm.symm) so2 so
      rw [em] at s7 ⊢
      refine ⟨l,g,_,_,rfl,rfl,SqL.of (s7.get hl),SqL.of upd_same,all_pure_int _,all_pure_int _,?_⟩
      have S7:=S6.trans s7
      refine ⟨_,rfl,iteFc (by simp) ?_⟩
      have hl7:=s7.get hl
      generalize upd H6 g (.lst (ms.map V.int)) = H7 at s7 S7 hl7
      refine ⟨_,rfl,_,rfl,p,ds,bs,n,lf,ta,z,y,bk,rfl,hB.same S7,b0,S7.get ht,lies,ok,nb,fun hf ax v H8 s8 ha8 rv8=>?_,fun hf ax H8 s8 ha8=>?_⟩
      · rw [if_neg hf] at etr
        subst etr
        have u:=(((s6.trans s7).trans s8))
        refine ⟨_,rfl,Tr.tup [.str "told",bkT bk],NL,NL,dep_told ok,⟨ax,_,rfl,ha8,_,_,rfl,rfl,_,_,rfl,rv8,rfl⟩,Rep.same (s5.trans u) _ _ ra4,_,rfl,iteFc rfl ?_⟩
        have hl8:=s8.get hl7
        refine ⟨_,rfl,.inl ⟨rfl,_,SqL.of hl8⟩,l,_,_,rfl,rfl,hl8,smallLt (by rw [List.length_map]; omega),?_⟩
        exact ⟨_,_,rfl,same_upd (s5.trans u) (s5.free nl) _⟩
      · rw [if_pos hf] at etr
        subst etr
        have u:=(((s6.trans s7).trans s8))
        refine ⟨_,rfl,Tr.tup [.str "lost",.int z,.bl true],NL,NL,(by show 1 + max 1 (max 1 (max 1 0))≤100; decide),⟨ax,_,rfl,ha8,_,_,rfl,rfl,_,_,rfl,rfl,_,_,rfl,rfl,rfl⟩,Rep.same (s5.trans u) _ _ ra4,_,rfl,iteFc rfl ?_⟩
        have hl8:=s8.get hl7
        refine ⟨_,rfl,.inl ⟨rfl,_,SqL.of hl8⟩,l,_,_,rfl,rfl,hl8,smallLt (by rw [List.length_map]; omega),?_⟩
        exact ⟨_,_,rfl,same_upd (s5.trans u) (s5.free nl) _⟩
    · rintro σ H5 ⟨v7,v8,rfl,s5⟩
      exact q _ (s4.trans s5)
end
section
variable {P:Program} {w:World} {K:PySem.W.Frag} {mg:Str→Option Value} {base:Heap} {f C_WordReader C_Boards:Addr} {XC:Nat→Addr} {fd:FuncData}
theorem getC_put (c:Cel) (k:Int) (row:List Int) (z:Int):getC (putC c k row) z = if z = k then some row else getC c z:=by
  unfold putC
  by_cases h:(c.any fun x=>decide (x.1 = k)) = true
  · rw [if_pos h]
    unfold getC
    induction c with
    | nil=>cases h
    | cons x c ih=>
      rw [List.map_cons,List.find?_cons,List.find?_cons]
      by_cases e:x.1 = k
      · rw [if_pos e]
        by_cases ez:z = k
        · rw [if_pos ez,decide_eq_true (show (x.1,row).1 = z by rw [ez]; exact e)]; rfl
        · rw [if_neg ez,decide_eq_false (show ¬ (x.1,row).1 = z from fun y=>ez (y.symm.trans e))]
          by_cases h':(c.any fun x=>decide (x.1 = k)) = true
          · have:=ih h'
            rw [if_neg ez] at this
            exact this
          · have same:c.map (fun x=>if x.1 = k then (x.1,row) else x) = c:=by
              have:∀ x∈c,(if x.1 = k then (x.1,row) else x) = x:=fun x hx=>if_neg fun y=>h' (List.any_eq_true.mpr ⟨x,hx,decide_eq_true y⟩)
              calc c.map (fun x=>if x.1 = k then (x.1,row) else x) = c.map (fun x=>x):=List.map_congr_left this
                _ = c:=List.map_id' c
            rw [same]
      · rw [if_neg e]
        have h':(c.any fun x=>decide (x.1 = k)) = true:=by
          rw [List.any_cons,decide_eq_false e,Bool.false_or] at h
          exact h
        by_cases ex:x.1 = z
        · rw [decide_eq_true ex,if_neg (fun y=>e (ex.trans y))]
        · rw [decide_eq_false ex]
          exact ih h'
  · rw [if_neg h]
    unfold getC
    rw [List.find?_append]
    by_cases ez:z = k
    · have:c.find? (fun x=>decide (x.1 = z)) = none:=List.find?_eq_none.mpr fun x hx y=>h (List.any_eq_true.mpr ⟨x,hx,by rw [← ez]; exact y⟩)
      rw [this,if_pos ez,List.find?_cons,decide_eq_true ez.symm]; rfl
    · rw [if_neg ez,List.find?_cons,decide_eq_false (show ¬ (k,row).1 = z from fun y=>ez y.symm),List.find?_nil]
      cases c.find? (fun x=>decide (x.1 = z)) <;> rfl
theorem getD_set {bs:List Cel} {i b:Nat} {c:Cel} (hb:b < bs.length):(bs.set i c).getD b [] = if i = b then c else bs.getD b []:=by
  unfold List.getD
  rw [List.getElem?_set]
  by_cases e:i = b
  · rw [if_pos e,if_pos e,if_pos (by omega)]; rfl
  · rw [if_neg e,if_neg e]
theorem wr_get (z:Int) (row:List Int) (x:Int):∀ (l:List Int) (bs:List Cel) (b:Nat),b < bs.length→(∀ y∈l,0≤y)→getC ((wr bs z row l).getD b []) x = if x = z∧(b:Int)∈l then some row else getC (bs.getD b []) x
  | [],bs,b,_,_=>by rw [if_neg (fun h=>nomatch h.2)]; rfl
  | y :: l,bs,b,hb,hl=>by
    have y0:=hl y List.mem_cons_self
    show getC ((wr (bs.set y.toNat (putC (bs.getD y.toNat []) z row)) z row l).getD b []) x = _
    rw [wr_get z row x l _ b (by rw [List.length_set]; exact hb) fun u hu=>hl u (List.mem_cons_of_mem _ hu),getD_set hb]
    by_cases ex:x = z
    · by_cases hm:(b:Int)∈l
      · rw [if_pos ⟨ex,hm⟩,if_pos ⟨ex,List.mem_cons_of_mem _ hm⟩]
      · rw [if_neg (fun h=>hm h.2)]
        by_cases e:y.toNat = b
        · rw [if_pos e,getC_put,if_pos ex,if_pos ⟨ex,by rw [show (b:Int) = y by omega]; exact List.mem_cons_self⟩]
        · rw [if_neg e,if_neg fun h=>(List.mem_cons.mp h.2).elim (fun z=>e (by omega)) hm]
    · rw [if_neg (show ¬ (x = z∧(b:Int)∈l) from fun h=>ex h.1),if_neg (show ¬ (x = z∧(b:Int)∈y :: l) from fun h=>ex h.1)]
      by_cases e:y.toNat = b
      · rw [if_pos e,getC_put,if_neg ex,e]
      · rw [if_neg e]
theorem twn_ne {bs:List Cel} {z:Int} (h:2≤bs.length):z % (bs.length:Int)≠(z + 1) % (bs.length:Int):=fun e=>by
  have h1:=Int.emod_lt_of_pos z (show (0:Int) < bs.length by omega)
  have h0:=Int.emod_nonneg z (show (bs.length:Int)≠0 by omega)
  have e1:(z + 1) % (bs.length:Int) = (z % (bs.length:Int) + 1) % (bs.length:Int):=by rw [Int.emod_add_emod]
  rw [e1] at e
  generalize z % (bs.length:Int) = r at e h1 h0
  by_cases c:r + 1 < (bs.length:Int)
  · rw [Int.emod_eq_of_lt (by omega) c] at e; omega
  · have:r + 1 = (bs.length:Int):=by omega
    rw [this,Int.emod_self] at e
    omega
theorem twn_wr (bs:List Cel) (z:Int) (row:List Int) (l:List Int):twn (wr bs z row l) z = twn bs z:=by unfold twn; rw [wr_len]
theorem twn_nonneg {bs:List Cel} {z:Int} (h:0 < bs.length):∀ y∈twn bs z,0≤y:=fun y hy=>(twn_in h y hy).1
theorem wr_filter {bs:List Cel} {z:Int} {row:List Int} (h2:2≤bs.length) (h0:∀ b,getC (bs.getD b []) z = none) (i:Nat):(twn (wr bs z row ((twn bs z).take i)) z).filter (hasB (wr bs z row ((twn bs z).take i)) z) = (twn bs z).take i:=by
  rw [twn_wr]
  have hb:∀ x∈twn bs z,hasB (wr bs z row ((twn bs z).take i)) z x = decide (x∈(twn bs z).take i):=fun x hx=>by
    obtain ⟨x0,x1⟩:=twn_in (by omega) x hx
    unfold hasB
    rw [wr_get z row z _ bs x.toNat (by omega) fun y hy=>twn_nonneg (by omega) y (List.mem_of_mem_take hy),h0,show ((x.toNat:Nat):Int) = x by omega]
    by_cases m:x∈(twn bs z).take i
    · rw [if_pos ⟨rfl,m⟩,decide_eq_true m]; rfl
    · rw [if_neg (fun h=>m h.2),decide_eq_false m]; rfl
  have ne:=twn_ne (z:=z) h2
  have e:(twn bs z).filter (hasB (wr bs z row ((twn bs z).take i)) z) = (twn bs z).filter fun x=>decide (x∈(twn bs z).take i):=List.filter_congr hb
  rw [e]
  unfold twn
  generalize z % (bs.length:Int) = p at ne
  generalize (z + 1) % (bs.length:Int) = q at ne
  match i with
  | 0=>rfl
  | 1=>
    show [p,q].filter (fun x=>decide (x∈[p])) = [p]
    rw [List.filter_cons_of_pos (by simp),List.filter_cons_of_neg (by simpa using fun y=>ne y.symm),List.filter_nil]
  | i + 2=>
    show [p,q].filter (fun x=>decide (x∈p :: q :: [].take i)) = p :: q :: [].take i
    rw [List.take_nil,List.filter_cons_of_pos (by simp),List.filter_cons_of_pos (by simp),List.filter_nil]
theorem wr_filter2 {bs:List Cel} {z:Int} {row:List Int} (h2:2≤bs.length):(twn (wr bs z row (twn bs z)) z).filter (hasB (wr bs z row (twn bs z)) z) = twn bs z:=by
  rw [twn_wr]
  refine List.filter_eq_self.mpr fun x hx=>?_
  obtain ⟨x0,x1⟩:=twn_in (by omega) x hx
  unfold hasB
  rw [wr_get z row z _ bs x.toNat (by omega) fun y hy=>twn_nonneg (by omega) y hy,show ((x.toNat:Nat):Int) = x by omega,if_pos ⟨rfl,hx⟩]
  rfl
def stV:Option Nat→V
  | none=>.non
  | some k=>.int (k:Int)
def stN:Option Nat→Nat
  | none=>2
  | some k=>min 2 k
theorem stV_ok (s:Option Nat):LfOk (stV s):=by
  cases s with
  | none=>exact .inl rfl
  | some k=>exact .inr ⟨k,rfl⟩
theorem lfN_st (s:Option Nat):∀ i,(∀ j,j < i→lfN (stV s) j≠.int 0)→lfN (stV s) i = stV (s.map (· - i))
  | 0,_=>by cases s <;> rfl
  | i + 1,h=>by
    have e:=lfN_st s i fun j hj=>h j (by omega)
    have ne:=h i (by omega)
    show lfDec (lfN (stV s) i) = _
    rw [e] at ne ⊢
    cases s with
    | none=>rfl
    | some k=>
      have:k - i≠0:=fun z=>ne (by show V.int ((k - i:Nat):Int) = _; rw [z]; rfl)
      show V.int (((k - i:Nat):Int) - 1) = V.int ((k - (i + 1):Nat):Int)
      rw [show ((k - i:Nat):Int) - 1 = ((k - (i + 1):Nat):Int) by omega]
theorem laid_use {H:Hp} {p:Addr} {ds:List Addr} {bs:List Cel} {n:Int} {s:Option Nat} {z y:Int} {bv:V} {bk:Bk} {Q:VK} (hB:BAt C_Boards H p ds bs n (stV s)) (b0:0 < bs.length) (bb:∀ c∈bs,c.length≤900) (hv:Rep NL H (bkT bk) bv) (ok:bkOk bk) (nb:nbOk z y)
    (q:∀ H' lf',BAt C_Boards H' p ds (wr bs z (sealW (recT z y bk)) ((twn bs z).take (stN s))) (n + (stN s:Int)) lf'→Kb H H' p ds→Q (if stN s = 2 then .non else .bl true) H'):sp__law_laid K C_Boards [.ref p,.int z,.int y,bv] H Q E0:=by
  refine ⟨p,ds,bs,n,stV s,z,y,bv,bk,rfl,hB,stV_ok s,b0,bb,hv,ok,nb,fun i i2 nz e0 H1 hB1 k1=>?_,fun nz H1 hB1 k1=>?_⟩
  · rw [lfN_st s i nz] at e0
    cases s with
    | none=>cases e0
    | some k=>
      have e1:((k - i:Nat):Int) = 0:=V.int.inj e0
      have:k = i:=by
        rcases Nat.lt_or_ge k i with hlt | hge
        · have:=nz k hlt
          rw [lfN_st (some k) k (fun j hj=>nz j (by omega))] at this
          exact absurd (show V.int ((k - k:Nat):Int) = V.int 0 by rw [Nat.sub_self]; rfl) this
        · omega
      subst this
      have es:stN (some k) = k:=by show min 2 k = k; omega
      have:=q H1 _ (by rw [es]; exact hB1) k1
      rw [es,if_neg (by omega)] at this
      exact this
  · have es:stN s = 2:=by
      cases s with
      | none=>rfl
      | some k=>
        show min 2 k = 2
        have a0:=nz 0 (by omega)
        have a1:=nz 1 (by omega)
        rw [lfN_st (some k) 1 (fun j hj=>nz j (by omega))] at a1
        have n0:k≠0:=fun y=>a0 (by rw [y]; rfl)
        have n1:k - 1≠0:=fun y=>a1 (by show V.int ((k - 1:Nat):Int) = _; rw [y]; rfl)
        omega
    have:=q H1 (lfN (stV s) 2) (by rw [es]; exact hB1) k1
    rw [es,if_pos rfl] at this
    exact this
end
section
variable {P:Program} {w:World} {K:PySem.W.Frag} {mg:Str→Option Value} {base:Heap} {f C_WordReader C_Boards:Addr} {XC:Nat→Addr} {fd:FuncData}
theorem seq_asg {te:TE} {i:Nat} {b:TS} {D:Ends} {σ:St} {H:Hp} (h:te σ H fun x H1=>b D (σ.set i (some x)) H1):tSeq (tAsg te (gName i)) b D σ H:=h
theorem made {H1 H2:Hp} {x dx:Addr} (nx:H1 x = none) (ndx:H1 dx = none) (k:∀ b o,(upd (upd H1 dx (.own x)) x (.ins C_Boards dx [])) b = some o→b≠x→H2 b = some o):Same H1 H2:=fun b o e=>by
  have n1:b≠x:=ne_of_none e nx
  have n2:b≠dx:=ne_of_none e ndx
  exact k b o (by rw [upd_ne n1,upd_ne n2]; exact e) n1
theorem kb_tup {C:Addr} {H H':Hp} {p:Addr} {ds:List Addr} {bs:List Cel} {n:Int} {lf:V} (g:BAt C H p ds bs n lf) (k:Kb H H' p ds) {c:Addr} {xs:List V} (e:H c = some (.tup xs)):H' c = some (.tup xs):=by
  obtain ⟨dx,s0,h1,_⟩:=id g
  exact k c _ e (ne_of e h1 (by intro z; cases z)) (g.notin e (by intro kvs z; cases z))
theorem kb_lst {C:Addr} {H H':Hp} {p:Addr} {ds:List Addr} {bs:List Cel} {n:Int} {lf:V} (g:BAt C H p ds bs n lf) (k:Kb H H' p ds) {c:Addr} {xs:List V} (e:H c = some (.lst xs)):H' c = some (.lst xs):=by
  obtain ⟨dx,s0,h1,_⟩:=id g
  exact k c _ e (ne_of e h1 (by intro z; cases z)) (g.notin e (by intro kvs z; cases z))
theorem kb_rep {C:Addr} {H H':Hp} {p:Addr} {ds:List Addr} {bs:List Cel} {n:Int} {lf:V} (g:BAt C H p ds bs n lf) (k:Kb H H' p ds) {t:Tr} {v:V} (e:Rep NL H t v):Rep NL H' t v:=rep_tup (fun c xs h=>kb_tup g k h) t v e
theorem pair_memB {α β:Type} {F G:α→β→Prop}:∀ {l₁:List α} {l₂:List β},Paired F l₁ l₂→(∀ b∈l₂,∀ a,F a b→G a b)→Paired G l₁ l₂
  | _,_,.nil,_=>.nil
  | _,_,.cons r t,f=>.cons (f _ List.mem_cons_self _ r) (pair_memB t fun b hb=>f b (List.mem_cons_of_mem _ hb))
theorem bat_apart {C:Addr} {H:Hp} {p tk:Addr} {ds:List Addr} {bs:List Cel} {n:Int} {lf:V} {tks:List Int} {ys:List V} (h:BAt C H p ds bs n lf) (e:H tk = some (.lst (tks.map V.int))) (b0:0 < bs.length) (long:∀ c∈bs,∀ x∈c,tks.length < x.2.length):BAt C (upd H tk (.lst ys)) p ds bs n lf:=by
  have hl:=h.len
  obtain ⟨dx,s0,h1,h2,h3,h4⟩:=h
  have n1:p≠tk:=ne_of h1 e (by intro z; cases z)
  have n2:s0≠tk:=fun z=>by
    rw [z,e] at h2
    have h2':tks.map V.int = ds.map V.ref:=by injection h2 with h2; injection h2
    cases ds with
    | nil=>rw [List.length_nil] at hl; omega
    | cons d ds=>
      cases tks with
      | nil=>cases h2'
      | cons t ts=>rw [List.map_cons,List.map_cons] at h2'; injection h2' with h2' _; cases h2'
  refine ⟨dx,s0,by rw [upd_ne n1]; exact h1,by rw [upd_ne n2]; exact h2,h3,pair_memB h4 fun c hc d ⟨kvs,g1,g2,g3⟩=>⟨kvs,by rw [upd_ne (ne_of g1 e (by intro z; cases z))]; exact g1,pair_memB g2 fun x hx kv ⟨k1,r,k2,k3⟩=>⟨k1,r,k2,?_⟩,g3⟩⟩
  have nr:r≠tk:=fun z=>by
    rw [z,e] at k3
    have k3':tks.map V.int = x.2.map V.int:=by injection k3 with k3; injection k3
    have:=congrArg List.length k3'
    rw [List.length_map,List.length_map] at this
    have:=long c hc x hx
    omega
  rw [upd_ne nr]; exact k3
theorem putC_long {c:Cel} {k:Int} {row:List Int} {M:Nat} (h:∀ x∈c,M≤x.2.length) (r:M≤row.length):∀ x∈putC c k row,M≤x.2.length:=fun x hx=>by
  unfold putC at hx
  split at hx
  · obtain ⟨y,hy,rfl⟩:=List.mem_map.mp hx
    split
    · exact r
    · exact h y hy
  · rcases List.mem_append.mp hx with hx | hx
    · exact h x hx
    · rw [List.mem_singleton.mp hx]; exact r
theorem wr_long {z:Int} {row:List Int} {M:Nat} (r:M≤row.length):∀ (l:List Int) {bs:List Cel},(∀ c∈bs,∀ x∈c,M≤x.2.length)→∀ c∈wr bs z row l,∀ x∈c,M≤x.2.length
  | [],_,h=>h
  | y :: l,bs,h=>by
    refine wr_long (z:=z) r l (bs:=bs.set y.toNat (putC (bs.getD y.toNat []) z row)) fun c hc=>?_
    rcases List.mem_or_eq_of_mem_set hc with hc | rfl
    · exact h c hc
    · refine putC_long (fun x hx=>?_) r
      unfold List.getD at hx
      cases e:bs[y.toNat]? with
      | none=>rw [e] at hx; cases hx
      | some c=>rw [e] at hx; exact h c (List.mem_of_getElem? e) x hx
theorem rec_long {z y:Int} {b:Bk}:10≤(sealW (recT z y b)).length:=by
  have l:=wlen_bk b
  have:6≤sizeB b:=by cases b <;> (show 6≤_ + _; omega)
  rw [sealW_len]
  show 10≤(2 :: (3:Int) :: ([0,z] ++ ([0,y] ++ (wT (bkT b) ++ [])))).length + 1
  simp only [List.length_cons,List.length_append,List.length_nil]
  omega
theorem at_some {xs:List V} {i:Int} (h0:0≤i) (h1:i < xs.length):∃ v,atI xs i = some v∧v∈xs:=by
  have hk:i.toNat < xs.length:=by omega
  have q:atI xs ((i.toNat:Nat):Int) = some xs[i.toNat]:=atI_nat (List.getElem?_eq_getElem hk)
  rw [show ((i.toNat:Nat):Int) = i by omega] at q
  exact ⟨_,q,List.getElem_mem hk⟩
theorem st_some {i:Int} (h0:0≤i) (h1:i < 5):∃ s:Option Nat,atI [V.non,.int 0,.int 1,.int 2,.int 3] i = some (stV s):=by
  obtain ⟨v,e,hv⟩:=at_some (xs:=[V.non,.int 0,.int 1,.int 2,.int 3]) h0 (by show i < 5; exact h1)
  simp only [List.mem_cons,List.not_mem_nil,or_false] at hv
  rcases hv with rfl | rfl | rfl | rfl | rfl
  · exact ⟨none,e⟩
  · exact ⟨some 0,e⟩
  · exact ⟨some 1,e⟩
  · exact ⟨some 2,e⟩
  · exact ⟨some 3,e⟩
theorem stN_le (s:Option Nat):stN s≤2:=by
  cases s with
  | none=>exact Nat.le_refl _
  | some k=>exact Nat.min_le_left _ _
theorem went_at (s:Option Nat):atI [V.bl true,.bl true,.non] (stN s:Int) = some (if stN s = 2 then .non else .bl true):=by
  have:=stN_le s
  generalize stN s = k at this
  match k,this with
  | 0,_=>rfl
  | 1,_=>rfl
  | 2,_=>rfl
def sp_law (K:PySem.W.Frag):Sp:=fun vs H Q _=>∃ (a:Addr) (ns:List Int),vs = [.ref a]∧SqL K H a (ns.map V.int)∧ns.length≤63∧∀ H',Q (.bl true) H'
theorem ok_law (T:Txt K mg C_WordReader C_Boards XC) (F:Fun K "law" "law" s_law f fd) (D_Boards_init:CDef P w K mg base 3 C_Boards "Boards" ["self","many"] (sp_Boards_init K C_Boards)) (D_Boards_many:MDef P w K mg base 1 C_Boards "many" ["self"] (sp_Boards_many K C_Boards)) (D__law_numbers:Def P w K mg base 1 "_law_numbers" ["_law_cell","_law_many"] (sp__law_numbers K)) (D__law_block:Def P w K mg base 2 "_law_block" ["_law_some"] (sp__law_block K)) (D__law_sealed:Def P w K mg base 1 "_law_sealed" ["_law_words_here"] (sp__law_sealed K)) (D_Boards_written:MDef P w K mg base 1 C_Boards "written" ["self"] (sp_Boards_written K C_Boards)) (D_Boards_stop:MDef P w K mg base 1 C_Boards "stop" ["self","many"] (sp_Boards_stop K C_Boards)) (D__law_sum:Def P w K mg base 3 "_law_sum" ["_law_block_here"] (sp__law_sum K)) (D__law_words:Def P w K mg base 9 "_law_words" ["_law_thing"] (sp__law_words K)) (D__law_laid:Def P w K mg base 11 "_law_laid" ["_law_boards","_law_number","_law_birth","_law_block_here"] (sp__law_laid K C_Boards)) (D__law_seen:Def P w K mg base 18 "_law_seen" ["_law_boards","_law_tag_here","_law_row","_law_right","_law_block_here"] (sp__law_seen K C_Boards)) (D__law_cell_at:Def P w K mg base 1 "_law_cell_at" ["_law_script","_law_k"] (sp__law_cell_at K)):FnOk P w K mg base CX0 19 f fd ["_law_script"] (sp_law K):=by
  refine F.ok sc_law (fun vs H Q E h=>?_) (fun cdv A outer s H vs Q E hr h=>?_)
  · obtain ⟨a,ns,rfl,_⟩:=h
    rfl
  obtain ⟨a,ns,rfl,hS,hlen,q⟩:=h
  have hu:=hu_of hr
  have hu9:=hu9_of hr
  refine ⟨_,(@pss_cons _ _ _ _ _ (@ps_set _ _ (1) _ _ _ _ sc_law.nd rfl (by first | exact Or.inl rfl | exact Or.inr rfl) (@pe_cls _ _ _ _ _ _ _ _ _ _ _ D_Boards_init (hr.mono (by decide)) rfl (@pa_cons _ _ _ _ _ (@pe_op _ _ _ _ _ _ _ _ op_add (@pe_int _ _ _ _) (@pe_op _ _ _ _ _ _ _ _ op_mod (@pe_fn _ _ _ _ _ _ _ _ _ _ D__law_cell_at (hr.mono (by decide)) rfl (@pa_cons _ _ _ _ _ (pv 0) (@pa_cons _ _ _ _ _ (@pe_int _ _ _ _) (@pa_nil _) (by rfl)) (by rfl)) (by decide) (by rfl) (by rfl)) (@pe_int _ _ _ _))) (@pa_nil _) (by rfl)) (by decide) (by rfl) (by rfl)) (by rfl) (by first | exact .inl rfl | exact .inr rfl | assumption)) (@pss_cons _ _ _ _ _ (@ps_set _ _ (2) _ _ _ _ sc_law.nd rfl (by first | exact Or.inl rfl | exact Or.inr rfl) (@pe_mth0 _ _ _ _ _ _ _ _ _ _ _ (pv 1) T.cl_Boards D_Boards_many (hr.mono (by decide)) (by rfl)) (by rfl) (by first | exact .inl rfl | exact .inr rfl | assumption)) (@pss_cons _ _ _ _ _ (@ps_set _ _ (3) _ _ _ _ sc_law.nd rfl (by first | exact Or.inl rfl | exact Or.inr rfl) (@pe_lst _ _ _ _ (@pa_nil _)) (by rfl) (by first | exact .inl rfl | exact .inr rfl | assumption)) (@pss_cons _ _ _ _ _ (@ps_for _ _ _ _ _ _ _ _ PassesOwn.never rfl (@pi_list _ _ _ _ (@pe_op _ _ _ _ _ _ _ _ op_catS (@pe_lst _ _ _ _ (@pa_cons _ _ _ _ _ (@pe_int _ _ _ _) (@pa_nil _) (by rfl))) (@pe_slice _ _ _ _ _ _ _ _ _ _ sl_list (pv 0) (@po_some _ _ _ (@pe_int _ _ _ _)) (@po_some _ _ _ (@pe_int _ _ _ _))))) (@pg_name _ _ (4) _ sc_law.nd rfl (by first | exact Or.inl rfl | exact Or.inr rfl) (by first | exact .inl rfl | exact .inr rfl | assumption)) (@pss_cons _ _ _ _ _ (@ps_set _ _ (5) _ _ _ _ sc_law.nd rfl (by first | exact Or.inl rfl | exact Or.inr rfl) (@pe_fn _ _ _ _ _ _ _ _ _ _ D__law_numbers (hr.mono (by decide)) rfl (@pa_cons _ _ _ _ _ (pv 4) (@pa_cons _ _ _ _ _ (@pe_int _ _ _ _) (@pa_nil _) (by rfl)) (by rfl)) (by decide) (by rfl) (by rfl)) (by rfl) (by first | exact .inl rfl | exact .inr rfl | assumption)) (@pss_cons _ _ _ _ _ (@ps_set _ _ (6) _ _ _ _ sc_law.nd rfl (by first | exact Or.inl rfl | exact Or.inr rfl) (@pe_ix _ _ _ _ _ _ _ ix_list (@pe_lst _ _ _ _ (@pa_cons _ _ _ _ _ (@pe_op _ _ _ _ _ _ _ _ op_add (@pe_int _ _ _ _) (@pe_op _ _ _ _ _ _ _ _ op_mod (@pe_ix _ _ _ _ _ _ _ ix_list (pv 5) (@pe_int _ _ _ _) (fun _ _=>rfl)) (@pe_int _ _ _ _))) (@pa_cons _ _ _ _ _ (@pe_op _ _ _ _ _ _ _ _ op_add (@pe_int _ _ _ _) (@pe_op _ _ _ _ _ _ _ _ op_mod (@pe_ix _ _ _ _ _ _ _ ix_list (pv 5) (@pe_int _ _ _ _) (fun _ _=>rfl)) (@pe_int _ _ _ _))) (@pa_nil _) (by rfl)) (by rfl))) (@pe_op _ _ _ _ _ _ _ _ op_mod (@pe_ix _ _ _ _ _ _ _ ix_list (pv 5) (@pe_int _ _ _ _) (fun _ _=>rfl)) (@pe_int _ _ _ _)) (fun _ _=>rfl)) (by rfl) (by first | exact .inl rfl | exact .inr rfl | assumption)) (@pss_cons _ _ _ _ _ (@ps_if _ _ _ _ _ _ _ _ (@pt_cmpR _ _ _ _ _ _ _ _ op_in_seq (pv 6) (pv 3) rfl) (@pss_one _ _ _ (@ps_continue _ _)) (@pss_nil _)) (@pss_cons _ _ _ _ _ (@ps_expr _ _ _ _ (@pe_bm _ _ _ _ _ _ _ _ _ _ _ _ PySem.F.plainAttrs_list PySem.F.slot_list_append PySem.F.type_list_append mt_append (pv 3) (@pa_cons _ _ _ _ _ (pv 6) (@pa_nil _) (by rfl)) (by rfl) (by rfl) (by rfl) (by rfl) (by rfl)) (by rfl)) (@pss_cons _ _ _ _ _ (@ps_set _ _ (7) _ _ _ _ sc_law.nd rfl (by first | exact Or.inl rfl | exact Or.inr rfl) (@pe_ix _ _ _ _ _ _ _ ix_list (@pe_lst _ _ _ _ (@pa_cons _ _ _ _ _ (@pe_op _ _ _ _ _ _ _ _ op_mod (@pe_ix _ _ _ _ _ _ _ ix_list (pv 5) (@pe_int _ _ _ _) (fun _ _=>rfl)) (@pe_op _ _ _ _ _ _ _ _ op_pow (@pe_int _ _ _ _) (@pe_int _ _ _ _))) (@pa_cons _ _ _ _ _ (@pe_int _ _ _ _) (@pa_cons _ _ _ _ _ (@pe_op _ _ _ _ _ _ _ _ op_mod (@pe_ix _ _ _ _ _ _ _ ix_list (pv 5) (@pe_int _ _ _ _) (fun _ _=>rfl)) (@pe_int _ _ _ _)) (@pa_nil _) (by rfl)) (by rfl)) (by rfl))) (@pe_op _ _ _ _ _ _ _ _ op_mod (@pe_op _ _ _ _ _ _ _ _ op_fdiv (@pe_ix _ _ _ _ _ _ _ ix_list (pv 5) (@pe_int _ _ _ _) (fun _ _=>rfl)) (@pe_int _ _ _ _)) (@pe_int _ _ _ _)) (fun _ _=>rfl)) (by rfl) (by first | exact .inl rfl | exact .inr rfl | assumption)) (@pss_cons _ _ _ _ _ (@ps_set _ _ (8) _ _ _ _ sc_law.nd rfl (by first | exact Or.inl rfl | exact Or.inr rfl) (@pe_fn _ _ _ _ _ _ _ _ _ _ D__law_block (hr.mono (by decide)) rfl (@pa_cons _ _ _ _ _ (@pe_slice _ _ _ _ _ _ _ _ _ _ sl_list (pv 5) (@po_some _ _ _ (@pe_int _ _ _ _)) (@po_none _)) (@pa_nil _) (by rfl)) (by decide) (by rfl) (by rfl)) (by rfl) (by first | exact .inl rfl | exact .inr rfl | assumption)) (@pss_cons _ _ _ _ _ (@ps_set _ _ (9) _ _ _ _ sc_law.nd rfl (by first | exact Or.inl rfl | exact Or.inr rfl) (@pe_tup _ _ _ _ _ (@pa_cons _ _ _ _ _ (pv 6) (@pa_cons _ _ _ _ _ (pv 7) (@pa_cons _ _ _ _ _ (@pe_fn _ _ _ _ _ _ _ _ _ _ D__law_sum (hr.mono (by decide)) rfl (@pa_cons _ _ _ _ _ (pv 8) (@pa_nil _) (by rfl)) (by decide) (by rfl) (by rfl)) (@pa_nil _) (by rfl)) (by rfl)) (by rfl))) (by rfl) (by first | exact .inl rfl | exact .inr rfl | assumption)) (@pss_cons _ _ _ _ _ (@ps_set _ _ (10) _ _ _ _ sc_law.nd rfl (by first | exact Or.inl rfl | exact Or.inr rfl) (@pe_fn _ _ _ _ _ _ _ _ _ _ D__law_sealed (hr.mono (by decide)) rfl (@pa_cons _ _ _ _ _ (@pe_fn _ _ _ _ _ _ _ _ _ _ D__law_words (hr.mono (by decide)) rfl (@pa_cons _ _ _ _ _ (@pe_tup _ _ _ _ _ (@pa_cons _ _ _ _ _ (pv 6) (@pa_cons _ _ _ _ _ (pv 7) (@pa_cons _ _ _ _ _ (pv 8) (@pa_nil _) (by rfl)) (by rfl)) (by rfl))) (@pa_nil _) (by rfl)) (by decide) (by rfl) (by rfl)) (@pa_nil _) (by rfl)) (by decide) (by rfl) (by rfl)) (by rfl) (by first | exact .inl rfl | exact .inr rfl | assumption)) (@pss_cons _ _ _ _ _ (@ps_set _ _ (11) _ _ _ _ sc_law.nd rfl (by first | exact Or.inl rfl | exact Or.inr rfl) (@pe_lst _ _ _ _ (@pa_cons _ _ _ _ _ (@pe_op _ _ _ _ _ _ _ _ op_mod (pv 6) (pv 2)) (@pa_cons _ _ _ _ _ (@pe_op _ _ _ _ _ _ _ _ op_mod (@pe_op _ _ _ _ _ _ _ _ op_add (pv 6) (@pe_int _ _ _ _)) (pv 2)) (@pa_nil _) (by rfl)) (by rfl))) (by rfl) (by first | exact .inl rfl | exact .inr rfl | assumption)) (@pss_cons _ _ _ _ _ (@ps_set _ _ (12) _ _ _ _ sc_law.nd rfl (by first | exact Or.inl rfl | exact Or.inr rfl) (@pe_mth0 _ _ _ _ _ _ _ _ _ _ _ (pv 1) T.cl_Boards D_Boards_written (hr.mono (by decide)) (by rfl)) (by rfl) (by first | exact .inl rfl | exact .inr rfl | assumption)) (@pss_cons _ _ _ _ _ (@ps_set _ _ (13) _ _ _ _ sc_law.nd rfl (by first | exact Or.inl rfl | exact Or.inr rfl) (@pe_ix _ _ _ _ _ _ _ ix_list (@pe_lst _ _ _ _ (@pa_cons _ _ _ _ _ (@pe_non _ _ _) (@pa_cons _ _ _ _ _ (@pe_int _ _ _ _) (@pa_cons _ _ _ _ _ (@pe_int _ _ _ _) (@pa_cons _ _ _ _ _ (@pe_int _ _ _ _) (@pa_cons _ _ _ _ _ (@pe_int _ _ _ _) (@pa_nil _) (by rfl)) (by rfl)) (by rfl)) (by rfl)) (by rfl))) (@pe_op _ _ _ _ _ _ _ _ op_mod (@pe_ix _ _ _ _ _ _ _ ix_list (pv 5) (@pe_int _ _ _ _) (fun _ _=>rfl)) (@pe_int _ _ _ _)) (fun _ _=>rfl)) (by rfl) (by first | exact .inl rfl | exact .inr rfl | assumption)) (@pss_cons _ _ _ _ _ (@ps_expr _ _ _ _ (@pe_mth _ _ _ _ _ _ _ _ _ _ _ _ _ _ (pv 1) T.cl_Boards D_Boards_stop (hr.mono (by decide)) (@pa_cons _ _ _ _ _ (pv 13) (@pa_nil _) (by rfl)) (by rfl) (by rfl) (by rfl)) (by rfl)) (@pss_cons _ _ _ _ _ (@ps_set _ _ (14) _ _ _ _ sc_law.nd rfl (by first | exact Or.inl rfl | exact Or.inr rfl) (@pe_int _ _ _ _) (by rfl) (by first | exact .inl rfl | exact .inr rfl | assumption)) (@pss_cons _ _ _ _ _ (@ps_if _ _ _ _ _ _ _ _ (@pt_cmp _ _ _ _ _ _ (@pc_notN _ _ _ _ _ (pv 13)) (by first | exact nobehind _ (by decide) (by decide) | rfl)) (@pss_one _ _ _ (@ps_set _ _ (14) _ _ _ _ sc_law.nd rfl (by first | exact Or.inl rfl | exact Or.inr rfl) (@pe_callB _ _ _ _ _ _ _ _ _ (call_min2 rfl) (by rfl) T.b_min bt_min (@pa_cons _ _ _ _ _ (@pe_int _ _ _ _) (@pa_cons _ _ _ _ _ (pv 13) (@pa_nil _) (by rfl)) (by rfl)) (by decide) (by decide) (by rfl) (by rfl)) (by rfl) (by first | exact .inl rfl | exact .inr rfl | assumption))) (@pss_nil _)) (@pss_cons _ _ _ _ _ (@ps_if _ _ _ _ _ _ _ _ (@pt_cmpR _ _ _ _ _ _ _ _ op_ne (@pe_fn _ _ _ _ _ _ _ _ _ _ D__law_laid (hr.mono (by decide)) rfl (@pa_cons _ _ _ _ _ (pv 1) (@pa_cons _ _ _ _ _ (pv 6) (@pa_cons _ _ _ _ _ (pv 7) (@pa_cons _ _ _ _ _ (pv 8) (@pa_nil _) (by rfl)) (by rfl)) (by rfl)) (by rfl)) (by decide) (by rfl) (by rfl)) (@pe_ix _ _ _ _ _ _ _ ix_list (@pe_lst _ _ _ _ (@pa_cons _ _ _ _ _ (@pe_bl _ _ _ _) (@pa_cons _ _ _ _ _ (@pe_bl _ _ _ _) (@pa_cons _ _ _ _ _ (@pe_non _ _ _) (@pa_nil _) (by rfl)) (by rfl)) (by rfl))) (pv 14) (fun _ _=>rfl)) (nomark _)) (@pss_one _ _ _ (@ps_ret _ _ _ _ (@pe_bl _ _ _ _))) (@pss_nil _)) (@pss_cons _ _ _ _ _ (@ps_if _ _ _ _ _ _ _ _ (@PW.pt _ _ _ (@pw_or _ _ _ _ _ _ _ (@pt_cmpR _ _ _ _ _ _ _ _ op_ne (@pe_mth0 _ _ _ _ _ _ _ _ _ _ _ (pv 1) T.cl_Boards D_Boards_written (hr.mono (by decide)) (by rfl)) (@pe_op _ _ _ _ _ _ _ _ op_add (pv 12) (pv 14)) (nomark _)) (@pw_or1 _ _ _ _ (@pt_not _ _ _ _ (@pt_val _ _ _ (@pe_fn _ _ _ _ _ _ _ _ _ _ D__law_seen (hr.mono (by decide)) rfl (@pa_cons _ _ _ _ _ (pv 1) (@pa_cons _ _ _ _ _ (pv 9) (@pa_cons _ _ _ _ _ (pv 10) (@pa_cons _ _ _ _ _ (@pe_slice _ _ _ _ _ _ _ _ _ _ sl_list (pv 11) (@po_none _) (@po_some _ _ _ (pv 14))) (@pa_cons _ _ _ _ _ (pv 8) (@pa_nil _) (by rfl)) (by rfl)) (by rfl)) (by rfl)) (by rfl)) (by decide) (by rfl) (by rfl)) (by intro _; rfl)))))) (@pss_one _ _ _ (@ps_ret _ _ _ _ (@pe_bl _ _ _ _))) (@pss_nil _)) (@pss_cons _ _ _ _ _ (@ps_expr _ _ _ _ (@pe_mth _ _ _ _ _ _ _ _ _ _ _ _ _ _ (pv 1) T.cl_Boards D_Boards_stop (hr.mono (by decide)) (@pa_cons _ _ _ _ _ (@pe_non _ _ _) (@pa_nil _) (by rfl)) (by rfl) (by rfl) (by rfl)) (by rfl)) (@pss_cons _ _ _ _ _ (@ps_if _ _ _ _ _ _ _ _ (@PW.pt _ _ _ (@pw_or _ _ _ _ _ _ _ (@pt_cmp _ _ _ _ _ _ (@pc_notN _ _ _ _ _ (@pe_fn _ _ _ _ _ _ _ _ _ _ D__law_laid (hr.mono (by decide)) rfl (@pa_cons _ _ _ _ _ (pv 1) (@pa_cons _ _ _ _ _ (pv 6) (@pa_cons _ _ _ _ _ (pv 7) (@pa_cons _ _ _ _ _ (pv 8) (@pa_nil _) (by rfl)) (by rfl)) (by rfl)) (by rfl)) (by decide) (by rfl) (by rfl))) (by first | exact nobehind _ (by decide) (by decide) | rfl)) (@pw_or1 _ _ _ _ (@pt_cmpR _ _ _ _ _ _ _ _ op_ne (@pe_mth0 _ _ _ _ _ _ _ _ _ _ _ (pv 1) T.cl_Boards D_Boards_written (hr.mono (by decide)) (by rfl)) (@pe_op _ _ _ _ _ _ _ _ op_add (@pe_op _ _ _ _ _ _ _ _ op_add (pv 12) (pv 14)) (@pe_int _ _ _ _)) (nomark _))))) (@pss_one _ _ _ (@ps_ret _ _ _ _ (@pe_bl _ _ _ _))) (@pss_nil _)) (@pss_one _ _ _ (@ps_if _ _ _ _ _ _ _ _ (@pt_not _ _ _ _ (@pt_val _ _ _ (@pe_fn _ _ _ _ _ _ _ _ _ _ D__law_seen (hr.mono (by decide)) rfl (@pa_cons _ _ _ _ _ (pv 1) (@pa_cons _ _ _ _ _ (pv 9) (@pa_cons _ _ _ _ _ (pv 10) (@pa_cons _ _ _ _ _ (pv 11) (@pa_cons _ _ _ _ _ (pv 8) (@pa_nil _) (by rfl)) (by rfl)) (by rfl)) (by rfl)) (by rfl)) (by decide) (by rfl) (by rfl)) (by intro _; rfl))) (@pss_one _ _ _ (@ps_ret _ _ _ _ (@pe_bl _ _ _ _))) (@pss_nil _))))))))))))))))))))) (by intro _; rfl)) (@pss_one _ _ _ (@ps_ret _ _ _ _ (@pe_bl _ _ _ _))))))),?_⟩
  try dsimp only [cxOf,Cx.nox,Cx.wish]
  refine ⟨_,rfl,a,ns,0,rfl,by decide,hS,fun z1=>?_⟩
  refine ⟨_,_,rfl,rfl,(by show (0:Int) < 3; decide),_,_,rfl,rfl,?_⟩
  obtain ⟨m,hm⟩:∃ m:Nat,(m:Int) = 2 + z1 % 3:=⟨(2 + z1 % 3).toNat,by omega⟩
  have m1:2≤m:=by omega
  have m2:m≤4:=by omega
  dsimp only [tNil]
  rw [← hm]
  intro x dx nx ndx _
  refine ⟨x,dx,m,rfl,m1,m2,upd_same,fun H1 ds B1 n1 k1=>⟨rfl,?_⟩⟩
  have s1:=made nx ndx k1
  have hS1:=s1.seq hS
  obtain ⟨dx1,sh1,x1,_⟩:=id B1
  refine ⟨_,rfl,x,dx1,_,rfl,x1,rfl,x,ds,_,_,_,rfl,B1,?_⟩
  rw [List.length_replicate]
  refine ⟨small (by show 0≤1000000; decide),fun tk htk=>?_⟩
  have t1:=same_new htk (.lst [])
  refine ⟨small (by show 1≤1000000; decide),fun p1 hp1=>?_⟩
  have t2:=same_new hp1 (.lst [V.int 0])
  refine ⟨_,rfl,1,rfl,9,rfl,a,_,rfl,(t1.trans t2).seq hS1,fun p2 hp2=>?_⟩
  obtain ⟨ms,em,lm,_⟩:=cut_ints ns (some 1) (some 9)
  have lm8:ms.length≤8:=by
    have:=congrArg List.length em
    rw [cut_lohi (by decide) (by decide),List.length_take,List.length_map] at this
    have e8:(9:Int).toNat - (1:Int).toNat = 8:=rfl
    omega
  rw [em] at ⊢
  have t3:=same_new hp2 (.lst (ms.map V.int))
  refine ⟨p1,p2,_,_,rfl,rfl,SqL.of (t3.get upd_same),SqL.of upd_same,small (by rw [List.length_map]; show 1 + _≤1000000; omega),fun cs hcs=>?_⟩
  have t4:=same_new hcs (.lst ([V.int 0] ++ ms.map V.int))
  have hc4:(upd (upd (upd (upd H1 tk (.lst [])) p1 (.lst [V.int 0])) p2 (.lst (ms.map V.int))) cs (.lst ([V.int 0] ++ ms.map V.int))) cs = some (.lst (((0:Int) :: ms).map V.int)):=upd_same
  have tk3:=t3.get (t2.get (upd_same (H:=H1) (a:=tk) (o:=.lst [])))
  have tk4:=t4.get tk3
  have ini1:∀ c∈List.replicate m ([]:Cel),c.length≤4 * 0:=fun c hc=>by rw [List.eq_of_mem_replicate hc]; exact Nat.zero_le _
  have ini2:∀ c∈List.replicate m ([]:Cel),∀ y∈c,10≤y.2.length:=fun c hc y hy=>by rw [List.eq_of_mem_replicate hc] at hy; cases hy
  have ini3:∀ (b:Nat) (u:Int),u ∉ ([]:List Int)→getC ((List.replicate m ([]:Cel)).getD b []) u = none:=fun b u _=>by
    have:(List.replicate m ([]:Cel)).getD b [] = []:=by
      unfold List.getD
      rw [List.getElem?_replicate]
      split <;> rfl
    rw [this]; rfl
  have T4:=((t1.trans t2).trans t3).trans t4
  have B4:=B1.same T4
  have ntc:tk≠cs:=ne_of_none tk3 hcs
  change ∃ y,V.ref cs = V.ref y∧(∃ xs,SqL _ (upd (upd (upd (upd H1 tk (.lst [])) p1 (.lst [V.int 0])) p2 (.lst (ms.map V.int))) cs (.lst ([V.int 0] ++ ms.map V.int))) y xs)∧_
  generalize upd (upd (upd (upd H1 tk (.lst [])) p1 (.lst [V.int 0])) p2 (.lst (ms.map V.int))) cs (.lst ([V.int 0] ++ ms.map V.int)) = H4 at hc4 tk4 T4 B4
  refine ⟨cs,rfl,⟨_,SqL.of hc4⟩,for_list (K:=K) (a:=cs) (xs:=((0:Int) :: ms).map V.int) (fun i σ H2=>∃ v4 v5 v6 v7 v8 v9 v10 v11 v12 v13 v14 bs n lf tks,σ = [some (.ref a),some (.ref x),some (.int (m:Int)),some (.ref tk),v4,v5,v6,v7,v8,v9,v10,v11,v12,v13,v14]∧BAt C_Boards H2 x ds bs n lf∧H2 tk = some (.lst (tks.map V.int))∧H2 cs = some (.lst (((0:Int) :: ms).map V.int))∧bs.length = m∧(∀ c∈bs,c.length≤4 * i)∧tks.length≤i∧(∀ c∈bs,∀ y∈c,10≤y.2.length)∧∀ b u,u ∉ tks→getC (bs.getD b []) u = none)
    ⟨none,none,none,none,none,none,none,none,none,none,none,List.replicate m [],0,.non,[],rfl,B4,tk4,hc4,List.length_replicate,ini1,Nat.zero_le _,ini2,ini3⟩ (fun i σ H2 _ ⟨_,_,_,_,_,_,_,_,_,_,_,_,_,_,_,_,_,_,h,_⟩=>SqL.of h) ?_ ?_⟩
  · rintro i y σ H2 hi ⟨v4,v5,v6,v7,v8,v9,v10,v11,v12,v13,v14,bs,n,lf,tks,rfl,hB,htk2,hcs2,lb,bb,lt,long,fr⟩
    obtain ⟨z,rfl,hz⟩:=ints_get hi
    have i9:i < 9:=by
      have:=(List.getElem?_eq_some_iff.mp hz).1
      rw [List.length_cons] at this
      omega
    refine ⟨_,rfl,z,30,rfl,by decide,by decide,fun r H3 xs s3 nr hr3 lx bx=>?_⟩
    have lx':xs.length = 30:=lx
    have xn:∀ k:Nat,k < 30→∃ u,atI (xs.map V.int) (k:Int) = some (.int u)∧0≤u:=fun k hk=>by
      have hk':k < xs.length:=by omega
      refine ⟨xs[k],atI_nat (by rw [List.getElem?_map,List.getElem?_eq_getElem hk']; rfl),(bx _ (List.getElem_mem hk')).1⟩
    obtain ⟨r0,A0,p0⟩:=xn 0 (by decide)
    obtain ⟨r1,A1,p1'⟩:=xn 1 (by decide)
    obtain ⟨r2,A2,p2'⟩:=xn 2 (by decide)
    obtain ⟨r3,A3,p3⟩:=xn 3 (by decide)
    refine ⟨_,rfl,r,_,_,_,rfl,rfl,SqL.of hr3,A0,_,_,rfl,rfl,(show (0:Int) < 999999 by decide),_,_,rfl,rfl,_,rfl,r,_,_,_,rfl,rfl,SqL.of hr3,A0,_,_,rfl,rfl,(show (0:Int) < 8 by decide),_,_,rfl,rfl,small (by show 2≤1000000; decide),fun l1 hl1=>?_⟩
    have s4:=same_new hl1 (.lst [V.int (1 + r0 % 999999),V.int (1 + r0 % 8)])
    obtain ⟨nv,en,hn⟩:=at_some (xs:=[V.int (1 + r0 % 999999),V.int (1 + r0 % 8)]) (i:=r1 % 2) (by omega) (by show _ < (2:Int); omega)
    obtain ⟨N,rfl,N1,N2⟩:∃ N,nv = .int N∧1≤N∧N≤999999:=by
      simp only [List.mem_cons,List.not_mem_nil,or_false] at hn
      rcases hn with rfl | rfl
      · exact ⟨_,rfl,by omega,by omega⟩
      · exact ⟨_,rfl,by omega,by omega⟩
    refine ⟨_,rfl,r,_,_,_,rfl,rfl,SqL.of (s4.get hr3),A1,_,_,rfl,rfl,(show (0:Int) < 2 by decide),l1,_,_,_,rfl,rfl,SqL.of upd_same,en,?_⟩
    have S4:=s3.trans s4
    have hB4:=hB.same S4
    have tk4:=S4.get htk2
    have cs4:=S4.get hcs2
    have hr4:=s4.get hr3
    generalize upd H3 l1 (.lst [V.int (1 + r0 % 999999),V.int (1 + r0 % 8)]) = H4 at S4 hB4 tk4 cs4 hr4
    have nrt:r≠tk:=fun e=>by rw [e,htk2] at nr; cases nr
    refine ⟨_,rfl,_,rfl,tk,_,rfl,.inl (SqL.of tk4),rfl,flat_ints _,?_⟩
    rw [if_neg Bool.false_ne_true,inV_int]
    refine ⟨_,rfl,ite2 (fun c=>?_) (fun c=>?_)⟩
    · exact ⟨_,_,_,_,_,_,_,_,_,_,_,bs,n,lf,tks,rfl,hB4,tk4,cs4,lb,fun c hc=>Nat.le_trans (bb c hc) (by omega),by omega,long,fr⟩
    have nin:N ∉ tks:=fun h=>c (decide_eq_true h)
    have b0:0 < bs.length:=by omega
    have hB5:=bat_apart (ys:=tks.map V.int ++ [V.int N]) hB4 tk4 b0 fun c hc y hy=>by have:=long c hc y hy; omega
    refine ⟨_,rfl,.inl ⟨rfl,_,SqL.of tk4⟩,_,rfl,tk,_,_,rfl,rfl,tk4,smallLt (by rw [List.length_map]; omega),?_⟩
    have tk5:(upd H4 tk (.lst (tks.map V.int ++ [V.int N]))) tk = some (.lst ((tks ++ [N]).map V.int)):=by rw [upd_same,List.map_append]; rfl
    have cs5:(upd H4 tk (.lst (tks.map V.int ++ [V.int N]))) cs = some (.lst (((0:Int) :: ms).map V.int)):=by rw [upd_ne (Ne.symm ntc)]; exact cs4
    have hr5:(upd H4 tk (.lst (tks.map V.int ++ [V.int N]))) r = some (.lst (xs.map V.int)):=by rw [upd_ne nrt]; exact hr4
    generalize upd H4 tk (.lst (tks.map V.int ++ [V.int N])) = H5 at hB5 tk5 cs5 hr5
    refine ⟨_,rfl,r,_,_,_,rfl,rfl,SqL.of hr5,A2,_,_,rfl,rfl,⟨by decide,by decide,by decide⟩,_,_,rfl,rfl,(show (0:Int) < (10:Int) ^ (9:Int).toNat by decide),_,rfl,r,_,_,_,rfl,rfl,SqL.of hr5,A2,_,_,rfl,rfl,(show (0:Int) < 5 by decide),small (by show 3≤1000000; decide),fun l2 hl2=>?_⟩
    have e9:(10:Int) ^ (9:Int).toNat = 1000000000:=by decide
    dsimp only
    rw [e9]
    have s6:=same_new hl2 (.lst [V.int (r2 % 1000000000),V.int 999999999,V.int (r2 % 5)])
    obtain ⟨yv,ey,hy⟩:=at_some (xs:=[V.int (r2 % 1000000000),V.int 999999999,V.int (r2 % 5)]) (i:=r1 / 2 % 3) (by omega) (by show _ < (3:Int); omega)
    obtain ⟨Y,rfl,Y1,Y2⟩:∃ Y,yv = .int Y∧0≤Y∧Y≤999999999:=by
      simp only [List.mem_cons,List.not_mem_nil,or_false] at hy
      rcases hy with rfl | rfl | rfl
      · exact ⟨_,rfl,by omega,by omega⟩
      · exact ⟨_,rfl,by decide,by decide⟩
      · exact ⟨_,rfl,by omega,by omega⟩
    refine ⟨_,rfl,r,_,_,_,rfl,rfl,SqL.of (s6.get hr5),A1,_,_,rfl,rfl,⟨by decide,by decide⟩,_,_,rfl,rfl,(show (0:Int) < 3 by decide),l2,_,_,_,rfl,rfl,SqL.of upd_same,ey,?_⟩
    have nb:nbOk N Y:=⟨⟨by omega,by omega⟩,Y1,Y2⟩
    refine ⟨_,rfl,6,rfl,r,_,rfl,SqL.of (s6.get hr5),fun l3 hl3=>?_⟩
    rw [cut_lo (by decide),← List.map_drop]
    have s7:=same_new hl3 (.lst ((xs.drop (6:Int).toNat).map V.int))
    refine ⟨l3,xs.drop (6:Int).toNat,rfl,upd_same,by rw [List.length_drop,lx']; rfl,fun u hu=>bx u (List.mem_of_mem_drop hu),fun bv bk H6 s8 ok hv=>?_⟩
    have S6:=(s6.trans s7).trans s8
    refine ⟨_,rfl,_,rfl,_,rfl,bv,bk,rfl,hv,ok,fun H7 s9=>⟨small (by show 3≤1000000; decide),fun ta hta=>?_⟩⟩
    have s10:=same_new hta (.tup [V.int N,V.int Y,V.int (sumB bk)])
    refine ⟨_,rfl,_,rfl,_,rfl,small (by show 3≤1000000; decide),fun tr htr=>?_⟩
    have s11:=same_new htr (.tup [V.int N,V.int Y,bv])
    have S11:=(s9.trans s10).trans s11
    have hrec:Rep NL (upd (upd H7 ta (.tup [V.int N,V.int Y,V.int (sumB bk)])) tr (.tup [V.int N,V.int Y,bv])) (recT N Y bk) (.ref tr):=⟨tr,_,rfl,upd_same,_,_,rfl,rfl,_,_,rfl,rfl,_,_,rfl,Rep.same S11 _ _ hv,rfl⟩
    have ta11:=s11.get (upd_same (H:=H7) (a:=ta) (o:=.tup [V.int N,V.int Y,V.int (sumB bk)]))
    generalize upd (upd H7 ta (.tup [V.int N,V.int Y,V.int (sumB bk)])) tr (.tup [V.int N,V.int Y,bv]) = H11 at S11 hrec ta11
    have rl:=rec_len (z:=N) (y:=Y) ok
    refine ⟨.ref tr,recT N Y bk,rfl,hrec,isT_rec nb ok,by omega,fun wl H12 s12 nw hw=>?_⟩
    refine ⟨wl,_,rfl,hw,by omega,fun ra H13 s13 nra hra=>?_⟩
    refine ⟨_,rfl,_,rfl,_,_,rfl,rfl,(show (0:Int) < (m:Int) by omega),_,rfl,_,_,rfl,rfl,_,rfl,_,_,rfl,rfl,(show (0:Int) < (m:Int) by omega),small (by show 2≤1000000; decide),fun tw htw=>?_⟩
    have s14:=same_new htw (.lst [V.int (N % (m:Int)),V.int ((N + 1) % (m:Int))])
    have etw:(upd H13 tw (.lst [V.int (N % (m:Int)),V.int ((N + 1) % (m:Int))])) tw = some (.lst ((twn bs N).map V.int)):=by rw [upd_same]; unfold twn; rw [lb]; rfl
    have S14:=(((S6.trans S11).trans s12).trans s13).trans s14
    have hB14:=hB5.same S14
    have tk14:=S14.get tk5
    have cs14:=S14.get cs5
    have ra14:=s14.get hra
    have ta14:=s14.get (s13.get (s12.get ta11))
    have hr14:=S14.get hr5
    have hv14:=Rep.same (((S11.trans s12).trans s13).trans s14) _ _ hv
    generalize upd H13 tw (.lst [V.int (N % (m:Int)),V.int ((N + 1) % (m:Int))]) = H14 at etw hB14 tk14 cs14 ra14 ta14 hr14 hv14
    obtain ⟨dx14,sh14,g14,_⟩:=id hB14
    refine ⟨_,rfl,x,dx14,_,rfl,g14,rfl,x,ds,bs,n,lf,rfl,hB14,?_⟩
    refine ⟨small (by show 5≤1000000; decide),fun l4 hl4=>?_⟩
    have s15:=same_new hl4 (.lst [V.non,V.int 0,V.int 1,V.int 2,V.int 3])
    obtain ⟨st,est⟩:=st_some (i:=r3 % 5) (by omega) (by omega)
    refine ⟨_,rfl,r,_,_,_,rfl,rfl,SqL.of (s15.get hr14),A3,_,_,rfl,rfl,(show (0:Int) < 5 by decide),l4,_,_,_,rfl,rfl,SqL.of upd_same,est,?_⟩
    have hB15:=hB14.same s15
    have tk15:=s15.get tk14
    have cs15:=s15.get cs14
    have ra15:=s15.get ra14
    have ta15:=s15.get ta14
    have tw15:=s15.get etw
    have hv15:=Rep.same s15 _ _ hv14
    generalize upd H14 l4 (.lst [V.non,V.int 0,V.int 1,V.int 2,V.int 3]) = H15 at hB15 tk15 cs15 ra15 ta15 tw15 hv15
    obtain ⟨dx15,sh15,g15,_⟩:=id hB15
    refine ⟨_,rfl,x,dx15,_,rfl,g15,rfl,_,rfl,x,ds,bs,n,lf,stV st,rfl,hB15,fun H16 hB16 k16=>?_⟩
    have tk16:=kb_lst hB15 k16 tk15
    have cs16:=kb_lst hB15 k16 cs15
    have ra16:=kb_lst hB15 k16 ra15
    have ta16:=kb_tup hB15 k16 ta15
    have tw16:=kb_lst hB15 k16 tw15
    have hv16:=kb_rep hB15 k16 hv15
    clear hB14 hB15 k16
    dsimp only
    refine seq_asg ?_
    dsimp only [tC]
    refine seq_mid (fun σ' H'=>σ' = [some (.ref a),some (.ref x),some (.int (m:Int)),some (.ref tk),some (.int z),some (.ref r),some (.int N),some (.int Y),some bv,some (.ref ta),some (.ref ra),some (.ref tw),some (.int n),some (stV st),some (.int (stN st:Int))]∧H' = H16) (fun NN hN=>?_) ?_
    · cases st with
      | none=>exact ⟨_,rfl,_,rfl,iteFc rfl (hN _ _ ⟨rfl,rfl⟩)⟩
      | some k=>
        refine ⟨_,rfl,_,rfl,iteTc rfl ?_⟩
        refine ⟨_,rfl,_,_,rfl,?_⟩
        have e:(if ((k:Nat):Int) < 2 then ((k:Nat):Int) else 2) = ((stN (some k):Nat):Int):=by
          show _ = ((min 2 k:Nat):Int)
          split <;> omega
        dsimp only
        rw [e]
        exact hN _ _ ⟨rfl,rfl⟩
    rintro σ' H' ⟨rfl,rfl⟩
    have st2:=stN_le st
    have bb9:∀ c∈bs,c.length≤900:=fun c hc=>by have:=bb c hc; omega
    have h0:∀ b,getC (bs.getD b []) N = none:=fun b=>fr b N nin
    have two:2≤bs.length:=by omega
    refine ⟨_,rfl,_,rfl,_,rfl,_,rfl,?_⟩
    dsimp only [tNil,List.append_nil]
    refine laid_use hB16 b0 bb9 hv16 ok nb fun H17 lf17 hB17 k17=>?_
    have tk17:=kb_lst hB16 k17 tk16
    have cs17:=kb_lst hB16 k17 cs16
    have ra17:=kb_lst hB16 k17 ra16
    have ta17:=kb_tup hB16 k17 ta16
    have tw17:=kb_lst hB16 k17 tw16
    have hv17:=kb_rep hB16 k17 hv16
    refine ⟨small (by show 3≤1000000; decide),fun l5 hl5=>?_⟩
    have s18:=same_new hl5 (.lst [V.bl true,V.bl true,V.non])
    refine ⟨_,rfl,l5,_,_,_,rfl,rfl,SqL.of upd_same,went_at st,?_⟩
    have sc:scal (if stN st = 2 then V.non else V.bl true) (if stN st = 2 then V.non else V.bl true) = true:=by split <;> rfl
    refine ⟨sc,_,rfl,iteNS rfl ?_⟩
    have hB18:=hB17.same s18
    have tk18:=s18.get tk17
    have cs18:=s18.get cs17
    have ra18:=s18.get ra17
    have ta18:=s18.get ta17
    have tw18:=s18.get tw17
    have hv18:=Rep.same s18 _ _ hv17
    generalize upd H17 l5 (.lst [V.bl true,V.bl true,V.non]) = H18 at hB18 tk18 cs18 ra18 ta18 tw18 hv18
    obtain ⟨dx18,sh18,g18,_⟩:=id hB18
    refine ⟨_,rfl,x,dx18,_,rfl,g18,rfl,x,ds,_,_,_,rfl,hB18,_,rfl,_,rfl,_,_,rfl,rfl,rfl,_,rfl,iteNS rfl ?_⟩
    have f1:=wr_filter (row:=sealW (recT N Y bk)) two h0 (stN st)
    have lw:(wr bs N (sealW (recT N Y bk)) ((twn bs N).take (stN st))).length = m:=by rw [wr_len,lb]
    refine ⟨_,rfl,_,rfl,_,rfl,_,rfl,_,rfl,_,rfl,tw,_,rfl,SqL.of tw18,fun l6 hl6=>?_⟩
    have ecut:cutV ((twn bs N).map V.int) none (some (stN st:Int)) = ((twn bs N).take (stN st)).map V.int:=by rw [cut_hi (by omega),List.map_take]; rfl
    rw [ecut]
    have s19:=same_new hl6 (.lst (((twn bs N).take (stN st)).map V.int))
    have hg1:∀ b,b < (wr bs N (sealW (recT N Y bk)) ((twn bs N).take (stN st))).length→getC ((wr bs N (sealW (recT N Y bk)) ((twn bs N).take (stN st))).getD b []) N = if (b:Int)∈(twn (wr bs N (sealW (recT N Y bk)) ((twn bs N).take (stN st))) N).filter (hasB (wr bs N (sealW (recT N Y bk)) ((twn bs N).take (stN st))) N) then some (sealW (recT N Y bk)) else none:=fun b hb=>by
      rw [f1,wr_get N _ N _ bs b (by rw [wr_len] at hb; exact hb) fun y hy=>twn_nonneg b0 y (List.mem_of_mem_take hy),h0]
      by_cases hm':(b:Int)∈(twn bs N).take (stN st)
      · rw [if_pos ⟨rfl,hm'⟩,if_pos hm']
      · rw [if_neg (fun h=>hm' h.2),if_neg hm']
    refine ⟨_,rfl,?_⟩
    dsimp only [tNil,List.append_nil]
    refine ⟨x,ds,_,_,_,ta,ra,l6,N,Y,bk,bv,rfl,hB18.same s19,by omega,by omega,s19.get ta18,ok,nb,s19.get ra18,by rw [f1]; exact upd_same,hg1,Rep.same s19 _ _ hv18,fun H20 s20=>⟨_,rfl,iteFc rfl ?_⟩⟩
    have S20:=s19.trans s20
    have hB20:=hB18.same S20
    have tk20:=S20.get tk18
    have cs20:=S20.get cs18
    have ra20:=S20.get ra18
    have ta20:=S20.get ta18
    have tw20:=S20.get tw18
    have hv20:=Rep.same S20 _ _ hv18
    obtain ⟨dx20,sh20,g20,_⟩:=id hB20
    refine ⟨_,rfl,x,dx20,_,rfl,g20,rfl,x,ds,_,_,_,.non,rfl,hB20,fun H21 hB21 k21=>?_⟩
    have tk21:=kb_lst hB20 k21 tk20
    have cs21:=kb_lst hB20 k21 cs20
    have ra21:=kb_lst hB20 k21 ra20
    have ta21:=kb_tup hB20 k21 ta20
    have tw21:=kb_lst hB20 k21 tw20
    have hv21:=kb_rep hB20 k21 hv20
    have bb1:∀ c∈wr bs N (sealW (recT N Y bk)) ((twn bs N).take (stN st)),c.length≤4 * i + 2:=fun c hc=>by
      have:=wr_bound _ bb c hc
      have:((twn bs N).take (stN st)).length≤2:=by rw [List.length_take]; exact Nat.le_trans (Nat.min_le_right _ _) (Nat.le_refl 2)
      omega
    have long1:=wr_long (z:=N) (row:=sealW (recT N Y bk)) rec_long ((twn bs N).take (stN st)) long
    have beyond:∀ (l:List Cel) (b:Nat) (u:Int),¬ b < l.length→getC (l.getD b []) u = none:=fun l b u hb=>by
      have:l.getD b [] = []:=by unfold List.getD; rw [List.getElem?_eq_none (by omega)]; rfl
      rw [this]; rfl
    have fr1:∀ b u,u ∉ tks ++ [N]→getC ((wr bs N (sealW (recT N Y bk)) ((twn bs N).take (stN st))).getD b []) u = none:=fun b u hu=>by
      by_cases hb:b < bs.length
      · rw [wr_get N _ u _ bs b hb fun y hy=>twn_nonneg b0 y (List.mem_of_mem_take hy),if_neg (fun h=>hu (List.mem_append.mpr (.inr (by rw [h.1]; exact List.mem_singleton.mpr rfl))))]
        exact fr b u fun h=>hu (List.mem_append.mpr (.inl h))
      · exact beyond _ b u (by rw [wr_len]; exact hb)
    have nn1:∀ b:Nat,(b:Int) ∉ twn bs N→getC ((wr bs N (sealW (recT N Y bk)) ((twn bs N).take (stN st))).getD b []) N = none:=fun b hn=>by
      by_cases hb:b < bs.length
      · rw [wr_get N _ N _ bs b hb fun y hy=>twn_nonneg b0 y (List.mem_of_mem_take hy),if_neg (fun h=>hn (List.mem_of_mem_take h.2))]
        exact h0 b
      · exact beyond _ b N (by rw [wr_len]; exact hb)
    have tw1:=twn_wr bs N (sealW (recT N Y bk)) ((twn bs N).take (stN st))
    clear f1 hg1 hB17 k17 hB18 hB20 k21
    generalize wr bs N (sealW (recT N Y bk)) ((twn bs N).take (stN st)) = bs1 at lw bb1 long1 fr1 nn1 tw1 hB21
    have b01:0 < bs1.length:=by omega
    refine ⟨_,rfl,_,rfl,_,rfl,_,rfl,?_⟩
    dsimp only [tNil,List.append_nil]
    refine laid_use (s:=none) hB21 b01 (fun c hc=>by have:=bb1 c hc; omega) hv21 ok nb fun H22 lf22 hB22 k22=>?_
    have tk22:=kb_lst hB21 k22 tk21
    have cs22:=kb_lst hB21 k22 cs21
    have ra22:=kb_lst hB21 k22 ra21
    have ta22:=kb_tup hB21 k22 ta21
    have tw22:=kb_lst hB21 k22 tw21
    have hv22:=kb_rep hB21 k22 hv21
    have hB22':BAt C_Boards H22 x ds (wr bs1 N (sealW (recT N Y bk)) (twn bs1 N)) (n + (stN st:Int) + 2) lf22:=hB22
    obtain ⟨dx22,sh22,g22,_⟩:=id hB22'
    refine ⟨_,rfl,iteFc rfl ?_⟩
    refine ⟨_,rfl,x,dx22,_,rfl,g22,rfl,x,ds,_,_,_,rfl,hB22',_,rfl,_,rfl,_,_,rfl,rfl,_,_,rfl,rfl,rfl,_,rfl,iteNS rfl ?_⟩
    have f2:=wr_filter2 (bs:=bs1) (z:=N) (row:=sealW (recT N Y bk)) (by omega)
    have hg2:∀ b,b < (wr bs1 N (sealW (recT N Y bk)) (twn bs1 N)).length→getC ((wr bs1 N (sealW (recT N Y bk)) (twn bs1 N)).getD b []) N = if (b:Int)∈(twn (wr bs1 N (sealW (recT N Y bk)) (twn bs1 N)) N).filter (hasB (wr bs1 N (sealW (recT N Y bk)) (twn bs1 N)) N) then some (sealW (recT N Y bk)) else none:=fun b hb=>by
      rw [f2,wr_get N _ N _ bs1 b (by rw [wr_len] at hb; exact hb) fun y hy=>twn_nonneg b01 y hy]
      by_cases hm':(b:Int)∈twn bs1 N
      · rw [if_pos ⟨rfl,hm'⟩,if_pos hm']
      · rw [if_neg (fun h=>hm' h.2),if_neg hm']
        rw [tw1] at hm'
        exact nn1 b hm'
    have lw2:(wr bs1 N (sealW (recT N Y bk)) (twn bs1 N)).length = m:=by rw [wr_len,lw]
    refine ⟨_,rfl,_,rfl,_,rfl,_,rfl,_,rfl,?_⟩
    dsimp only [tNil,List.append_nil]
    refine ⟨x,ds,_,_,_,ta,ra,tw,N,Y,bk,bv,rfl,hB22',by omega,by omega,ta22,ok,nb,ra22,by rw [f2,tw1]; exact tw22,hg2,hv22,fun H23 s23=>⟨_,rfl,iteFc rfl ?_⟩⟩
    refine ⟨_,_,_,_,_,_,_,_,_,_,_,_,_,_,tks ++ [N],rfl,hB22'.same s23,s23.get tk22,s23.get cs22,lw2,fun c hc=>?_,by rw [List.length_append]; show _ + 1≤_; omega,wr_long rec_long _ long1,fun b u hu=>?_⟩
    · have:=wr_bound _ bb1 c hc
      have e2:(twn bs1 N).length = 2:=rfl
      omega
    · by_cases hb:b < bs1.length
      · rw [wr_get N _ u _ bs1 b hb fun y hy=>twn_nonneg b01 y hy,if_neg (fun h=>hu (List.mem_append.mpr (.inr (by rw [h.1]; exact List.mem_singleton.mpr rfl))))]
        exact fr1 b u hu
      · exact beyond _ b u (by rw [wr_len]; exact hb)
  · rintro σ H2 ⟨v4,v5,v6,v7,v8,v9,v10,v11,v12,v13,v14,bs,n,lf,tks,rfl,_⟩
    exact q _
end
theorem all_mk {l:PySem.W.OpenLaw} {w:World} {K:PySem.W.Frag} {h:Heap} {mg:Str→Option Value} {fa:Addr} (X:K.In h) (G:h.Ns mainGlobals mg) (hfa:mg "law" = some (.ref fa))
    {f0:Addr} {od0 an0:Option Addr} {sl0:Array (Option Value)} {oc0 kV0 dc0 pm0 cd0 ct0:Value}
    {f1:Addr} {od1 an1:Option Addr} {sl1:Array (Option Value)} {oc1 kV1 dc1 pm1 cd1 ct1:Value}
    {f2:Addr} {od2 an2:Option Addr} {sl2:Array (Option Value)} {oc2 kV2 dc2 pm2 cd2 ct2:Value}
    {f3:Addr} {od3 an3:Option Addr} {sl3:Array (Option Value)} {oc3 kV3 dc3 pm3 cd3 ct3:Value}
    {f4:Addr} {od4 an4:Option Addr} {sl4:Array (Option Value)} {oc4 kV4 dc4 pm4 cd4 ct4:Value}
    {f5:Addr} {od5 an5:Option Addr} {sl5:Array (Option Value)} {oc5 kV5 dc5 pm5 cd5 ct5:Value}
    {f6:Addr} {od6 an6:Option Addr} {sl6:Array (Option Value)} {oc6 kV6 dc6 pm6 cd6 ct6:Value}
    {f7:Addr} {od7 an7:Option Addr} {sl7:Array (Option Value)} {oc7 kV7 dc7 pm7 cd7 ct7:Value}
    {f8:Addr} {od8 an8:Option Addr} {sl8:Array (Option Value)} {oc8 kV8 dc8 pm8 cd8 ct8:Value}
    {f9:Addr} {od9 an9:Option Addr} {sl9:Array (Option Value)} {oc9 kV9 dc9 pm9 cd9 ct9:Value}
    {f10:Addr} {od10 an10:Option Addr} {sl10:Array (Option Value)} {oc10 kV10 dc10 pm10 cd10 ct10:Value}
    {f11:Addr} {od11 an11:Option Addr} {sl11:Array (Option Value)} {oc11 kV11 dc11 pm11 cd11 ct11:Value}
    {f12:Addr} {od12 an12:Option Addr} {sl12:Array (Option Value)} {oc12 kV12 dc12 pm12 cd12 ct12:Value}
    {f13:Addr} {od13 an13:Option Addr} {sl13:Array (Option Value)} {oc13 kV13 dc13 pm13 cd13 ct13:Value}
    {f14:Addr} {od14 an14:Option Addr} {sl14:Array (Option Value)} {oc14 kV14 dc14 pm14 cd14 ct14:Value}
    {f15:Addr} {od15 an15:Option Addr} {sl15:Array (Option Value)} {oc15 kV15 dc15 pm15 cd15 ct15:Value}
    {f16:Addr} {od16 an16:Option Addr} {sl16:Array (Option Value)} {oc16 kV16 dc16 pm16 cd16 ct16:Value}
    {f17:Addr} {od17 an17:Option Addr} {sl17:Array (Option Value)} {oc17 kV17 dc17 pm17 cd17 ct17:Value}
    {f18:Addr} {od18 an18:Option Addr} {sl18:Array (Option Value)} {oc18 kV18 dc18 pm18 cd18 ct18:Value}
    {f19:Addr} {od19 an19:Option Addr} {sl19:Array (Option Value)} {oc19 kV19 dc19 pm19 cd19 ct19:Value}
    {f20:Addr} {od20 an20:Option Addr} {sl20:Array (Option Value)} {oc20 kV20 dc20 pm20 cd20 ct20:Value}
    {f21:Addr} {od21 an21:Option Addr} {sl21:Array (Option Value)} {oc21 kV21 dc21 pm21 cd21 ct21:Value}
    {f22:Addr} {od22 an22:Option Addr} {sl22:Array (Option Value)} {oc22 kV22 dc22 pm22 cd22 ct22:Value}
    {f23:Addr} {od23 an23:Option Addr} {sl23:Array (Option Value)} {oc23 kV23 dc23 pm23 cd23 ct23:Value}
    {f24:Addr} {od24 an24:Option Addr} {sl24:Array (Option Value)} {oc24 kV24 dc24 pm24 cd24 ct24:Value}
    {f25:Addr} {od25 an25:Option Addr} {sl25:Array (Option Value)} {oc25 kV25 dc25 pm25 cd25 ct25:Value}
    {f26:Addr} {od26 an26:Option Addr} {sl26:Array (Option Value)} {oc26 kV26 dc26 pm26 cd26 ct26:Value}
    {f27:Addr} {od27 an27:Option Addr} {sl27:Array (Option Value)} {oc27 kV27 dc27 pm27 cd27 ct27:Value}
    {f28:Addr} {od28 an28:Option Addr} {sl28:Array (Option Value)} {oc28 kV28 dc28 pm28 cd28 ct28:Value}
    {f29:Addr} {od29 an29:Option Addr} {sl29:Array (Option Value)} {oc29 kV29 dc29 pm29 cd29 ct29:Value}
    {f30:Addr} {od30 an30:Option Addr} {sl30:Array (Option Value)} {oc30 kV30 dc30 pm30 cd30 ct30:Value}
    {f31:Addr} {od31 an31:Option Addr} {sl31:Array (Option Value)} {oc31 kV31 dc31 pm31 cd31 ct31:Value}
    {f32:Addr} {od32 an32:Option Addr} {sl32:Array (Option Value)} {oc32 kV32 dc32 pm32 cd32 ct32:Value}
    {f33:Addr} {od33 an33:Option Addr} {sl33:Array (Option Value)} {oc33 kV33 dc33 pm33 cd33 ct33:Value}
    {f34:Addr} {od34 an34:Option Addr} {sl34:Array (Option Value)} {oc34 kV34 dc34 pm34 cd34 ct34:Value}
    {f35:Addr} {od35 an35:Option Addr} {sl35:Array (Option Value)} {oc35 kV35 dc35 pm35 cd35 ct35:Value}
    {f36:Addr} {od36 an36:Option Addr} {sl36:Array (Option Value)} {oc36 kV36 dc36 pm36 cd36 ct36:Value}
    {f37:Addr} {od37 an37:Option Addr} {sl37:Array (Option Value)} {oc37 kV37 dc37 pm37 cd37 ct37:Value}
    {f38:Addr} {od38 an38:Option Addr} {sl38:Array (Option Value)} {oc38 kV38 dc38 pm38 cd38 ct38:Value}
    {f39:Addr} {od39 an39:Option Addr} {sl39:Array (Option Value)} {oc39 kV39 dc39 pm39 cd39 ct39:Value}
    {f40:Addr} {od40 an40:Option Addr} {sl40:Array (Option Value)} {oc40 kV40 dc40 pm40 cd40 ct40:Value}
    {f41:Addr} {od41 an41:Option Addr} {sl41:Array (Option Value)} {oc41 kV41 dc41 pm41 cd41 ct41:Value}
    {f42:Addr} {od42 an42:Option Addr} {sl42:Array (Option Value)} {oc42 kV42 dc42 pm42 cd42 ct42:Value}
    {f43:Addr} {od43 an43:Option Addr} {sl43:Array (Option Value)} {oc43 kV43 dc43 pm43 cd43 ct43:Value}
    {f44:Addr} {od44 an44:Option Addr} {sl44:Array (Option Value)} {oc44 kV44 dc44 pm44 cd44 ct44:Value}
    {f45:Addr} {od45 an45:Option Addr} {sl45:Array (Option Value)} {oc45 kV45 dc45 pm45 cd45 ct45:Value}
    {f46:Addr} {od46 an46:Option Addr} {sl46:Array (Option Value)} {oc46 kV46 dc46 pm46 cd46 ct46:Value}
    {f47:Addr} {od47 an47:Option Addr} {sl47:Array (Option Value)} {oc47 kV47 dc47 pm47 cd47 ct47:Value}
    {f48:Addr} {od48 an48:Option Addr} {sl48:Array (Option Value)} {oc48 kV48 dc48 pm48 cd48 ct48:Value}
    {f49:Addr} {od49 an49:Option Addr} {sl49:Array (Option Value)} {oc49 kV49 dc49 pm49 cd49 ct49:Value}
    {f50:Addr} {od50 an50:Option Addr} {sl50:Array (Option Value)} {oc50 kV50 dc50 pm50 cd50 ct50:Value}
    {f51:Addr} {od51 an51:Option Addr} {sl51:Array (Option Value)} {oc51 kV51 dc51 pm51 cd51 ct51:Value}
    {C_WordReader:Addr}
    {C_Boards:Addr}
    {X_Stopped:Addr}
    {X_Lost:Addr}
    {X_StemError:Addr}
    {X_NoBoards:Addr}
    {X_NoThing:Addr}
    {X_NoHouse:Addr}
    {t_SIGNS:Tok}
    {t_MOST_NUMBER:Tok}
    {t_MOST_SIGNS:Tok}
    {t_MOST_PARTS:Tok}
    {t_MOST_DEEP:Tok}
    {t_NUMBER_WORD:Tok}
    {t_TEXT_WORD:Tok}
    {t_TUPLE_WORD:Tok}
    {t_PIECE:Tok}
    {t_ROW:Tok}
    {t_FOLDER:Tok}
    {t_FILE_ENTRY:Tok}
    {t_FOLDER_ENTRY:Tok}
    {t_NAME_SIGNS:Tok}
    {t_MOST_NAME_SIGNS:Tok}
    {t_MOST_CELL:Tok}
    {t_MOST_BIRTH:Tok}
    {t_SUM_RESTS:Tok}
    {t_MOST_PIECE_SIGNS:Tok}
    {t_MOST_LEVEL:Tok}
    {t_MOST_TAGS:Tok}
    {t_MOST_ENTRIES:Tok}
    {t_MARK_RESTS:Tok}
    {t_LEAST_BOARDS:Tok}
    {t_MOST_BOARDS:Tok}
    (a0:PySem.W.nsIn K mainGlobals "is_whole" = some (some (.ref f0))) (l0:K.lookup f0 = some ⟨oc0,od0,.func (PySem.W.fnOf "is_whole" "is_whole" (defArgs s_is_whole) (defBody s_is_whole) (defScope s_is_whole) .none kV0 dc0 pm0 an0 cd0 ct0),sl0⟩) (c0:PySem.W.codeIn K cd0 "is_whole" = true) (k0:PySem.W.keepIn K (.ref f0) = true)
    (a1:PySem.W.nsIn K mainGlobals "is_between" = some (some (.ref f1))) (l1:K.lookup f1 = some ⟨oc1,od1,.func (PySem.W.fnOf "is_between" "is_between" (defArgs s_is_between) (defBody s_is_between) (defScope s_is_between) .none kV1 dc1 pm1 an1 cd1 ct1),sl1⟩) (c1:PySem.W.codeIn K cd1 "is_between" = true) (k1:PySem.W.keepIn K (.ref f1) = true)
    (a2:PySem.W.nsIn K mainGlobals "is_tuple_of" = some (some (.ref f2))) (l2:K.lookup f2 = some ⟨oc2,od2,.func (PySem.W.fnOf "is_tuple_of" "is_tuple_of" (defArgs s_is_tuple_of) (defBody s_is_tuple_of) (defScope s_is_tuple_of) .none kV2 dc2 pm2 an2 cd2 ct2),sl2⟩) (c2:PySem.W.codeIn K cd2 "is_tuple_of" = true) (k2:PySem.W.keepIn K (.ref f2) = true)
    (a3:PySem.W.nsIn K mainGlobals "number_of" = some (some (.ref f3))) (l3:K.lookup f3 = some ⟨oc3,od3,.func (PySem.W.fnOf "number_of" "number_of" (defArgs s_number_of) (defBody s_number_of) (defScope s_number_of) .none kV3 dc3 pm3 an3 cd3 ct3),sl3⟩) (c3:PySem.W.codeIn K cd3 "number_of" = true) (k3:PySem.W.keepIn K (.ref f3) = true)
    (a4:PySem.W.nsIn K mainGlobals "sign_of" = some (some (.ref f4))) (l4:K.lookup f4 = some ⟨oc4,od4,.func (PySem.W.fnOf "sign_of" "sign_of" (defArgs s_sign_of) (defBody s_sign_of) (defScope s_sign_of) .none kV4 dc4 pm4 an4 cd4 ct4),sl4⟩) (c4:PySem.W.codeIn K cd4 "sign_of" = true) (k4:PySem.W.keepIn K (.ref f4) = true)
    (a5:PySem.W.nsIn K mainGlobals "is_text" = some (some (.ref f5))) (l5:K.lookup f5 = some ⟨oc5,od5,.func (PySem.W.fnOf "is_text" "is_text" (defArgs s_is_text) (defBody s_is_text) (defScope s_is_text) .none kV5 dc5 pm5 an5 cd5 ct5),sl5⟩) (c5:PySem.W.codeIn K cd5 "is_text" = true) (k5:PySem.W.keepIn K (.ref f5) = true)
    (a6:PySem.W.findIn K (.ref X_Lost) "__init__" = some (some (.ref f6))) (i6:PySem.W.isFn K (.ref f6) = true) (l6:K.lookup f6 = some ⟨oc6,od6,.func (PySem.W.fnOf "__init__" "Lost.__init__" (defArgs s_Lost_init) (defBody s_Lost_init) (defScope s_Lost_init) .none kV6 dc6 pm6 an6 cd6 ct6),sl6⟩) (c6:PySem.W.codeIn K cd6 "Lost.__init__" = true) (k6:PySem.W.keepIn K (.ref f6) = true)
    (a7:PySem.W.nsIn K mainGlobals "words_of" = some (some (.ref f7))) (l7:K.lookup f7 = some ⟨oc7,od7,.func (PySem.W.fnOf "words_of" "words_of" (defArgs s_words_of) (defBody s_words_of) (defScope s_words_of) .none kV7 dc7 pm7 an7 cd7 ct7),sl7⟩) (c7:PySem.W.codeIn K cd7 "words_of" = true) (k7:PySem.W.keepIn K (.ref f7) = true)
    (a8:PySem.W.nsIn K mainGlobals "thing_of" = some (some (.ref f8))) (l8:K.lookup f8 = some ⟨oc8,od8,.func (PySem.W.fnOf "thing_of" "thing_of" (defArgs s_thing_of) (defBody s_thing_of) (defScope s_thing_of) .none kV8 dc8 pm8 an8 cd8 ct8),sl8⟩) (c8:PySem.W.codeIn K cd8 "thing_of" = true) (k8:PySem.W.keepIn K (.ref f8) = true)
    (a9:PySem.W.findIn K (.ref C_WordReader) "__init__" = some (some (.ref f9))) (i9:PySem.W.isFn K (.ref f9) = true) (l9:K.lookup f9 = some ⟨oc9,od9,.func (PySem.W.fnOf "__init__" "WordReader.__init__" (defArgs s_WordReader_init) (defBody s_WordReader_init) (defScope s_WordReader_init) .none kV9 dc9 pm9 an9 cd9 ct9),sl9⟩) (c9:PySem.W.codeIn K cd9 "WordReader.__init__" = true) (k9:PySem.W.keepIn K (.ref f9) = true)
    (a10:PySem.W.findIn K (.ref C_WordReader) "is_through" = some (some (.ref f10))) (i10:PySem.W.isFn K (.ref f10) = true) (l10:K.lookup f10 = some ⟨oc10,od10,.func (PySem.W.fnOf "is_through" "WordReader.is_through" (defArgs s_WordReader_is_through) (defBody s_WordReader_is_through) (defScope s_WordReader_is_through) .none kV10 dc10 pm10 an10 cd10 ct10),sl10⟩) (c10:PySem.W.codeIn K cd10 "WordReader.is_through" = true) (k10:PySem.W.keepIn K (.ref f10) = true)
    (a11:PySem.W.findIn K (.ref C_WordReader) "word_to" = some (some (.ref f11))) (i11:PySem.W.isFn K (.ref f11) = true) (l11:K.lookup f11 = some ⟨oc11,od11,.func (PySem.W.fnOf "word_to" "WordReader.word_to" (defArgs s_WordReader_word_to) (defBody s_WordReader_word_to) (defScope s_WordReader_word_to) .none kV11 dc11 pm11 an11 cd11 ct11),sl11⟩) (c11:PySem.W.codeIn K cd11 "WordReader.word_to" = true) (k11:PySem.W.keepIn K (.ref f11) = true)
    (a12:PySem.W.nsIn K mainGlobals "read_thing" = some (some (.ref f12))) (l12:K.lookup f12 = some ⟨oc12,od12,.func (PySem.W.fnOf "read_thing" "read_thing" (defArgs s_read_thing) (defBody s_read_thing) (defScope s_read_thing) .none kV12 dc12 pm12 an12 cd12 ct12),sl12⟩) (c12:PySem.W.codeIn K cd12 "read_thing" = true) (k12:PySem.W.keepIn K (.ref f12) = true)
    (a13:PySem.W.nsIn K mainGlobals "read_text" = some (some (.ref f13))) (l13:K.lookup f13 = some ⟨oc13,od13,.func (PySem.W.fnOf "read_text" "read_text" (defArgs s_read_text) (defBody s_read_text) (defScope s_read_text) .none kV13 dc13 pm13 an13 cd13 ct13),sl13⟩) (c13:PySem.W.codeIn K cd13 "read_text" = true) (k13:PySem.W.keepIn K (.ref f13) = true)
    (a14:PySem.W.nsIn K mainGlobals "is_name" = some (some (.ref f14))) (l14:K.lookup f14 = some ⟨oc14,od14,.func (PySem.W.fnOf "is_name" "is_name" (defArgs s_is_name) (defBody s_is_name) (defScope s_is_name) .none kV14 dc14 pm14 an14 cd14 ct14),sl14⟩) (c14:PySem.W.codeIn K cd14 "is_name" = true) (k14:PySem.W.keepIn K (.ref f14) = true)
    (a15:PySem.W.nsIn K mainGlobals "is_tag" = some (some (.ref f15))) (l15:K.lookup f15 = some ⟨oc15,od15,.func (PySem.W.fnOf "is_tag" "is_tag" (defArgs s_is_tag) (defBody s_is_tag) (defScope s_is_tag) .none kV15 dc15 pm15 an15 cd15 ct15),sl15⟩) (c15:PySem.W.codeIn K cd15 "is_tag" = true) (k15:PySem.W.keepIn K (.ref f15) = true)
    (a16:PySem.W.nsIn K mainGlobals "is_block" = some (some (.ref f16))) (l16:K.lookup f16 = some ⟨oc16,od16,.func (PySem.W.fnOf "is_block" "is_block" (defArgs s_is_block) (defBody s_is_block) (defScope s_is_block) .none kV16 dc16 pm16 an16 cd16 ct16),sl16⟩) (c16:PySem.W.codeIn K cd16 "is_block" = true) (k16:PySem.W.keepIn K (.ref f16) = true)
    (a17:PySem.W.nsIn K mainGlobals "are_row_tags" = some (some (.ref f17))) (l17:K.lookup f17 = some ⟨oc17,od17,.func (PySem.W.fnOf "are_row_tags" "are_row_tags" (defArgs s_are_row_tags) (defBody s_are_row_tags) (defScope s_are_row_tags) .none kV17 dc17 pm17 an17 cd17 ct17),sl17⟩) (c17:PySem.W.codeIn K cd17 "are_row_tags" = true) (k17:PySem.W.keepIn K (.ref f17) = true)
    (a18:PySem.W.nsIn K mainGlobals "are_entries" = some (some (.ref f18))) (l18:K.lookup f18 = some ⟨oc18,od18,.func (PySem.W.fnOf "are_entries" "are_entries" (defArgs s_are_entries) (defBody s_are_entries) (defScope s_are_entries) .none kV18 dc18 pm18 an18 cd18 ct18),sl18⟩) (c18:PySem.W.codeIn K cd18 "are_entries" = true) (k18:PySem.W.keepIn K (.ref f18) = true)
    (a19:PySem.W.nsIn K mainGlobals "is_entry" = some (some (.ref f19))) (l19:K.lookup f19 = some ⟨oc19,od19,.func (PySem.W.fnOf "is_entry" "is_entry" (defArgs s_is_entry) (defBody s_is_entry) (defScope s_is_entry) .none kV19 dc19 pm19 an19 cd19 ct19),sl19⟩) (c19:PySem.W.codeIn K cd19 "is_entry" = true) (k19:PySem.W.keepIn K (.ref f19) = true)
    (a20:PySem.W.nsIn K mainGlobals "sum_of" = some (some (.ref f20))) (l20:K.lookup f20 = some ⟨oc20,od20,.func (PySem.W.fnOf "sum_of" "sum_of" (defArgs s_sum_of) (defBody s_sum_of) (defScope s_sum_of) .none kV20 dc20 pm20 an20 cd20 ct20),sl20⟩) (c20:PySem.W.codeIn K cd20 "sum_of" = true) (k20:PySem.W.keepIn K (.ref f20) = true)
    (a21:PySem.W.nsIn K mainGlobals "numbers_told" = some (some (.ref f21))) (l21:K.lookup f21 = some ⟨oc21,od21,.func (PySem.W.fnOf "numbers_told" "numbers_told" (defArgs s_numbers_told) (defBody s_numbers_told) (defScope s_numbers_told) .none kV21 dc21 pm21 an21 cd21 ct21),sl21⟩) (c21:PySem.W.codeIn K cd21 "numbers_told" = true) (k21:PySem.W.keepIn K (.ref f21) = true)
    (a22:PySem.W.nsIn K mainGlobals "mark_of" = some (some (.ref f22))) (l22:K.lookup f22 = some ⟨oc22,od22,.func (PySem.W.fnOf "mark_of" "mark_of" (defArgs s_mark_of) (defBody s_mark_of) (defScope s_mark_of) .none kV22 dc22 pm22 an22 cd22 ct22),sl22⟩) (c22:PySem.W.codeIn K cd22 "mark_of" = true) (k22:PySem.W.keepIn K (.ref f22) = true)
    (a23:PySem.W.nsIn K mainGlobals "sealed" = some (some (.ref f23))) (l23:K.lookup f23 = some ⟨oc23,od23,.func (PySem.W.fnOf "sealed" "sealed" (defArgs s_sealed) (defBody s_sealed) (defScope s_sealed) .none kV23 dc23 pm23 an23 cd23 ct23),sl23⟩) (c23:PySem.W.codeIn K cd23 "sealed" = true) (k23:PySem.W.keepIn K (.ref f23) = true)
    (a24:PySem.W.nsIn K mainGlobals "unsealed" = some (some (.ref f24))) (l24:K.lookup f24 = some ⟨oc24,od24,.func (PySem.W.fnOf "unsealed" "unsealed" (defArgs s_unsealed) (defBody s_unsealed) (defScope s_unsealed) .none kV24 dc24 pm24 an24 cd24 ct24),sl24⟩) (c24:PySem.W.codeIn K cd24 "unsealed" = true) (k24:PySem.W.keepIn K (.ref f24) = true)
    (a25:PySem.W.nsIn K mainGlobals "lay" = some (some (.ref f25))) (l25:K.lookup f25 = some ⟨oc25,od25,.func (PySem.W.fnOf "lay" "lay" (defArgs s_lay) (defBody s_lay) (defScope s_lay) .none kV25 dc25 pm25 an25 cd25 ct25),sl25⟩) (c25:PySem.W.codeIn K cd25 "lay" = true) (k25:PySem.W.keepIn K (.ref f25) = true)
    (a26:PySem.W.nsIn K mainGlobals "right_copies" = some (some (.ref f26))) (l26:K.lookup f26 = some ⟨oc26,od26,.func (PySem.W.fnOf "right_copies" "right_copies" (defArgs s_right_copies) (defBody s_right_copies) (defScope s_right_copies) .none kV26 dc26 pm26 an26 cd26 ct26),sl26⟩) (c26:PySem.W.codeIn K cd26 "right_copies" = true) (k26:PySem.W.keepIn K (.ref f26) = true)
    (a27:PySem.W.nsIn K mainGlobals "fetched" = some (some (.ref f27))) (l27:K.lookup f27 = some ⟨oc27,od27,.func (PySem.W.fnOf "fetched" "fetched" (defArgs s_fetched) (defBody s_fetched) (defScope s_fetched) .none kV27 dc27 pm27 an27 cd27 ct27),sl27⟩) (c27:PySem.W.codeIn K cd27 "fetched" = true) (k27:PySem.W.keepIn K (.ref f27) = true)
    (a28:PySem.W.nsIn K mainGlobals "block_on" = some (some (.ref f28))) (l28:K.lookup f28 = some ⟨oc28,od28,.func (PySem.W.fnOf "block_on" "block_on" (defArgs s_block_on) (defBody s_block_on) (defScope s_block_on) .none kV28 dc28 pm28 an28 cd28 ct28),sl28⟩) (c28:PySem.W.codeIn K cd28 "block_on" = true) (k28:PySem.W.keepIn K (.ref f28) = true)
    (a29:PySem.W.nsIn K mainGlobals "thing_on" = some (some (.ref f29))) (l29:K.lookup f29 = some ⟨oc29,od29,.func (PySem.W.fnOf "thing_on" "thing_on" (defArgs s_thing_on) (defBody s_thing_on) (defScope s_thing_on) .none kV29 dc29 pm29 an29 cd29 ct29),sl29⟩) (c29:PySem.W.codeIn K cd29 "thing_on" = true) (k29:PySem.W.keepIn K (.ref f29) = true)
    (a30:PySem.W.findIn K (.ref C_Boards) "__init__" = some (some (.ref f30))) (i30:PySem.W.isFn K (.ref f30) = true) (l30:K.lookup f30 = some ⟨oc30,od30,.func (PySem.W.fnOf "__init__" "Boards.__init__" (defArgs s_Boards_init) (defBody s_Boards_init) (defScope s_Boards_init) .none kV30 dc30 pm30 an30 cd30 ct30),sl30⟩) (c30:PySem.W.codeIn K cd30 "Boards.__init__" = true) (k30:PySem.W.keepIn K (.ref f30) = true)
    (a31:PySem.W.findIn K (.ref C_Boards) "many" = some (some (.ref f31))) (i31:PySem.W.isFn K (.ref f31) = true) (l31:K.lookup f31 = some ⟨oc31,od31,.func (PySem.W.fnOf "many" "Boards.many" (defArgs s_Boards_many) (defBody s_Boards_many) (defScope s_Boards_many) .none kV31 dc31 pm31 an31 cd31 ct31),sl31⟩) (c31:PySem.W.codeIn K cd31 "Boards.many" = true) (k31:PySem.W.keepIn K (.ref f31) = true)
    (a32:PySem.W.findIn K (.ref C_Boards) "write" = some (some (.ref f32))) (i32:PySem.W.isFn K (.ref f32) = true) (l32:K.lookup f32 = some ⟨oc32,od32,.func (PySem.W.fnOf "write" "Boards.write" (defArgs s_Boards_write) (defBody s_Boards_write) (defScope s_Boards_write) .none kV32 dc32 pm32 an32 cd32 ct32),sl32⟩) (c32:PySem.W.codeIn K cd32 "Boards.write" = true) (k32:PySem.W.keepIn K (.ref f32) = true)
    (a33:PySem.W.findIn K (.ref C_Boards) "cell" = some (some (.ref f33))) (i33:PySem.W.isFn K (.ref f33) = true) (l33:K.lookup f33 = some ⟨oc33,od33,.func (PySem.W.fnOf "cell" "Boards.cell" (defArgs s_Boards_cell) (defBody s_Boards_cell) (defScope s_Boards_cell) .none kV33 dc33 pm33 an33 cd33 ct33),sl33⟩) (c33:PySem.W.codeIn K cd33 "Boards.cell" = true) (k33:PySem.W.keepIn K (.ref f33) = true)
    (a34:PySem.W.findIn K (.ref C_Boards) "stop" = some (some (.ref f34))) (i34:PySem.W.isFn K (.ref f34) = true) (l34:K.lookup f34 = some ⟨oc34,od34,.func (PySem.W.fnOf "stop" "Boards.stop" (defArgs s_Boards_stop) (defBody s_Boards_stop) (defScope s_Boards_stop) .none kV34 dc34 pm34 an34 cd34 ct34),sl34⟩) (c34:PySem.W.codeIn K cd34 "Boards.stop" = true) (k34:PySem.W.keepIn K (.ref f34) = true)
    (a35:PySem.W.findIn K (.ref C_Boards) "written" = some (some (.ref f35))) (i35:PySem.W.isFn K (.ref f35) = true) (l35:K.lookup f35 = some ⟨oc35,od35,.func (PySem.W.fnOf "written" "Boards.written" (defArgs s_Boards_written) (defBody s_Boards_written) (defScope s_Boards_written) .none kV35 dc35 pm35 an35 cd35 ct35),sl35⟩) (c35:PySem.W.codeIn K cd35 "Boards.written" = true) (k35:PySem.W.keepIn K (.ref f35) = true)
    (a36:PySem.W.findIn K (.ref C_Boards) "twins" = some (some (.ref f36))) (i36:PySem.W.isFn K (.ref f36) = true) (l36:K.lookup f36 = some ⟨oc36,od36,.func (PySem.W.fnOf "twins" "Boards.twins" (defArgs s_Boards_twins) (defBody s_Boards_twins) (defScope s_Boards_twins) .none kV36 dc36 pm36 an36 cd36 ct36),sl36⟩) (c36:PySem.W.codeIn K cd36 "Boards.twins" = true) (k36:PySem.W.keepIn K (.ref f36) = true)
    (a37:PySem.W.findIn K (.ref C_Boards) "shelf" = some (some (.ref f37))) (i37:PySem.W.isFn K (.ref f37) = true) (l37:K.lookup f37 = some ⟨oc37,od37,.func (PySem.W.fnOf "shelf" "Boards.shelf" (defArgs s_Boards_shelf) (defBody s_Boards_shelf) (defScope s_Boards_shelf) .none kV37 dc37 pm37 an37 cd37 ct37),sl37⟩) (c37:PySem.W.codeIn K cd37 "Boards.shelf" = true) (k37:PySem.W.keepIn K (.ref f37) = true)
    (a38:PySem.W.nsIn K mainGlobals "_law_cell_at" = some (some (.ref f38))) (l38:K.lookup f38 = some ⟨oc38,od38,.func (PySem.W.fnOf "_law_cell_at" "_law_cell_at" (defArgs s__law_cell_at) (defBody s__law_cell_at) (defScope s__law_cell_at) .none kV38 dc38 pm38 an38 cd38 ct38),sl38⟩) (c38:PySem.W.codeIn K cd38 "_law_cell_at" = true) (k38:PySem.W.keepIn K (.ref f38) = true)
    (a39:PySem.W.nsIn K mainGlobals "_law_numbers" = some (some (.ref f39))) (l39:K.lookup f39 = some ⟨oc39,od39,.func (PySem.W.fnOf "_law_numbers" "_law_numbers" (defArgs s__law_numbers) (defBody s__law_numbers) (defScope s__law_numbers) .none kV39 dc39 pm39 an39 cd39 ct39),sl39⟩) (c39:PySem.W.codeIn K cd39 "_law_numbers" = true) (k39:PySem.W.keepIn K (.ref f39) = true)
    (a40:PySem.W.nsIn K mainGlobals "_law_signs" = some (some (.ref f40))) (l40:K.lookup f40 = some ⟨oc40,od40,.func (PySem.W.fnOf "_law_signs" "_law_signs" (defArgs s__law_signs) (defBody s__law_signs) (defScope s__law_signs) .none kV40 dc40 pm40 an40 cd40 ct40),sl40⟩) (c40:PySem.W.codeIn K cd40 "_law_signs" = true) (k40:PySem.W.keepIn K (.ref f40) = true)
    (a41:PySem.W.nsIn K mainGlobals "_law_words" = some (some (.ref f41))) (l41:K.lookup f41 = some ⟨oc41,od41,.func (PySem.W.fnOf "_law_words" "_law_words" (defArgs s__law_words) (defBody s__law_words) (defScope s__law_words) .none kV41 dc41 pm41 an41 cd41 ct41),sl41⟩) (c41:PySem.W.codeIn K cd41 "_law_words" = true) (k41:PySem.W.keepIn K (.ref f41) = true)
    (a42:PySem.W.nsIn K mainGlobals "_law_sealed" = some (some (.ref f42))) (l42:K.lookup f42 = some ⟨oc42,od42,.func (PySem.W.fnOf "_law_sealed" "_law_sealed" (defArgs s__law_sealed) (defBody s__law_sealed) (defScope s__law_sealed) .none kV42 dc42 pm42 an42 cd42 ct42),sl42⟩) (c42:PySem.W.codeIn K cd42 "_law_sealed" = true) (k42:PySem.W.keepIn K (.ref f42) = true)
    (a43:PySem.W.nsIn K mainGlobals "_law_tag" = some (some (.ref f43))) (l43:K.lookup f43 = some ⟨oc43,od43,.func (PySem.W.fnOf "_law_tag" "_law_tag" (defArgs s__law_tag) (defBody s__law_tag) (defScope s__law_tag) .none kV43 dc43 pm43 an43 cd43 ct43),sl43⟩) (c43:PySem.W.codeIn K cd43 "_law_tag" = true) (k43:PySem.W.keepIn K (.ref f43) = true)
    (a44:PySem.W.nsIn K mainGlobals "_law_name" = some (some (.ref f44))) (l44:K.lookup f44 = some ⟨oc44,od44,.func (PySem.W.fnOf "_law_name" "_law_name" (defArgs s__law_name) (defBody s__law_name) (defScope s__law_name) .none kV44 dc44 pm44 an44 cd44 ct44),sl44⟩) (c44:PySem.W.codeIn K cd44 "_law_name" = true) (k44:PySem.W.keepIn K (.ref f44) = true)
    (a45:PySem.W.nsIn K mainGlobals "_law_block" = some (some (.ref f45))) (l45:K.lookup f45 = some ⟨oc45,od45,.func (PySem.W.fnOf "_law_block" "_law_block" (defArgs s__law_block) (defBody s__law_block) (defScope s__law_block) .none kV45 dc45 pm45 an45 cd45 ct45),sl45⟩) (c45:PySem.W.codeIn K cd45 "_law_block" = true) (k45:PySem.W.keepIn K (.ref f45) = true)
    (a46:PySem.W.nsIn K mainGlobals "_law_told" = some (some (.ref f46))) (l46:K.lookup f46 = some ⟨oc46,od46,.func (PySem.W.fnOf "_law_told" "_law_told" (defArgs s__law_told) (defBody s__law_told) (defScope s__law_told) .none kV46 dc46 pm46 an46 cd46 ct46),sl46⟩) (c46:PySem.W.codeIn K cd46 "_law_told" = true) (k46:PySem.W.keepIn K (.ref f46) = true)
    (a47:PySem.W.nsIn K mainGlobals "_law_sum" = some (some (.ref f47))) (l47:K.lookup f47 = some ⟨oc47,od47,.func (PySem.W.fnOf "_law_sum" "_law_sum" (defArgs s__law_sum) (defBody s__law_sum) (defScope s__law_sum) .none kV47 dc47 pm47 an47 cd47 ct47),sl47⟩) (c47:PySem.W.codeIn K cd47 "_law_sum" = true) (k47:PySem.W.keepIn K (.ref f47) = true)
    (a48:PySem.W.nsIn K mainGlobals "_law_laid" = some (some (.ref f48))) (l48:K.lookup f48 = some ⟨oc48,od48,.func (PySem.W.fnOf "_law_laid" "_law_laid" (defArgs s__law_laid) (defBody s__law_laid) (defScope s__law_laid) .none kV48 dc48 pm48 an48 cd48 ct48),sl48⟩) (c48:PySem.W.codeIn K cd48 "_law_laid" = true) (k48:PySem.W.keepIn K (.ref f48) = true)
    (a49:PySem.W.nsIn K mainGlobals "_law_told_of" = some (some (.ref f49))) (l49:K.lookup f49 = some ⟨oc49,od49,.func (PySem.W.fnOf "_law_told_of" "_law_told_of" (defArgs s__law_told_of) (defBody s__law_told_of) (defScope s__law_told_of) .none kV49 dc49 pm49 an49 cd49 ct49),sl49⟩) (c49:PySem.W.codeIn K cd49 "_law_told_of" = true) (k49:PySem.W.keepIn K (.ref f49) = true)
    (a50:PySem.W.nsIn K mainGlobals "_law_seen" = some (some (.ref f50))) (l50:K.lookup f50 = some ⟨oc50,od50,.func (PySem.W.fnOf "_law_seen" "_law_seen" (defArgs s__law_seen) (defBody s__law_seen) (defScope s__law_seen) .none kV50 dc50 pm50 an50 cd50 ct50),sl50⟩) (c50:PySem.W.codeIn K cd50 "_law_seen" = true) (k50:PySem.W.keepIn K (.ref f50) = true)
    (a51:PySem.W.nsIn K mainGlobals "law" = some (some (.ref f51))) (l51:K.lookup f51 = some ⟨oc51,od51,.func (PySem.W.fnOf "law" "law" (defArgs s_law) (defBody s_law) (defScope s_law) .none kV51 dc51 pm51 an51 cd51 ct51),sl51⟩) (c51:PySem.W.codeIn K cd51 "law" = true) (k51:PySem.W.keepIn K (.ref f51) = true)
    (aC_WordReader:PySem.W.nsIn K mainGlobals "WordReader" = some (some (.ref C_WordReader))) (pg_WordReader:PySem.W.plainGet K C_WordReader Str.empty = true) (hd_WordReader:PySem.W.hasDictIn K C_WordReader = true) (po_WordReader:PySem.W.plainOver K C_WordReader = true) (sa_WordReader:PySem.W.findIn K (.ref C_WordReader) "__setattr__" = some (some (.builtin "object.__setattr__"))) (mk_WordReader:PySem.W.makesIn K C_WordReader = true) (kc_WordReader:PySem.W.keepIn K (.ref C_WordReader) = true)
    (n_WordReader_words:PySem.W.findIn K (.ref C_WordReader) "words" = some none)
    (n_WordReader_place:PySem.W.findIn K (.ref C_WordReader) "place" = some none)
    (aC_Boards:PySem.W.nsIn K mainGlobals "Boards" = some (some (.ref C_Boards))) (pg_Boards:PySem.W.plainGet K C_Boards Str.empty = true) (hd_Boards:PySem.W.hasDictIn K C_Boards = true) (po_Boards:PySem.W.plainOver K C_Boards = true) (sa_Boards:PySem.W.findIn K (.ref C_Boards) "__setattr__" = some (some (.builtin "object.__setattr__"))) (mk_Boards:PySem.W.makesIn K C_Boards = true) (kc_Boards:PySem.W.keepIn K (.ref C_Boards) = true)
    (n_Boards_shelves:PySem.W.findIn K (.ref C_Boards) "shelves" = some none)
    (n_Boards_writes:PySem.W.findIn K (.ref C_Boards) "writes" = some none)
    (n_Boards_writes_left:PySem.W.findIn K (.ref C_Boards) "writes_left" = some none)
    (x_Stopped:PySem.W.nsIn K mainGlobals "Stopped" = some (some (.ref X_Stopped)))
    (x_Lost:PySem.W.nsIn K mainGlobals "Lost" = some (some (.ref X_Lost)))
    (x_StemError:PySem.W.nsIn K mainGlobals "StemError" = some (some (.ref X_StemError)))
    (x_NoBoards:PySem.W.nsIn K mainGlobals "NoBoards" = some (some (.ref X_NoBoards)))
    (x_NoThing:PySem.W.nsIn K mainGlobals "NoThing" = some (some (.ref X_NoThing)))
    (x_NoHouse:PySem.W.nsIn K mainGlobals "NoHouse" = some (some (.ref X_NoHouse)))
    (q_Stopped:PySem.W.excIn K X_Stopped [.type "ValueError",.type "Exception",.type "BaseException",.type "object"] "ValueError.__new__" = true)
    (m_Stopped_StemError:PySem.W.exmOne K (.ref X_Stopped) (.ref X_StemError) = some true)
    (m_Lost_StemError:PySem.W.exmOne K (.ref X_Lost) (.ref X_StemError) = some true)
    (ga_Lost:PySem.W.findIn K (.ref X_Lost) "__getattribute__" = some (some (.builtin "BaseException.__getattribute__")))
    (gg_Lost:PySem.W.findIn K (.ref X_Lost) "__getattr__" = some none)
    (gc_Lost:PySem.W.findIn K (.ref X_Lost) "__class__" = some (some (.builtin "object.__class__")))
    (gs_Lost:PySem.W.specialIn K (.builtin "object.__class__") "__get__" = some (some (.builtin "getset_descriptor.__get__")))
    (gt_Lost:PySem.W.takesIn K (.builtin "object.__class__") = some true)
    (go_Lost:PySem.W.mroIn K X_Lost (.type "object") = some true)
    (gb_Lost:PySem.W.mroIn K X_Lost (.type "BaseException") = some true)
    (ga_Stopped:PySem.W.findIn K (.ref X_Stopped) "__getattribute__" = some (some (.builtin "BaseException.__getattribute__")))
    (gg_Stopped:PySem.W.findIn K (.ref X_Stopped) "__getattr__" = some none)
    (gc_Stopped:PySem.W.findIn K (.ref X_Stopped) "__class__" = some (some (.builtin "object.__class__")))
    (gs_Stopped:PySem.W.specialIn K (.builtin "object.__class__") "__get__" = some (some (.builtin "getset_descriptor.__get__")))
    (gt_Stopped:PySem.W.takesIn K (.builtin "object.__class__") = some true)
    (go_Stopped:PySem.W.mroIn K X_Stopped (.type "object") = some true)
    (gb_Stopped:PySem.W.mroIn K X_Stopped (.type "BaseException") = some true)
    (ei_Lost:exiIn K X_Lost = true)
    (ev_Lost:veIn K X_Lost = true)
    (es_Lost:PySem.W.findIn K (.ref X_Lost) "__setattr__" = some (some (.builtin "object.__setattr__")))
    (eh_Lost:PySem.W.hasDictIn K X_Lost = true)
    (ek_Lost:PySem.W.keepIn K (.ref X_Lost) = true)
    (en_Lost:PySem.W.findIn K (.ref X_Lost) "number" = some none)
    (k_Stopped_Stopped:PySem.W.kitOne K (.ref X_Stopped) (.ref X_Stopped) = some true)
    (k_Stopped_ValueError:PySem.W.kitOne K (.ref X_Stopped) (.type "ValueError") = some true)
    (k_Stopped_Lost:PySem.W.kitOne K (.ref X_Stopped) (.ref X_Lost) = some false)
    (k_Stopped_NoBoards:PySem.W.kitOne K (.ref X_Stopped) (.ref X_NoBoards) = some false)
    (k_Stopped_NoThing:PySem.W.kitOne K (.ref X_Stopped) (.ref X_NoThing) = some false)
    (k_Lost_Lost:PySem.W.kitOne K (.ref X_Lost) (.ref X_Lost) = some true)
    (k_Lost_ValueError:PySem.W.kitOne K (.ref X_Lost) (.type "ValueError") = some true)
    (k_Lost_Stopped:PySem.W.kitOne K (.ref X_Lost) (.ref X_Stopped) = some false)
    (k_Lost_NoHouse:PySem.W.kitOne K (.ref X_Lost) (.ref X_NoHouse) = some false)
    (k_Lost_NoThing:PySem.W.kitOne K (.ref X_Lost) (.ref X_NoThing) = some false)
    (z_ValueError:PySem.W.nsIn K mainGlobals "ValueError" = some none)
    (z_all:PySem.W.nsIn K mainGlobals "all" = some none)
    (z_bool:PySem.W.nsIn K mainGlobals "bool" = some none)
    (z_enumerate:PySem.W.nsIn K mainGlobals "enumerate" = some none)
    (z_int:PySem.W.nsIn K mainGlobals "int" = some none)
    (z_isinstance:PySem.W.nsIn K mainGlobals "isinstance" = some none)
    (z_len:PySem.W.nsIn K mainGlobals "len" = some none)
    (z_list:PySem.W.nsIn K mainGlobals "list" = some none)
    (z_max:PySem.W.nsIn K mainGlobals "max" = some none)
    (z_min:PySem.W.nsIn K mainGlobals "min" = some none)
    (z_range:PySem.W.nsIn K mainGlobals "range" = some none)
    (z_set:PySem.W.nsIn K mainGlobals "set" = some none)
    (z_sorted:PySem.W.nsIn K mainGlobals "sorted" = some none)
    (z_str:PySem.W.nsIn K mainGlobals "str" = some none)
    (z_sum:PySem.W.nsIn K mainGlobals "sum" = some none)
    (z_tuple:PySem.W.nsIn K mainGlobals "tuple" = some none)
    (w_SIGNS:PySem.W.nsIn K mainGlobals "SIGNS" = some (some (.str (PySem.Str.ofString " !\"#$&'()*+,-./0123456789:;<=>?@ABCDEFGHIJKLMNOPQRSTUVWXYZ[\\]^_`abcdefghijklmnopqrstuvwxyz{|}~") t_SIGNS)))
    (w_MOST_NUMBER:PySem.W.nsIn K mainGlobals "MOST_NUMBER" = some (some (.int 999999999 t_MOST_NUMBER)))
    (w_MOST_SIGNS:PySem.W.nsIn K mainGlobals "MOST_SIGNS" = some (some (.int 400 t_MOST_SIGNS)))
    (w_MOST_PARTS:PySem.W.nsIn K mainGlobals "MOST_PARTS" = some (some (.int 100 t_MOST_PARTS)))
    (w_MOST_DEEP:PySem.W.nsIn K mainGlobals "MOST_DEEP" = some (some (.int 8 t_MOST_DEEP)))
    (w_NUMBER_WORD:PySem.W.nsIn K mainGlobals "NUMBER_WORD" = some (some (.int 0 t_NUMBER_WORD)))
    (w_TEXT_WORD:PySem.W.nsIn K mainGlobals "TEXT_WORD" = some (some (.int 1 t_TEXT_WORD)))
    (w_TUPLE_WORD:PySem.W.nsIn K mainGlobals "TUPLE_WORD" = some (some (.int 2 t_TUPLE_WORD)))
    (w_PIECE:PySem.W.nsIn K mainGlobals "PIECE" = some (some (.int 0 t_PIECE)))
    (w_ROW:PySem.W.nsIn K mainGlobals "ROW" = some (some (.int 1 t_ROW)))
    (w_FOLDER:PySem.W.nsIn K mainGlobals "FOLDER" = some (some (.int 2 t_FOLDER)))
    (w_FILE_ENTRY:PySem.W.nsIn K mainGlobals "FILE_ENTRY" = some (some (.int 1 t_FILE_ENTRY)))
    (w_FOLDER_ENTRY:PySem.W.nsIn K mainGlobals "FOLDER_ENTRY" = some (some (.int 2 t_FOLDER_ENTRY)))
    (w_NAME_SIGNS:PySem.W.nsIn K mainGlobals "NAME_SIGNS" = some (some (.str (PySem.Str.ofString "0123456789abcdefghijklmnopqrstuvwxyz") t_NAME_SIGNS)))
    (w_MOST_NAME_SIGNS:PySem.W.nsIn K mainGlobals "MOST_NAME_SIGNS" = some (some (.int 8 t_MOST_NAME_SIGNS)))
    (w_MOST_CELL:PySem.W.nsIn K mainGlobals "MOST_CELL" = some (some (.int 999999 t_MOST_CELL)))
    (w_MOST_BIRTH:PySem.W.nsIn K mainGlobals "MOST_BIRTH" = some (some (.int 999999999 t_MOST_BIRTH)))
    (w_SUM_RESTS:PySem.W.nsIn K mainGlobals "SUM_RESTS" = some (some (.int 997 t_SUM_RESTS)))
    (w_MOST_PIECE_SIGNS:PySem.W.nsIn K mainGlobals "MOST_PIECE_SIGNS" = some (some (.int 8 t_MOST_PIECE_SIGNS)))
    (w_MOST_LEVEL:PySem.W.nsIn K mainGlobals "MOST_LEVEL" = some (some (.int 9 t_MOST_LEVEL)))
    (w_MOST_TAGS:PySem.W.nsIn K mainGlobals "MOST_TAGS" = some (some (.int 8 t_MOST_TAGS)))
    (w_MOST_ENTRIES:PySem.W.nsIn K mainGlobals "MOST_ENTRIES" = some (some (.int 16 t_MOST_ENTRIES)))
    (w_MARK_RESTS:PySem.W.nsIn K mainGlobals "MARK_RESTS" = some (some (.int 2147483647 t_MARK_RESTS)))
    (w_LEAST_BOARDS:PySem.W.nsIn K mainGlobals "LEAST_BOARDS" = some (some (.int 2 t_LEAST_BOARDS)))
    (w_MOST_BOARDS:PySem.W.nsIn K mainGlobals "MOST_BOARDS" = some (some (.int 4 t_MOST_BOARDS))) :
    ∃ fd:FuncData,(∀ (s:Shared) (v:Value),BindsTo s fd ⟨[v],[]⟩ [("_law_script",v)])∧∀ base:Heap,K.In base→base.Ns mainGlobals mg→FnOk l.prog w K mg base CX0 19 fa fd ["_law_script"] (sp_law K):=by
  have e:=hfa.symm.trans (PySem.W.mg_of X G a51)
  cases e
  have T:Txt K mg C_WordReader C_Boards (fun n=>match n with | 0=>X_Stopped | 1=>X_Lost | 2=>X_StemError | 3=>X_NoBoards | 4=>X_NoThing | 5=>X_NoHouse | _=>0):=⟨⟨pg_WordReader,hd_WordReader,po_WordReader,sa_WordReader⟩,n_WordReader_words,n_WordReader_place,⟨pg_Boards,hd_Boards,po_Boards,sa_Boards⟩,n_Boards_shelves,n_Boards_writes,n_Boards_writes_left,PySem.W.mg_of X G x_Stopped,PySem.W.mg_of X G x_Lost,PySem.W.mg_of X G x_StemError,PySem.W.mg_of X G x_NoBoards,PySem.W.mg_of X G x_NoThing,PySem.W.mg_of X G x_NoHouse,q_Stopped,m_Stopped_StemError,m_Lost_StemError,⟨ga_Stopped,gg_Stopped,gc_Stopped,gs_Stopped,gt_Stopped,go_Stopped,gb_Stopped⟩,⟨⟨ga_Lost,gg_Lost,gc_Lost,gs_Lost,gt_Lost,go_Lost,gb_Lost⟩,es_Lost,ev_Lost,eh_Lost⟩,en_Lost,k_Stopped_Stopped,k_Stopped_ValueError,k_Stopped_Lost,k_Stopped_NoBoards,k_Stopped_NoThing,k_Lost_Lost,k_Lost_ValueError,k_Lost_Stopped,k_Lost_NoHouse,k_Lost_NoThing,PySem.W.mg_none_of X G z_ValueError,PySem.W.mg_none_of X G z_all,PySem.W.mg_none_of X G z_bool,PySem.W.mg_none_of X G z_enumerate,PySem.W.mg_none_of X G z_int,PySem.W.mg_none_of X G z_isinstance,PySem.W.mg_none_of X G z_len,PySem.W.mg_none_of X G z_list,PySem.W.mg_none_of X G z_max,PySem.W.mg_none_of X G z_min,PySem.W.mg_none_of X G z_range,PySem.W.mg_none_of X G z_set,PySem.W.mg_none_of X G z_sorted,PySem.W.mg_none_of X G z_str,PySem.W.mg_none_of X G z_sum,PySem.W.mg_none_of X G z_tuple,⟨_,PySem.W.mg_of X G w_SIGNS⟩,⟨_,PySem.W.mg_of X G w_MOST_NUMBER⟩,⟨_,PySem.W.mg_of X G w_MOST_SIGNS⟩,⟨_,PySem.W.mg_of X G w_MOST_PARTS⟩,⟨_,PySem.W.mg_of X G w_MOST_DEEP⟩,⟨_,PySem.W.mg_of X G w_NUMBER_WORD⟩,⟨_,PySem.W.mg_of X G w_TEXT_WORD⟩,⟨_,PySem.W.mg_of X G w_TUPLE_WORD⟩,⟨_,PySem.W.mg_of X G w_PIECE⟩,⟨_,PySem.W.mg_of X G w_ROW⟩,⟨_,PySem.W.mg_of X G w_FOLDER⟩,⟨_,PySem.W.mg_of X G w_FILE_ENTRY⟩,⟨_,PySem.W.mg_of X G w_FOLDER_ENTRY⟩,⟨_,PySem.W.mg_of X G w_NAME_SIGNS⟩,⟨_,PySem.W.mg_of X G w_MOST_NAME_SIGNS⟩,⟨_,PySem.W.mg_of X G w_MOST_CELL⟩,⟨_,PySem.W.mg_of X G w_MOST_BIRTH⟩,⟨_,PySem.W.mg_of X G w_SUM_RESTS⟩,⟨_,PySem.W.mg_of X G w_MOST_PIECE_SIGNS⟩,⟨_,PySem.W.mg_of X G w_MOST_LEVEL⟩,⟨_,PySem.W.mg_of X G w_MOST_TAGS⟩,⟨_,PySem.W.mg_of X G w_MOST_ENTRIES⟩,⟨_,PySem.W.mg_of X G w_MARK_RESTS⟩,⟨_,PySem.W.mg_of X G w_LEAST_BOARDS⟩,⟨_,PySem.W.mg_of X G w_MOST_BOARDS⟩⟩
  have F0:=fun_mk (st:=s_is_whole) l0 c0 k0
  have b0:=F0.binds (ps:=["thing"]) fun _ _ _ _ _ _ us hl=>match us,hl with | [_],_=>rfl
  have F1:=fun_mk (st:=s_is_between) l1 c1 k1
  have b1:=F1.binds (ps:=["thing","least","most"]) fun _ _ _ _ _ _ us hl=>match us,hl with | [_,_,_],_=>rfl
  have F2:=fun_mk (st:=s_is_tuple_of) l2 c2 k2
  have b2:=F2.binds (ps:=["thing","many"]) fun _ _ _ _ _ _ us hl=>match us,hl with | [_,_],_=>rfl
  have F3:=fun_mk (st:=s_number_of) l3 c3 k3
  have b3:=F3.binds (ps:=["sign"]) fun _ _ _ _ _ _ us hl=>match us,hl with | [_],_=>rfl
  have F4:=fun_mk (st:=s_sign_of) l4 c4 k4
  have b4:=F4.binds (ps:=["number"]) fun _ _ _ _ _ _ us hl=>match us,hl with | [_],_=>rfl
  have F5:=fun_mk (st:=s_is_text) l5 c5 k5
  have b5:=F5.binds (ps:=["thing","least","most"]) fun _ _ _ _ _ _ us hl=>match us,hl with | [_,_,_],_=>rfl
  have F6:=fun_mk (st:=s_Lost_init) l6 c6 k6
  have b6:=F6.binds (ps:=["self","number"]) fun _ _ _ _ _ _ us hl=>match us,hl with | [_,_],_=>rfl
  have F7:=fun_mk (st:=s_words_of) l7 c7 k7
  have b7:=F7.binds (ps:=["thing"]) fun _ _ _ _ _ _ us hl=>match us,hl with | [_],_=>rfl
  have F8:=fun_mk (st:=s_thing_of) l8 c8 k8
  have b8:=F8.binds (ps:=["words"]) fun _ _ _ _ _ _ us hl=>match us,hl with | [_],_=>rfl
  have F9:=fun_mk (st:=s_WordReader_init) l9 c9 k9
  have b9:=F9.binds (ps:=["self","words"]) fun _ _ _ _ _ _ us hl=>match us,hl with | [_,_],_=>rfl
  have F10:=fun_mk (st:=s_WordReader_is_through) l10 c10 k10
  have b10:=F10.binds (ps:=["self"]) fun _ _ _ _ _ _ us hl=>match us,hl with | [_],_=>rfl
  have F11:=fun_mk (st:=s_WordReader_word_to) l11 c11 k11
  have b11:=F11.binds (ps:=["self","most"]) fun _ _ _ _ _ _ us hl=>match us,hl with | [_,_],_=>rfl
  have F12:=fun_mk (st:=s_read_thing) l12 c12 k12
  have b12:=F12.binds (ps:=["reader","deep"]) fun _ _ _ _ _ _ us hl=>match us,hl with | [_,_],_=>rfl
  have F13:=fun_mk (st:=s_read_text) l13 c13 k13
  have b13:=F13.binds (ps:=["reader"]) fun _ _ _ _ _ _ us hl=>match us,hl with | [_],_=>rfl
  have F14:=fun_mk (st:=s_is_name) l14 c14 k14
  have b14:=F14.binds (ps:=["thing"]) fun _ _ _ _ _ _ us hl=>match us,hl with | [_],_=>rfl
  have F15:=fun_mk (st:=s_is_tag) l15 c15 k15
  have b15:=F15.binds (ps:=["thing"]) fun _ _ _ _ _ _ us hl=>match us,hl with | [_],_=>rfl
  have F16:=fun_mk (st:=s_is_block) l16 c16 k16
  have b16:=F16.binds (ps:=["thing"]) fun _ _ _ _ _ _ us hl=>match us,hl with | [_],_=>rfl
  have F17:=fun_mk (st:=s_are_row_tags) l17 c17 k17
  have b17:=F17.binds (ps:=["thing","level"]) fun _ _ _ _ _ _ us hl=>match us,hl with | [_,_],_=>rfl
  have F18:=fun_mk (st:=s_are_entries) l18 c18 k18
  have b18:=F18.binds (ps:=["thing"]) fun _ _ _ _ _ _ us hl=>match us,hl with | [_],_=>rfl
  have F19:=fun_mk (st:=s_is_entry) l19 c19 k19
  have b19:=F19.binds (ps:=["thing"]) fun _ _ _ _ _ _ us hl=>match us,hl with | [_],_=>rfl
  have F20:=fun_mk (st:=s_sum_of) l20 c20 k20
  have b20:=F20.binds (ps:=["block"]) fun _ _ _ _ _ _ us hl=>match us,hl with | [_],_=>rfl
  have F21:=fun_mk (st:=s_numbers_told) l21 c21 k21
  have b21:=F21.binds (ps:=["block"]) fun _ _ _ _ _ _ us hl=>match us,hl with | [_],_=>rfl
  have F22:=fun_mk (st:=s_mark_of) l22 c22 k22
  have b22:=F22.binds (ps:=["words"]) fun _ _ _ _ _ _ us hl=>match us,hl with | [_],_=>rfl
  have F23:=fun_mk (st:=s_sealed) l23 c23 k23
  have b23:=F23.binds (ps:=["words"]) fun _ _ _ _ _ _ us hl=>match us,hl with | [_],_=>rfl
  have F24:=fun_mk (st:=s_unsealed) l24 c24 k24
  have b24:=F24.binds (ps:=["row"]) fun _ _ _ _ _ _ us hl=>match us,hl with | [_],_=>rfl
  have F25:=fun_mk (st:=s_lay) l25 c25 k25
  have b25:=F25.binds (ps:=["boards","number","birth","block"]) fun _ _ _ _ _ _ us hl=>match us,hl with | [_,_,_,_],_=>rfl
  have F26:=fun_mk (st:=s_right_copies) l26 c26 k26
  have b26:=F26.binds (ps:=["boards","tag"]) fun _ _ _ _ _ _ us hl=>match us,hl with | [_,_],_=>rfl
  have F27:=fun_mk (st:=s_fetched) l27 c27 k27
  have b27:=F27.binds (ps:=["boards","tag"]) fun _ _ _ _ _ _ us hl=>match us,hl with | [_,_],_=>rfl
  have F28:=fun_mk (st:=s_block_on) l28 c28 k28
  have b28:=F28.binds (ps:=["boards","board","tag"]) fun _ _ _ _ _ _ us hl=>match us,hl with | [_,_,_],_=>rfl
  have F29:=fun_mk (st:=s_thing_on) l29 c29 k29
  have b29:=F29.binds (ps:=["boards","board","number"]) fun _ _ _ _ _ _ us hl=>match us,hl with | [_,_,_],_=>rfl
  have F30:=fun_mk (st:=s_Boards_init) l30 c30 k30
  have b30:=F30.binds (ps:=["self","many"]) fun _ _ _ _ _ _ us hl=>match us,hl with | [_,_],_=>rfl
  have F31:=fun_mk (st:=s_Boards_many) l31 c31 k31
  have b31:=F31.binds (ps:=["self"]) fun _ _ _ _ _ _ us hl=>match us,hl with | [_],_=>rfl
  have F32:=fun_mk (st:=s_Boards_write) l32 c32 k32
  have b32:=F32.binds (ps:=["self","board","number","row"]) fun _ _ _ _ _ _ us hl=>match us,hl with | [_,_,_,_],_=>rfl
  have F33:=fun_mk (st:=s_Boards_cell) l33 c33 k33
  have b33:=F33.binds (ps:=["self","board","number"]) fun _ _ _ _ _ _ us hl=>match us,hl with | [_,_,_],_=>rfl
  have F34:=fun_mk (st:=s_Boards_stop) l34 c34 k34
  have b34:=F34.binds (ps:=["self","many"]) fun _ _ _ _ _ _ us hl=>match us,hl with | [_,_],_=>rfl
  have F35:=fun_mk (st:=s_Boards_written) l35 c35 k35
  have b35:=F35.binds (ps:=["self"]) fun _ _ _ _ _ _ us hl=>match us,hl with | [_],_=>rfl
  have F36:=fun_mk (st:=s_Boards_twins) l36 c36 k36
  have b36:=F36.binds (ps:=["self","number"]) fun _ _ _ _ _ _ us hl=>match us,hl with | [_,_],_=>rfl
  have F37:=fun_mk (st:=s_Boards_shelf) l37 c37 k37
  have b37:=F37.binds (ps:=["self","board"]) fun _ _ _ _ _ _ us hl=>match us,hl with | [_,_],_=>rfl
  have F38:=fun_mk (st:=s__law_cell_at) l38 c38 k38
  have b38:=F38.binds (ps:=["_law_script","_law_k"]) fun _ _ _ _ _ _ us hl=>match us,hl with | [_,_],_=>rfl
  have F39:=fun_mk (st:=s__law_numbers) l39 c39 k39
  have b39:=F39.binds (ps:=["_law_cell","_law_many"]) fun _ _ _ _ _ _ us hl=>match us,hl with | [_,_],_=>rfl
  have F40:=fun_mk (st:=s__law_signs) l40 c40 k40
  have b40:=F40.binds (ps:=[]) fun _ _ _ _ _ _ us hl=>match us,hl with | [],_=>rfl
  have F41:=fun_mk (st:=s__law_words) l41 c41 k41
  have b41:=F41.binds (ps:=["_law_thing"]) fun _ _ _ _ _ _ us hl=>match us,hl with | [_],_=>rfl
  have F42:=fun_mk (st:=s__law_sealed) l42 c42 k42
  have b42:=F42.binds (ps:=["_law_words_here"]) fun _ _ _ _ _ _ us hl=>match us,hl with | [_],_=>rfl
  have F43:=fun_mk (st:=s__law_tag) l43 c43 k43
  have b43:=F43.binds (ps:=["_law_number"]) fun _ _ _ _ _ _ us hl=>match us,hl with | [_],_=>rfl
  have F44:=fun_mk (st:=s__law_name) l44 c44 k44
  have b44:=F44.binds (ps:=["_law_number"]) fun _ _ _ _ _ _ us hl=>match us,hl with | [_],_=>rfl
  have F45:=fun_mk (st:=s__law_block) l45 c45 k45
  have b45:=F45.binds (ps:=["_law_some"]) fun _ _ _ _ _ _ us hl=>match us,hl with | [_],_=>rfl
  have F46:=fun_mk (st:=s__law_told) l46 c46 k46
  have b46:=F46.binds (ps:=["_law_block_here"]) fun _ _ _ _ _ _ us hl=>match us,hl with | [_],_=>rfl
  have F47:=fun_mk (st:=s__law_sum) l47 c47 k47
  have b47:=F47.binds (ps:=["_law_block_here"]) fun _ _ _ _ _ _ us hl=>match us,hl with | [_],_=>rfl
  have F48:=fun_mk (st:=s__law_laid) l48 c48 k48
  have b48:=F48.binds (ps:=["_law_boards","_law_number","_law_birth","_law_block_here"]) fun _ _ _ _ _ _ us hl=>match us,hl with | [_,_,_,_],_=>rfl
  have F49:=fun_mk (st:=s__law_told_of) l49 c49 k49
  have b49:=F49.binds (ps:=["_law_boards","_law_tag_here"]) fun _ _ _ _ _ _ us hl=>match us,hl with | [_,_],_=>rfl
  have F50:=fun_mk (st:=s__law_seen) l50 c50 k50
  have b50:=F50.binds (ps:=["_law_boards","_law_tag_here","_law_row","_law_right","_law_block_here"]) fun _ _ _ _ _ _ us hl=>match us,hl with | [_,_,_,_,_],_=>rfl
  have F51:=fun_mk (st:=s_law) l51 c51 k51
  refine ⟨PySem.W.fnOf "law" "law" (defArgs s_law) (defBody s_law) (defScope s_law) .none kV51 dc51 pm51 an51 cd51 ct51,fun s v=>.of_eq rfl,fun base _ _=>?_⟩
  have D_is_whole:Def l.prog w K mg base 1 "is_whole" ["thing"] (sp_is_whole K):=⟨_,_,ok_is_whole T F0 ,PySem.W.mg_of X G a0,k0,b0⟩
  have D_is_tuple_of:Def l.prog w K mg base 1 "is_tuple_of" ["thing","many"] (sp_is_tuple_of K):=⟨_,_,ok_is_tuple_of T F2 ,PySem.W.mg_of X G a2,k2,b2⟩
  have D_number_of:Def l.prog w K mg base 1 "number_of" ["sign"] (sp_number_of K):=⟨_,_,ok_number_of T F3 ,PySem.W.mg_of X G a3,k3,b3⟩
  have D_sign_of:Def l.prog w K mg base 1 "sign_of" ["number"] (sp_sign_of K):=⟨_,_,ok_sign_of T F4 ,PySem.W.mg_of X G a4,k4,b4⟩
  have D_is_text:Def l.prog w K mg base 1 "is_text" ["thing","least","most"] (sp_is_text K):=⟨_,_,ok_is_text T F5 ,PySem.W.mg_of X G a5,k5,b5⟩
  have D_Lost_init:XDef l.prog w K mg base 1 "Lost" X_Lost "number" ["self","number"]:=⟨_,_,⟨ei_Lost,a6,i6,ek_Lost⟩,ok_Lost_init T F6,PySem.W.mg_of X G x_Lost,b6⟩
  have D_WordReader_init:CDef l.prog w K mg base 1 C_WordReader "WordReader" ["self","words"] (sp_WordReader_init K C_WordReader):=⟨_,_,ok_WordReader_init T F9 ,⟨mk_WordReader,a9,i9,kc_WordReader⟩,PySem.W.mg_of X G aC_WordReader,b9⟩
  have D_WordReader_is_through:MDef l.prog w K mg base 1 C_WordReader "is_through" ["self"] (sp_WordReader_is_through K C_WordReader):=⟨_,_,ok_WordReader_is_through T F10 ,⟨a10,i10,k10⟩,b10⟩
  have D_mark_of:Def l.prog w K mg base 1 "mark_of" ["words"] (sp_mark_of K):=⟨_,_,ok_mark_of T F22 ,PySem.W.mg_of X G a22,k22,b22⟩
  have D_Boards_many:MDef l.prog w K mg base 1 C_Boards "many" ["self"] (sp_Boards_many K C_Boards):=⟨_,_,ok_Boards_many T F31 ,⟨a31,i31,k31⟩,b31⟩
  have D_Boards_stop:MDef l.prog w K mg base 1 C_Boards "stop" ["self","many"] (sp_Boards_stop K C_Boards):=⟨_,_,ok_Boards_stop T F34 ,⟨a34,i34,k34⟩,b34⟩
  have D_Boards_written:MDef l.prog w K mg base 1 C_Boards "written" ["self"] (sp_Boards_written K C_Boards):=⟨_,_,ok_Boards_written T F35 ,⟨a35,i35,k35⟩,b35⟩
  have D__law_cell_at:Def l.prog w K mg base 1 "_law_cell_at" ["_law_script","_law_k"] (sp__law_cell_at K):=⟨_,_,ok__law_cell_at T F38 ,PySem.W.mg_of X G a38,k38,b38⟩
  have D__law_numbers:Def l.prog w K mg base 1 "_law_numbers" ["_law_cell","_law_many"] (sp__law_numbers K):=⟨_,_,ok__law_numbers T F39 ,PySem.W.mg_of X G a39,k39,b39⟩
  have D__law_signs:Def l.prog w K mg base 1 "_law_signs" [] (sp__law_signs K):=⟨_,_,ok__law_signs T F40 ,PySem.W.mg_of X G a40,k40,b40⟩
  have D__law_sealed:Def l.prog w K mg base 1 "_law_sealed" ["_law_words_here"] (sp__law_sealed K):=⟨_,_,ok__law_sealed T F42 ,PySem.W.mg_of X G a42,k42,b42⟩
  have D__law_tag:Def l.prog w K mg base 1 "_law_tag" ["_law_number"] (sp__law_tag K):=⟨_,_,ok__law_tag T F43 ,PySem.W.mg_of X G a43,k43,b43⟩
  have D__law_name:Def l.prog w K mg base 1 "_law_name" ["_law_number"] (sp__law_name K):=⟨_,_,ok__law_name T F44 ,PySem.W.mg_of X G a44,k44,b44⟩
  have D_is_between:Def l.prog w K mg base 2 "is_between" ["thing","least","most"] (sp_is_between K):=⟨_,_,ok_is_between T F1 D_is_whole,PySem.W.mg_of X G a1,k1,b1⟩
  have D_is_name:Def l.prog w K mg base 2 "is_name" ["thing"] (sp_is_name K):=⟨_,_,ok_is_name T F14 D_is_text,PySem.W.mg_of X G a14,k14,b14⟩
  have D_numbers_told:Def l.prog w K mg base 2 "numbers_told" ["block"] (sp_numbers_told K):=⟨_,_,ok_numbers_told T F21 D_number_of,PySem.W.mg_of X G a21,k21,b21⟩
  have D_sealed:Def l.prog w K mg base 2 "sealed" ["words"] (sp_sealed K):=⟨_,_,ok_sealed T F23 D_mark_of,PySem.W.mg_of X G a23,k23,b23⟩
  have D_Boards_twins:MDef l.prog w K mg base 2 C_Boards "twins" ["self","number"] (sp_Boards_twins K C_Boards):=⟨_,_,ok_Boards_twins T F36 D_Boards_many,⟨a36,i36,k36⟩,b36⟩
  have D__law_block:Def l.prog w K mg base 2 "_law_block" ["_law_some"] (sp__law_block K):=⟨_,_,ok__law_block T F45 D__law_name D__law_tag D__law_signs,PySem.W.mg_of X G a45,k45,b45⟩
  have D__law_told:Def l.prog w K mg base 2 "_law_told" ["_law_block_here"] (sp__law_told K):=⟨_,_,ok__law_told T F46 D__law_signs,PySem.W.mg_of X G a46,k46,b46⟩
  have D_WordReader_word_to:MDef l.prog w K mg base 3 C_WordReader "word_to" ["self","most"] (sp_WordReader_word_to K C_WordReader):=⟨_,_,ok_WordReader_word_to T F11 D_WordReader_is_through D_is_between,⟨a11,i11,k11⟩,b11⟩
  have D_is_tag:Def l.prog w K mg base 3 "is_tag" ["thing"] (sp_is_tag K):=⟨_,_,ok_is_tag T F15 D_is_between D_is_tuple_of,PySem.W.mg_of X G a15,k15,b15⟩
  have D_sum_of:Def l.prog w K mg base 3 "sum_of" ["block"] (sp_sum_of K):=⟨_,_,ok_sum_of T F20 D_numbers_told,PySem.W.mg_of X G a20,k20,b20⟩
  have D_unsealed:Def l.prog w K mg base 3 "unsealed" ["row"] (sp_unsealed K):=⟨_,_,ok_unsealed T F24 D_mark_of D_is_between,PySem.W.mg_of X G a24,k24,b24⟩
  have D_Boards_init:CDef l.prog w K mg base 3 C_Boards "Boards" ["self","many"] (sp_Boards_init K C_Boards):=⟨_,_,ok_Boards_init T F30 D_is_between,⟨mk_Boards,a30,i30,kc_Boards⟩,PySem.W.mg_of X G aC_Boards,b30⟩
  have D_Boards_shelf:MDef l.prog w K mg base 3 C_Boards "shelf" ["self","board"] (sp_Boards_shelf K C_Boards):=⟨_,_,ok_Boards_shelf T F37 D_is_between D_Boards_many,⟨a37,i37,k37⟩,b37⟩
  have D__law_sum:Def l.prog w K mg base 3 "_law_sum" ["_law_block_here"] (sp__law_sum K):=⟨_,_,ok__law_sum T F47 D__law_told,PySem.W.mg_of X G a47,k47,b47⟩
  have D_read_text:Def l.prog w K mg base 4 "read_text" ["reader"] (sp_read_text K C_WordReader):=⟨_,_,ok_read_text T F13 D_WordReader_word_to D_sign_of,PySem.W.mg_of X G a13,k13,b13⟩
  have D_are_row_tags:Def l.prog w K mg base 4 "are_row_tags" ["thing","level"] (sp_are_row_tags K):=⟨_,_,ok_are_row_tags T F17 D_is_tag,PySem.W.mg_of X G a17,k17,b17⟩
  have D_is_entry:Def l.prog w K mg base 4 "is_entry" ["thing"] (sp_is_entry K):=⟨_,_,ok_is_entry T F19 D_is_between D_is_tag D_is_tuple_of D_is_name,PySem.W.mg_of X G a19,k19,b19⟩
  have D_Boards_write:MDefX l.prog w K mg base 4 C_Boards "write" ["self","board","number","row"] (sp_Boards_write K C_Boards (fun n=>match n with | 0=>X_Stopped | 1=>X_Lost | 2=>X_StemError | 3=>X_NoBoards | 4=>X_NoThing | 5=>X_NoHouse | _=>0)):=⟨_,_,ok_Boards_write T F32 D_Boards_shelf,⟨a32,i32,k32⟩,b32⟩
  have D_Boards_cell:MDef l.prog w K mg base 4 C_Boards "cell" ["self","board","number"] (sp_Boards_cell K C_Boards):=⟨_,_,ok_Boards_cell T F33 D_Boards_shelf,⟨a33,i33,k33⟩,b33⟩
  have D_are_entries:Def l.prog w K mg base 5 "are_entries" ["thing"] (sp_are_entries K):=⟨_,_,ok_are_entries T F18 D_is_entry,PySem.W.mg_of X G a18,k18,b18⟩
  have D_is_block:Def l.prog w K mg base 6 "is_block" ["thing"] (sp_is_block K):=⟨_,_,ok_is_block T F16 D_are_entries D_is_whole D_is_text D_is_between D_are_row_tags,PySem.W.mg_of X G a16,k16,b16⟩
  have D_words_of:Def l.prog w K mg base 9 "words_of" ["thing"] (sp_words_of K):=⟨_,_,ok_words_of T F7 D_is_whole D_number_of (PySem.W.mg_of X G a7) k7 b7,PySem.W.mg_of X G a7,k7,b7⟩
  have D__law_words:Def l.prog w K mg base 9 "_law_words" ["_law_thing"] (sp__law_words K):=⟨_,_,ok__law_words T F41 D__law_signs (PySem.W.mg_of X G a41) k41 b41,PySem.W.mg_of X G a41,k41,b41⟩
  have D_lay:DefX l.prog w K mg base 10 "lay" ["boards","number","birth","block"] (sp_lay K C_Boards (fun n=>match n with | 0=>X_Stopped | 1=>X_Lost | 2=>X_StemError | 3=>X_NoBoards | 4=>X_NoThing | 5=>X_NoHouse | _=>0)):=⟨_,_,ok_lay T F25 D_sealed D_Boards_twins D_words_of D_Boards_write,PySem.W.mg_of X G a25,k25,b25⟩
  have D__law_laid:Def l.prog w K mg base 11 "_law_laid" ["_law_boards","_law_number","_law_birth","_law_block_here"] (sp__law_laid K C_Boards):=⟨_,_,ok__law_laid T F48 D_lay,PySem.W.mg_of X G a48,k48,b48⟩
  have D_read_thing:Def l.prog w K mg base 12 "read_thing" ["reader","deep"] (sp_read_thing K C_WordReader):=⟨_,_,ok_read_thing T F12 D_WordReader_word_to D_read_text (PySem.W.mg_of X G a12) k12 b12,PySem.W.mg_of X G a12,k12,b12⟩
  have D_thing_of:Def l.prog w K mg base 13 "thing_of" ["words"] (sp_thing_of K):=⟨_,_,ok_thing_of T F8 D_WordReader_init D_read_thing D_WordReader_is_through,PySem.W.mg_of X G a8,k8,b8⟩
  have D_thing_on:Def l.prog w K mg base 14 "thing_on" ["boards","board","number"] (sp_thing_on K C_Boards):=⟨_,_,ok_thing_on T F29 D_Boards_cell D_unsealed D_thing_of,PySem.W.mg_of X G a29,k29,b29⟩
  have D_block_on:Def l.prog w K mg base 15 "block_on" ["boards","board","tag"] (sp_block_on K C_Boards):=⟨_,_,ok_block_on T F28 D_thing_on D_is_tuple_of D_is_block D_sum_of,PySem.W.mg_of X G a28,k28,b28⟩
  have D_right_copies:Def l.prog w K mg base 16 "right_copies" ["boards","tag"] (sp_right_copies K C_Boards):=⟨_,_,ok_right_copies T F26 D_Boards_twins D_block_on,PySem.W.mg_of X G a26,k26,b26⟩
  have D_fetched:DefE l.prog w K mg base 16 "fetched" ["boards","tag"] (sp_fetched K C_Boards (fun n=>match n with | 0=>X_Stopped | 1=>X_Lost | 2=>X_StemError | 3=>X_NoBoards | 4=>X_NoThing | 5=>X_NoHouse | _=>0)):=⟨_,_,ok_fetched T F27 D_Boards_twins D_Lost_init D_block_on,PySem.W.mg_of X G a27,k27,b27⟩
  have D__law_told_of:Def l.prog w K mg base 17 "_law_told_of" ["_law_boards","_law_tag_here"] (sp__law_told_of K C_Boards):=⟨_,_,ok__law_told_of T F49 D_fetched,PySem.W.mg_of X G a49,k49,b49⟩
  have D__law_seen:Def l.prog w K mg base 18 "_law_seen" ["_law_boards","_law_tag_here","_law_row","_law_right","_law_block_here"] (sp__law_seen K C_Boards):=⟨_,_,ok__law_seen T F50 D_Boards_many D_right_copies D_Boards_cell D__law_told_of,PySem.W.mg_of X G a50,k50,b50⟩
  exact ok_law T F51 D_Boards_init D_Boards_many D__law_numbers D__law_block D__law_sealed D_Boards_written D_Boards_stop D__law_sum D__law_words D__law_laid D__law_seen D__law_cell_at
theorem walk {l:PySem.W.OpenLaw} {q:Program} {loose:List Str} {XP:(Str→Option Value)→Heap→Prop} {YP:World→Heap→Prop} {d:DefRec} {K:Params→PySem.W.Frag} (hn:l.most = some 63) (hdf:d.params.defaults = [])
    (hY:∀ (w:World) (h:Heap),YP w h→(K w.params).In h)
    (F:∀ (w:World) (mg:Str→Option Value) (fa:Addr) (h:Heap),(K w.params).In h→h.Ns mainGlobals mg→mg d.name = some (.ref fa)→
      ∃ fd:FuncData,(∀ (s:Shared) (u:Value),BindsTo s fd ⟨[u],[]⟩ [("_law_script",u)])∧∀ base:Heap,(K w.params).In base→base.Ns mainGlobals mg→FnOk l.prog w (K w.params) mg base CX0 19 fa fd ["_law_script"] (sp_law (K w.params))) :
    PySem.W.WalkO q loose XP YP l.row.toRowW d [] (fun f vs=>PySem.call f vs):=
  L2.walk_of (n:=63) (k:=19) (x:="_law_script") (CX:=fun _=>CX0) (sp:=fun w=>sp_law (K w.params)) hn (by decide) hdf ⟨rfl,by decide,by decide⟩ hY F (fun _ _ a ns hl _ hS=>⟨a,ns,rfl,hS,hl,fun _=>rfl⟩) fun _ _ _ _ _ z=>z
end K18
def PySem.W.Fast.tw90343872475197607 : Type := PySem.Params
theorem PySem.W.Fast.te90343872475197607 : PySem.Params = PySem.W.Fast.tw90343872475197607 := rfl
open PySem PySem.W PyProof.Rows
set_option maxRecDepth 100000 in
set_option maxHeartbeats 0 in
theorem PySem.Challenge.cw_stemshelf_k18_laid_in_turn_holds : PySem.Challenge.rw_stemshelf_k18_laid_in_turn.Holds := by
  w_on; o_law; k_head; (case hw=>w_witness2)
  k_fill
  refine K18.walk (l:=PySem.Challenge.rw_stemshelf_k18_laid_in_turn) rfl rfl (fun w h Y=>PySem.W.kIn_of Y) ?F
  case F=>
    intro w mg fa h KX G hmg
    refine' K18.all_mk KX G hmg ?a0 ?l0 ?c0 ?k0 ?a1 ?l1 ?c1 ?k1 ?a2 ?l2 ?c2 ?k2 ?a3 ?l3 ?c3 ?k3 ?a4 ?l4 ?c4 ?k4 ?a5 ?l5 ?c5 ?k5 ?a6 ?i6 ?l6 ?c6 ?k6 ?a7 ?l7 ?c7 ?k7 ?a8 ?l8 ?c8 ?k8 ?a9 ?i9 ?l9 ?c9 ?k9 ?a10 ?i10 ?l10 ?c10 ?k10 ?a11 ?i11 ?l11 ?c11 ?k11 ?a12 ?l12 ?c12 ?k12 ?a13 ?l13 ?c13 ?k13 ?a14 ?l14 ?c14 ?k14 ?a15 ?l15 ?c15 ?k15 ?a16 ?l16 ?c16 ?k16 ?a17 ?l17 ?c17 ?k17 ?a18 ?l18 ?c18 ?k18 ?a19 ?l19 ?c19 ?k19 ?a20 ?l20 ?c20 ?k20 ?a21 ?l21 ?c21 ?k21 ?a22 ?l22 ?c22 ?k22 ?a23 ?l23 ?c23 ?k23 ?a24 ?l24 ?c24 ?k24 ?a25 ?l25 ?c25 ?k25 ?a26 ?l26 ?c26 ?k26 ?a27 ?l27 ?c27 ?k27 ?a28 ?l28 ?c28 ?k28 ?a29 ?l29 ?c29 ?k29 ?a30 ?i30 ?l30 ?c30 ?k30 ?a31 ?i31 ?l31 ?c31 ?k31 ?a32 ?i32 ?l32 ?c32 ?k32 ?a33 ?i33 ?l33 ?c33 ?k33 ?a34 ?i34 ?l34 ?c34 ?k34 ?a35 ?i35 ?l35 ?c35 ?k35 ?a36 ?i36 ?l36 ?c36 ?k36 ?a37 ?i37 ?l37 ?c37 ?k37 ?a38 ?l38 ?c38 ?k38 ?a39 ?l39 ?c39 ?k39 ?a40 ?l40 ?c40 ?k40 ?a41 ?l41 ?c41 ?k41 ?a42 ?l42 ?c42 ?k42 ?a43 ?l43 ?c43 ?k43 ?a44 ?l44 ?c44 ?k44 ?a45 ?l45 ?c45 ?k45 ?a46 ?l46 ?c46 ?k46 ?a47 ?l47 ?c47 ?k47 ?a48 ?l48 ?c48 ?k48 ?a49 ?l49 ?c49 ?k49 ?a50 ?l50 ?c50 ?k50 ?a51 ?l51 ?c51 ?k51 ?aC_WordReader ?pg_WordReader ?hd_WordReader ?po_WordReader ?sa_WordReader ?mk_WordReader ?kc_WordReader ?n_WordReader_words ?n_WordReader_place ?aC_Boards ?pg_Boards ?hd_Boards ?po_Boards ?sa_Boards ?mk_Boards ?kc_Boards ?n_Boards_shelves ?n_Boards_writes ?n_Boards_writes_left ?x_Stopped ?x_Lost ?x_StemError ?x_NoBoards ?x_NoThing ?x_NoHouse ?q_Stopped ?m_Stopped_StemError ?m_Lost_StemError ?ga_Lost ?gg_Lost ?gc_Lost ?gs_Lost ?gt_Lost ?go_Lost ?gb_Lost ?ga_Stopped ?gg_Stopped ?gc_Stopped ?gs_Stopped ?gt_Stopped ?go_Stopped ?gb_Stopped ?ei_Lost ?ev_Lost ?es_Lost ?eh_Lost ?ek_Lost ?en_Lost ?k_Stopped_Stopped ?k_Stopped_ValueError ?k_Stopped_Lost ?k_Stopped_NoBoards ?k_Stopped_NoThing ?k_Lost_Lost ?k_Lost_ValueError ?k_Lost_Stopped ?k_Lost_NoHouse ?k_Lost_NoThing ?z_ValueError ?z_all ?z_bool ?z_enumerate ?z_int ?z_isinstance ?z_len ?z_list ?z_max ?z_min ?z_range ?z_set ?z_sorted ?z_str ?z_sum ?z_tuple ?w_SIGNS ?w_MOST_NUMBER ?w_MOST_SIGNS ?w_MOST_PARTS ?w_MOST_DEEP ?w_NUMBER_WORD ?w_TEXT_WORD ?w_TUPLE_WORD ?w_PIECE ?w_ROW ?w_FOLDER ?w_FILE_ENTRY ?w_FOLDER_ENTRY ?w_NAME_SIGNS ?w_MOST_NAME_SIGNS ?w_MOST_CELL ?w_MOST_BIRTH ?w_SUM_RESTS ?w_MOST_PIECE_SIGNS ?w_MOST_LEVEL ?w_MOST_TAGS ?w_MOST_ENTRIES ?w_MARK_RESTS ?w_LEAST_BOARDS ?w_MOST_BOARDS
    (case aC_WordReader=>k_is)
    (case aC_Boards=>k_is)
    (case x_Stopped=>k_is)
    (case x_Lost=>k_is)
    (case x_StemError=>k_is)
    (case x_NoBoards=>k_is)
    (case x_NoThing=>k_is)
    (case x_NoHouse=>k_is)
    (case a0=>k_is)
    (case l0=>k_is)
    (case c0=>k_is)
    (case k0=>k_is)
    (case a1=>k_is)
    (case l1=>k_is)
    (case c1=>k_is)
    (case k1=>k_is)
    (case a2=>k_is)
    (case l2=>k_is)
    (case c2=>k_is)
    (case k2=>k_is)
    (case a3=>k_is)
    (case l3=>k_is)
    (case c3=>k_is)
    (case k3=>k_is)
    (case a4=>k_is)
    (case l4=>k_is)
    (case c4=>k_is)
    (case k4=>k_is)
    (case a5=>k_is)
    (case l5=>k_is)
    (case c5=>k_is)
    (case k5=>k_is)
    (case a6=>k_is)
    (case i6=>k_is)
    (case l6=>k_is)
    (case c6=>k_is)
    (case k6=>k_is)
    (case a7=>k_is)
    (case l7=>k_is)
    (case c7=>k_is)
    (case k7=>k_is)
    (case a8=>k_is)
    (case l8=>k_is)
    (case c8=>k_is)
    (case k8=>k_is)
    (case a9=>k_is)
    (case i9=>k_is)
    (case l9=>k_is)
    (case c9=>k_is)
    (case k9=>k_is)
    (case a10=>k_is)
    (case i10=>k_is)
    (case l10=>k_is)
    (case c10=>k_is)
    (case k10=>k_is)
    (case a11=>k_is)
    (case i11=>k_is)
    (case l11=>k_is)
    (case c11=>k_is)
    (case k11=>k_is)
    (case a12=>k_is)
    (case l12=>k_is)
    (case c12=>k_is)
    (case k12=>k_is)
    (case a13=>k_is)
    (case l13=>k_is)
    (case c13=>k_is)
    (case k13=>k_is)
    (case a14=>k_is)
    (case l14=>k_is)
    (case c14=>k_is)
    (case k14=>k_is)
    (case a15=>k_is)
    (case l15=>k_is)
    (case c15=>k_is)
    (case k15=>k_is)
    (case a16=>k_is)
    (case l16=>k_is)
    (case c16=>k_is)
    (case k16=>k_is)
    (case a17=>k_is)
    (case l17=>k_is)
    (case c17=>k_is)
    (case k17=>k_is)
    (case a18=>k_is)
    (case l18=>k_is)
    (case c18=>k_is)
    (case k18=>k_is)
    (case a19=>k_is)
    (case l19=>k_is)
    (case c19=>k_is)
    (case k19=>k_is)
    (case a20=>k_is)
    (case l20=>k_is)
    (case c20=>k_is)
    (case k20=>k_is)
    (case a21=>k_is)
    (case l21=>k_is)
    (case c21=>k_is)
    (case k21=>k_is)
    (case a22=>k_is)
    (case l22=>k_is)
    (case c22=>k_is)
    (case k22=>k_is)
    (case a23=>k_is)
    (case l23=>k_is)
    (case c23=>k_is)
    (case k23=>k_is)
    (case a24=>k_is)
    (case l24=>k_is)
    (case c24=>k_is)
    (case k24=>k_is)
    (case a25=>k_is)
    (case l25=>k_is)
    (case c25=>k_is)
    (case k25=>k_is)
    (case a26=>k_is)
    (case l26=>k_is)
    (case c26=>k_is)
    (case k26=>k_is)
    (case a27=>k_is)
    (case l27=>k_is)
    (case c27=>k_is)
    (case k27=>k_is)
    (case a28=>k_is)
    (case l28=>k_is)
    (case c28=>k_is)
    (case k28=>k_is)
    (case a29=>k_is)
    (case l29=>k_is)
    (case c29=>k_is)
    (case k29=>k_is)
    (case a30=>k_is)
    (case i30=>k_is)
    (case l30=>k_is)
    (case c30=>k_is)
    (case k30=>k_is)
    (case a31=>k_is)
    (case i31=>k_is)
    (case l31=>k_is)
    (case c31=>k_is)
    (case k31=>k_is)
    (case a32=>k_is)
    (case i32=>k_is)
    (case l32=>k_is)
    (case c32=>k_is)
    (case k32=>k_is)
    (case a33=>k_is)
    (case i33=>k_is)
    (case l33=>k_is)
    (case c33=>k_is)
    (case k33=>k_is)
    (case a34=>k_is)
    (case i34=>k_is)
    (case l34=>k_is)
    (case c34=>k_is)
    (case k34=>k_is)
    (case a35=>k_is)
    (case i35=>k_is)
    (case l35=>k_is)
    (case c35=>k_is)
    (case k35=>k_is)
    (case a36=>k_is)
    (case i36=>k_is)
    (case l36=>k_is)
    (case c36=>k_is)
    (case k36=>k_is)
    (case a37=>k_is)
    (case i37=>k_is)
    (case l37=>k_is)
    (case c37=>k_is)
    (case k37=>k_is)
    (case a38=>k_is)
    (case l38=>k_is)
    (case c38=>k_is)
    (case k38=>k_is)
    (case a39=>k_is)
    (case l39=>k_is)
    (case c39=>k_is)
    (case k39=>k_is)
    (case a40=>k_is)
    (case l40=>k_is)
    (case c40=>k_is)
    (case k40=>k_is)
    (case a41=>k_is)
    (case l41=>k_is)
    (case c41=>k_is)
    (case k41=>k_is)
    (case a42=>k_is)
    (case l42=>k_is)
    (case c42=>k_is)
    (case k42=>k_is)
    (case a43=>k_is)
    (case l43=>k_is)
    (case c43=>k_is)
    (case k43=>k_is)
    (case a44=>k_is)
    (case l44=>k_is)
    (case c44=>k_is)
    (case k44=>k_is)
    (case a45=>k_is)
    (case l45=>k_is)
    (case c45=>k_is)
    (case k45=>k_is)
    (case a46=>k_is)
    (case l46=>k_is)
    (case c46=>k_is)
    (case k46=>k_is)
    (case a47=>k_is)
    (case l47=>k_is)
    (case c47=>k_is)
    (case k47=>k_is)
    (case a48=>k_is)
    (case l48=>k_is)
    (case c48=>k_is)
    (case k48=>k_is)
    (case a49=>k_is)
    (case l49=>k_is)
    (case c49=>k_is)
    (case k49=>k_is)
    (case a50=>k_is)
    (case l50=>k_is)
    (case c50=>k_is)
    (case k50=>k_is)
    (case a51=>k_is)
    (case l51=>k_is)
    (case c51=>k_is)
    (case k51=>k_is)
    (case pg_WordReader=>k_is)
    (case hd_WordReader=>k_is)
    (case po_WordReader=>k_is)
    (case sa_WordReader=>k_is)
    (case mk_WordReader=>k_is)
    (case kc_WordReader=>k_is)
    (case n_WordReader_words=>k_is)
    (case n_WordReader_place=>k_is)
    (case pg_Boards=>k_is)
    (case hd_Boards=>k_is)
    (case po_Boards=>k_is)
    (case sa_Boards=>k_is)
    (case mk_Boards=>k_is)
    (case kc_Boards=>k_is)
    (case n_Boards_shelves=>k_is)
    (case n_Boards_writes=>k_is)
    (case n_Boards_writes_left=>k_is)
    (case q_Stopped=>k_exc)
    (case m_Stopped_StemError=>kts_exm)
    (case m_Lost_StemError=>kts_exm)
    (case ga_Lost=>k_is)
    (case gg_Lost=>k_is)
    (case gc_Lost=>k_is)
    (case gs_Lost=>k_is)
    (case gt_Lost=>k_is)
    (case go_Lost=>k_is)
    (case gb_Lost=>k_is)
    (case ga_Stopped=>k_is)
    (case gg_Stopped=>k_is)
    (case gc_Stopped=>k_is)
    (case gs_Stopped=>k_is)
    (case gt_Stopped=>k_is)
    (case go_Stopped=>k_is)
    (case gb_Stopped=>k_is)
    (case ei_Lost=>kernel_rfl)
    (case ev_Lost=>kernel_rfl)
    (case es_Lost=>k_is)
    (case eh_Lost=>k_is)
    (case ek_Lost=>k_is)
    (case en_Lost=>k_is)
    (case k_Stopped_Stopped=>kit_is)
    (case k_Stopped_ValueError=>kit_is)
    (case k_Stopped_Lost=>kit_is)
    (case k_Stopped_NoBoards=>kit_is)
    (case k_Stopped_NoThing=>kit_is)
    (case k_Lost_Lost=>kit_is)
    (case k_Lost_ValueError=>kit_is)
    (case k_Lost_Stopped=>kit_is)
    (case k_Lost_NoHouse=>kit_is)
    (case k_Lost_NoThing=>kit_is)
    (case z_ValueError=>k_is)
    (case z_all=>k_is)
    (case z_bool=>k_is)
    (case z_enumerate=>k_is)
    (case z_int=>k_is)
    (case z_isinstance=>k_is)
    (case z_len=>k_is)
    (case z_list=>k_is)
    (case z_max=>k_is)
    (case z_min=>k_is)
    (case z_range=>k_is)
    (case z_set=>k_is)
    (case z_sorted=>k_is)
    (case z_str=>k_is)
    (case z_sum=>k_is)
    (case z_tuple=>k_is)
    (case w_SIGNS=>k_is)
    (case w_MOST_NUMBER=>k_is)
    (case w_MOST_SIGNS=>k_is)
    (case w_MOST_PARTS=>k_is)
    (case w_MOST_DEEP=>k_is)
    (case w_NUMBER_WORD=>k_is)
    (case w_TEXT_WORD=>k_is)
    (case w_TUPLE_WORD=>k_is)
    (case w_PIECE=>k_is)
    (case w_ROW=>k_is)
    (case w_FOLDER=>k_is)
    (case w_FILE_ENTRY=>k_is)
    (case w_FOLDER_ENTRY=>k_is)
    (case w_NAME_SIGNS=>k_is)
    (case w_MOST_NAME_SIGNS=>k_is)
    (case w_MOST_CELL=>k_is)
    (case w_MOST_BIRTH=>k_is)
    (case w_SUM_RESTS=>k_is)
    (case w_MOST_PIECE_SIGNS=>k_is)
    (case w_MOST_LEVEL=>k_is)
    (case w_MOST_TAGS=>k_is)
    (case w_MOST_ENTRIES=>k_is)
    (case w_MARK_RESTS=>k_is)
    (case w_LEAST_BOARDS=>k_is)
    (case w_MOST_BOARDS=>k_is)
