import PyProof.Rows.All
import Wide.All
import OpenK.AllK
import Wide.FinOn
import Lean
import PyProof.EqAt
import PyProof.EqKinds
import PyProof.TupleCall
import PySem.Challenge.RW_stemshelf_k12_what_is_a_block
set_option Elab.async false
set_option linter.all false
set_option maxRecDepth 100000
/-! THE HAND LAYER, for ints, bools, texts, own classes, LISTS and tuples (index, slices, in, append, pop ..), calls, loops. Paste it whole ahead of your own text; what your proof does not reach may be deleted. -/
namespace L2
open PySem PySem.Spec PyProof.Rows

/-- a key: an int or a str -/
abbrev Key := Sum Int Str
def keyIs : Key → Value → Bool
  | .inl k, v => Value.isInt k v
  | .inr x, v => Value.isStrOf x v
def keyH (w : World) : Key → Int
  | .inl k => hashInt k
  | .inr x => hashStr w x
theorem keyIs_shape : ∀ {k : Key} {v : Value}, keyIs k v = true → (∃ i t, k = Sum.inl i ∧ v = Value.int i t) ∨ (∃ x t, k = Sum.inr x ∧ v = Value.str x t)
  | .inl i, v, h => by
    obtain ⟨t, e⟩ := Value.isInt_shape (k := i) (v := v) h
    exact .inl ⟨i, t, rfl, e⟩
  | .inr x, v, h => by
    obtain ⟨t, e⟩ := Value.isStrOf_shape (x := x) (v := v) h
    exact .inr ⟨x, t, rfl, e⟩
theorem keyIs_int (i : Int) (t : Tok) : keyIs (.inl i) (.int i t) = true := by simp [keyIs, Value.isInt]
theorem keyIs_str (x : Str) (t : Tok) : keyIs (.inr x) (.str x t) = true := by simp [keyIs, Value.isStrOf]
theorem key_ll (a b : Int) : decide ((Sum.inl a : Key) = Sum.inl b) = (a == b) := by
  by_cases e : a = b
  · subst e; simp
  · have h : ¬ (Sum.inl a : Key) = Sum.inl b := fun q => e (Sum.inl.inj q)
    rw [decide_eq_false h]
    exact (beq_eq_false_iff_ne.mpr e).symm
theorem key_rr (a b : Str) : decide ((Sum.inr a : Key) = Sum.inr b) = decide (a = b) := by
  by_cases e : a = b
  · subst e; simp
  · have h : ¬ (Sum.inr a : Key) = Sum.inr b := fun q => e (Sum.inr.inj q)
    rw [decide_eq_false h, decide_eq_false e]
theorem key_lr (a : Int) (b : Str) : decide ((Sum.inl a : Key) = Sum.inr b) = false := decide_eq_false (fun q => nomatch q)
theorem key_rl (a : Str) (b : Int) : decide ((Sum.inr a : Key) = Sum.inl b) = false := decide_eq_false (fun q => nomatch q)

def mixKind (prog : Program) (w : World) : PySem.KeyKind prog w Key where
  is := keyIs
  hash := keyH w
  inj := fun v a b ha hb => by
    rcases keyIs_shape ha with ⟨i, t, rfl, rfl⟩ | ⟨x, t, rfl, rfl⟩
    · rcases keyIs_shape hb with ⟨j, u, rfl, e⟩ | ⟨y, u, rfl, e⟩
      · injection e with e1 _; rw [e1]
      · exact nomatch e
    · rcases keyIs_shape hb with ⟨j, u, rfl, e⟩ | ⟨y, u, rfl, e⟩
      · exact nomatch e
      · injection e with e1 _; rw [e1]
  byValue := fun k v h => by
    rcases keyIs_shape h with ⟨i, t, rfl, rfl⟩ | ⟨x, t, rfl, rfl⟩ <;> rfl
  pyHash := fun hv h => by
    rcases keyIs_shape hv with ⟨i, t, rfl, rfl⟩ | ⟨x, t, rfl, rfl⟩
    · exact wpAny_pyHash_int h
    · exact wpAny_pyHash_str h
  eqBool := fun hu hv h => by
    rcases keyIs_shape hu with ⟨i, t, rfl, rfl⟩ | ⟨x, t, rfl, rfl⟩
    · rcases keyIs_shape hv with ⟨j, u, rfl, rfl⟩ | ⟨y, u, rfl, rfl⟩
      · rw [key_ll] at h; exact wpAny_eqBool_int h
      · rw [key_lr] at h; exact SeqAt.EqAt.int_str i t y u _ _ _ _ h
    · rcases keyIs_shape hv with ⟨j, u, rfl, rfl⟩ | ⟨y, u, rfl, rfl⟩
      · rw [key_rl] at h; exact SeqAt.EqAt.str_int x t j u _ _ _ _ h
      · rw [key_rr] at h; exact wpAny_eqBool_str h
  «strs» := fun k x t v h => by
    rcases keyIs_shape h with ⟨i, u, rfl, e⟩ | ⟨y, u, rfl, e⟩
    · exact nomatch e
    · injection e with e1 _
      subst e1
      cases v <;> rfl

theorem mixKind_is (prog : Program) (w : World) (k : Key) (v : Value) : (mixKind prog w).is k v = keyIs k v := rfl
theorem mixKind_int (prog : Program) (w : World) (i : Int) (t : Tok) : (mixKind prog w).is (.inl i) (.int i t) = true := keyIs_int i t
theorem mixKind_str (prog : Program) (w : World) (x : Str) (t : Tok) : (mixKind prog w).is (.inr x) (.str x t) = true := keyIs_str x t
end L2

namespace L2
open PySem PySem.Spec PyProof.Rows

/-- a value, without the heap -/
inductive V where
  | non | bl (b : Bool) | int (i : Int) | str (x : Str) | byt (b : Array UInt8) | flt (b : UInt64) | ref (a : Addr) | ty (n : String)
  deriving DecidableEq

def RelV : V → Value → Prop
  | .non, u => u = Value.none
  | .bl b, u => u = Value.bool b
  | .int i, u => ∃ t, u = Value.int i t
  | .str x, u => ∃ t, u = Value.str x t
  | .byt b, u => ∃ t, u = Value.bytes b t
  | .flt b, u => ∃ t, u = Value.float b t
  | .ref a, u => u = Value.ref a
  | .ty n, u => u = Value.type n

abbrev Vals : List V → List Value → Prop := Paired RelV
theorem Vals.length {xs : List V} {us : List Value} (r : Vals xs us) : xs.length = us.length := Paired.length r
theorem Vals.get : ∀ {xs : List V} {us : List Value} {i : Nat} {x : V}, Vals xs us → xs[i]? = some x → ∃ u, us[i]? = some u ∧ RelV x u
  | _, _, _, _, .nil, e => by simp at e
  | _, _, 0, _, .cons r _, e => by simp at e; subst e; exact ⟨_, rfl, r⟩
  | _, _, i + 1, x, .cons _ t, e => by
    obtain ⟨u, h1, h2⟩ := Vals.get (i := i) (x := x) t (by simpa using e)
    exact ⟨u, by simpa using h1, h2⟩
theorem Vals.set {x : V} {u : Value} (r : RelV x u) : ∀ {xs : List V} {us : List Value} (i : Nat), Vals xs us → Vals (xs.set i x) (us.set i u)
  | _, _, _, .nil => .nil
  | _, _, 0, .cons _ t => .cons r t
  | _, _, i + 1, .cons q t => .cons q (Vals.set r i t)
theorem Vals.append : ∀ {xs ys : List V} {us ws : List Value}, Vals xs us → Vals ys ws → Vals (xs ++ ys) (us ++ ws)
  | _, _, _, _, .nil, s => s
  | _, _, _, _, .cons r t, s => .cons r (Vals.append t s)
theorem Vals.take : ∀ {xs : List V} {us : List Value} (n : Nat), Vals xs us → Vals (xs.take n) (us.take n)
  | _, _, 0, _ => .nil
  | _, _, _ + 1, .nil => .nil
  | _, _, n + 1, .cons r t => .cons r (Vals.take n t)
theorem Vals.drop : ∀ {xs : List V} {us : List Value} (n : Nat), Vals xs us → Vals (xs.drop n) (us.drop n)
  | _, _, 0, r => r
  | _, _, _ + 1, .nil => .nil
  | _, _, n + 1, .cons _ t => Vals.drop n t
theorem Vals.none_of : ∀ {xs : List V} {us : List Value} {i : Nat}, Vals xs us → xs[i]? = none → us[i]? = none := fun {xs us i} r e => by
  have h1 := r.length
  have h2 : xs.length ≤ i := List.getElem?_eq_none_iff.mp e
  exact List.getElem?_eq_none_iff.mpr (by omega)

def RelO : Option V → Option Value → Prop
  | some v, some u => RelV v u
  | none, none => True
  | _, _ => False
def KV {κ : Type} : List (κ × V) → List (κ × Value) → Prop := Paired fun (p : κ × V) (q : κ × Value) => p.1 = q.1 ∧ RelV p.2 q.2

/-- a key of a dict (00_mix): an int or a text -/
def kV : Key → V
  | .inl i => .int i
  | .inr x => .str x

/-- what stands at a tracked address -/
inductive HO where
  /-- a list -/
  | lst (xs : List V)
  /-- a tuple (never changes) -/
  | tup (xs : List V)
  /-- a dict whose keys are ints and texts; one whose keys are tuples of ints and texts (the empty one is both) -/
  | dK (kvs : List (Key × V)) | dT (kvs : List (List Key × V))
  /-- a set of ints: its members, its size -/
  | set (S : Int → Bool) (n : Nat)
  /-- an instance of the class at C, its dict at dx, its attributes -/
  | ins (C dx : Addr) (fs : List (Str × V))
  /-- the dict of the instance at x -/
  | own (x : Addr)
  /-- the dict of an exception -/
  | xd (fs : List (Str × V))
  /-- a bound method, f of x -/
  | met (f x : Addr)
  /-- a range object lo, lo + 1, .. below hi -/
  | rng (lo hi : Int)
  /-- a thing that is known to the object (the script; a dict while a loop walks it): read, never written while it is so -/
  | frz (o : Obj) (u : HO)
  /-- a code object's table -/
  | tbl (ps : Array Value)
  /-- any other thing, by what is true of its one object (a def of one's own: SetO a S n := HO.ext fun h => ..) -/
  | ext (φ : Heap → Prop)

abbrev Hp := Addr → Option HO
def upd (H : Hp) (a : Addr) (o : HO) : Hp := fun b => if b = a then some o else H b
theorem upd_same {H : Hp} {a : Addr} {o : HO} : upd H a o a = some o := by unfold upd; rw [if_pos rfl]
theorem upd_ne {H : Hp} {a b : Addr} {o : HO} (h : b ≠ a) : upd H a o b = H b := by unfold upd; rw [if_neg h]
theorem upd_upd {H : Hp} {a : Addr} {o u : HO} : upd (upd H a o) a u = upd H a u := by
  funext b; unfold upd; split <;> rfl
/-- two objects of different content stand apart -/
theorem ne_of {H : Hp} {a b : Addr} {o u : HO} (h : H a = some o) (h' : H b = some u) (d : o ≠ u) : a ≠ b := by
  intro e; subst e; rw [h] at h'; exact d (Option.some.inj h')
theorem ne_of_none {H : Hp} {a b : Addr} {o : HO} (h : H a = some o) (h' : H b = none) : a ≠ b := by
  intro e; subst e; rw [h] at h'; cases h'

section
variable (P : Program) (w : World)
def ObjOk (H : Hp) (h : Heap) (a : Addr) : HO → Prop
  | .lst xs => xs.length ≤ sizeLine ∧ ∃ (its : List Value) (n : Nat), Vals xs its ∧ h.get? a = some { cls := .type "list", data := .seq its.toArray n }
  | .tup xs => xs.length ≤ sizeLine ∧ ∃ its : List Value, Vals xs its ∧ IsTup h a its.toArray
  | .dK kvs => kvs.length ≤ sizeLine ∧ (a == sysModules) = false ∧ ∃ vs, KV kvs vs ∧ h.DictOf (mixKind P w) a vs
  | .dT kvs => kvs.length ≤ sizeLine ∧ (a == sysModules) = false ∧ ∃ xs : List (List Key × Addr × Value),
      Paired (fun (p : List Key × V) (q : List Key × Addr × Value) => p.1 = q.1 ∧ H q.2.1 = some (.tup (p.1.map kV)) ∧ RelV p.2 q.2.2) kvs xs ∧
      ∃ o es ep, h.get? a = some o ∧ o.ExactDict ∧ o.data = .dict es ep ∧ es.toList = xs.map (entryOfKey (tupleKind (mixKind P w))) ∧ (xs.map (·.1)).Nodup
  | .set S n => h.SetOf (intKind P w) a S n
  | .ins C dx fs => H dx = some (.own a) ∧ fs.length ≤ 1000 ∧ dx ≠ a ∧ h.get? a = some (PySem.W.instObj C dx) ∧
      ∃ mA, h.Ns1 dx mA ∧ (∀ f, RelO (fs.lookup f) (mA f)) ∧ PySem.Within mA (fs.map (·.1))
  | .own _ => ∃ o, h.get? a = some o
  | .xd fs => ∃ mA, h.Ns1 a mA ∧ ∀ f, RelO (fs.lookup f) (mA f)
  | .rng lo hi => ∃ t u v, h.get? a = some { cls := .type "range", data := .fields #[.int lo t, .int hi u, .int 1 v] }
  | .frz o u => h.get? a = some o ∧ ObjOk H h a u
  | .tbl ps => h.get? a = some { cls := .none, data := .fields ps }
  | .met f x => h.get? a = some (PySem.W.methodObj (.ref f) (.ref x))
  | .ext φ => φ h ∧ (∃ o, h.get? a = some o) ∧ ∀ h1 h2 : Heap, φ h1 → (∀ o, h1.get? a = some o → h2.get? a = some o) → φ h2
/-- the abstract heap is held -/
def HOk (H : Hp) (h : Heap) : Prop := ∀ a o, H a = some o → ObjOk P w H h a o
end

section
variable {P : Program} {w : World} {H H' : Hp} {h h' : Heap} {a : Addr} {o : HO}
theorem ObjOk.lt (x : ObjOk P w H h a o) : a < h.objs.size := by
  cases o with
  | lst xs => obtain ⟨_, _, _, _, e⟩ := x; exact Heap.lt_size e
  | tup xs => obtain ⟨_, _, _, p⟩ := x; exact p.lt
  | dK kvs => obtain ⟨_, _, _, _, o, _, _, e, _⟩ := x; exact Heap.lt_size e
  | dT kvs => obtain ⟨_, _, _, _, o, _, _, e, _⟩ := x; exact Heap.lt_size e
  | set S n => obtain ⟨o, _, _, _, e, _⟩ := x; exact Heap.lt_size e
  | ins C dx fs => obtain ⟨_, _, _, e, _⟩ := x; exact Heap.lt_size e
  | own y => obtain ⟨_, e⟩ := x; exact Heap.lt_size e
  | xd fs => obtain ⟨_, ⟨_, _, _, e, _⟩, _⟩ := x; exact Heap.lt_size e
  | rng lo hi => obtain ⟨_, _, _, e⟩ := x; exact Heap.lt_size e
  | frz ob u => obtain ⟨e, _⟩ := x; exact Heap.lt_size e
  | tbl ps => exact Heap.lt_size (show h.get? a = some _ from x)
  | met f y => exact Heap.lt_size (show h.get? a = some _ from x)
  | ext φ => obtain ⟨_, ⟨_, e⟩, _⟩ := x; exact Heap.lt_size e
theorem Paired.mapP {α β : Type} {F G : α → β → Prop} : ∀ {l₁ : List α} {l₂ : List β}, Paired F l₁ l₂ → (∀ a b, F a b → G a b) → Paired G l₁ l₂
  | _, _, .nil, _ => .nil
  | _, _, .cons r t, f => .cons (f _ _ r) (Paired.mapP t f)
theorem Paired.imp' {α β : Type} {F G : α → β → Prop} (f : ∀ a b, F a b → G a b) {l₁ : List α} {l₂ : List β} (r : Paired F l₁ l₂) : Paired G l₁ l₂ := Paired.mapP r f
/-- what an object's description leans on: its own object, its own dict, the tuples -/
theorem ObjOk.stay (x : ObjOk P w H h a o) (k : ∀ b u, (b = a ∨ H b = some (.own a)) → h.get? b = some u → h'.get? b = some u)
    (ho : ∀ b, H b = some (.own a) → H' b = some (.own a)) (ht : ∀ b xs, H b = some (.tup xs) → H' b = some (.tup xs)) : ObjOk P w H' h' a o := by
  induction o with
  | lst xs => obtain ⟨z, its, n, r, e⟩ := x; exact ⟨z, its, n, r, k _ _ (.inl rfl) e⟩
  | tup xs => obtain ⟨z, its, r, ob, e, c⟩ := x; exact ⟨z, its, r, ob, k _ _ (.inl rfl) e, c⟩
  | dK kvs => obtain ⟨z, y, vs, r, ob, es, ep, e, c⟩ := x; exact ⟨z, y, vs, r, ob, es, ep, k _ _ (.inl rfl) e, c⟩
  | dT kvs =>
    obtain ⟨z, y, xs, r, ob, es, ep, e, c⟩ := x
    exact ⟨z, y, xs, Paired.mapP r fun p q z => ⟨z.1, ht _ _ z.2.1, z.2.2⟩, ob, es, ep, k _ _ (.inl rfl) e, c⟩
  | set S n => obtain ⟨ob, es, ep, t, e, c⟩ := x; exact ⟨ob, es, ep, t, k _ _ (.inl rfl) e, c⟩
  | ins C dx fs =>
    obtain ⟨d, z, ne, e, mA, ⟨od, es, ep, e2, c⟩, r⟩ := x
    exact ⟨ho _ d, z, ne, k _ _ (.inl rfl) e, mA, ⟨od, es, ep, k _ _ (.inr d) e2, c⟩, r⟩
  | own y => obtain ⟨ob, e⟩ := x; exact ⟨ob, k _ _ (.inl rfl) e⟩
  | xd fs => obtain ⟨mA, ⟨od, es, ep, e, c⟩, r⟩ := x; exact ⟨mA, ⟨od, es, ep, k _ _ (.inl rfl) e, c⟩, r⟩
  | rng lo hi => obtain ⟨t, u, v, e⟩ := x; exact ⟨t, u, v, k _ _ (.inl rfl) e⟩
  | frz ob u ih => obtain ⟨e, q⟩ := x; exact ⟨k _ _ (.inl rfl) e, ih q⟩
  | tbl ps =>
    have e : h.get? a = some { cls := .none, data := .fields ps } := x
    show h'.get? a = some { cls := .none, data := .fields ps }
    exact k a _ (.inl rfl) e
  | met f y =>
    have e : h.get? a = some (PySem.W.methodObj (.ref f) (.ref y)) := x
    show h'.get? a = some (PySem.W.methodObj (.ref f) (.ref y))
    exact k a _ (.inl rfl) e
  | ext φ => obtain ⟨p, ⟨o, e⟩, st⟩ := x; exact ⟨st _ _ p fun o q => k _ _ (.inl rfl) q, ⟨o, k _ _ (.inl rfl) e⟩, st⟩
theorem HOk.lt (x : HOk P w H h) (e : H a = some o) : a < h.objs.size := (x a o e).lt
theorem HOk.fresh (x : HOk P w H h) (e : h.objs.size ≤ a) : H a = none := by
  cases q : H a with
  | none => rfl
  | some u => exact absurd (Nat.lt_of_lt_of_le (x.lt q) e) (Nat.lt_irrefl _)
/-- every object of the heap is kept -/
theorem HOk.kept (x : HOk P w H h) (k : ∀ b u, h.get? b = some u → h'.get? b = some u) : HOk P w H h' := fun a o e =>
  (x a o e).stay (fun b u _ q => k b u q) (fun _ q => q) fun _ _ q => q
/-- a new object is laid and tracked -/
theorem HOk.laid (x : HOk P w H h) (k : ∀ b u, h.get? b = some u → h'.get? b = some u) (hp : h.objs.size ≤ a) (new : ObjOk P w (upd H a o) h' a o) : HOk P w (upd H a o) h' := fun b u e => by
  have hn := x.fresh hp
  by_cases hb : b = a
  · subst hb; rw [upd_same] at e; cases e; exact new
  · rw [upd_ne hb] at e
    exact (x b u e).stay (fun c v _ q => k c v q) (fun c q => by rw [upd_ne (ne_of_none q hn)]; exact q) fun c xs q => by rw [upd_ne (ne_of_none q hn)]; exact q
end

/-- what may be read as u: it is u, or a known u -/
def Rd (H : Hp) (a : Addr) (u : HO) : Prop := H a = some u ∨ ∃ o, H a = some (.frz o u)
theorem Rd.of {H : Hp} {a : Addr} {u : HO} (h : H a = some u) : Rd H a u := .inl h
theorem Rd.ok {P : Program} {w : World} {H : Hp} {h : Heap} {a : Addr} {u : HO} (r : Rd H a u) (x : HOk P w H h) : ObjOk P w H h a u := by
  rcases r with r | ⟨o, r⟩
  · exact x a u r
  · obtain ⟨_, q⟩ := x a _ r
    exact q
/-- what may be written -/
def Mut : Option HO → Prop
  | some (.lst _) => True
  | some (.dK _) => True
  | some (.dT _) => True
  | some (.set _ _) => True
  | some (.ins _ _ _) => True
  | some (.ext _) => True
  | _ => False
section
variable {P : Program} {w : World} {H : Hp} {h h' : Heap} {x e : Addr} {o' : HO}
/-- the object at e is changed: x itself, or the dict of the instance x -/
theorem HOk.write (ok : HOk P w H h) (mu : Mut (H x)) (he : e = x ∨ H e = some (.own x)) (k : ∀ b u, b ≠ e → h.get? b = some u → h'.get? b = some u) (heo : ∃ u, h'.get? e = some u)
    (new : ObjOk P w (upd H x o') h' x o') : HOk P w (upd H x o') h' := fun b u q => by
  have nown : ∀ c y, H c = some (.own y) → c ≠ x := fun c y r z => by subst z; rw [r] at mu; exact mu
  have ntup : ∀ c xs, H c = some (.tup xs) → c ≠ x := fun c xs r z => by subst z; rw [r] at mu; exact mu
  by_cases hb : b = x
  · subst hb; rw [upd_same] at q; cases q; exact new
  · rw [upd_ne hb] at q
    by_cases hbe : b = e
    · have q' : H b = some (.own x) := by
        rcases he with z | z
        · exact absurd (hbe.trans z) hb
        · rw [hbe]; exact z
      rw [q] at q'; cases q'
      obtain ⟨v, hv⟩ := heo
      exact ⟨v, by rw [hbe]; exact hv⟩
    · refine (ok b u q).stay (fun c v hc r => k c v ?_ r) (fun c r => by rw [upd_ne (nown c b r)]; exact r) fun c xs r => by rw [upd_ne (ntup c xs r)]; exact r
      rcases hc with rfl | hc
      · exact hbe
      · rintro rfl
        rcases he with z | z
        · exact nown c b hc z
        · rw [hc] at z; cases z; exact hb rfl
end

/-! ### kept unless tracked; of the frames at fs (the callers') the slots may change (an exception that passes writes there); of the records at ex (iterators) nothing is said -/
structure Un (fs ex : List Addr) (H H' : Hp) (h h' : Heap) : Prop where
  keep : ∀ b o, h.get? b = some o → H b = none → b ∉ fs → b ∉ ex → h'.get? b = some o
  slot : ∀ b o, h.get? b = some o → H b = none → b ∈ fs → b ∉ ex → ∃ sl, h'.get? b = some { o with slots := sl }
  free : ∀ b o, h.get? b = some o → H b = none → b ∉ ex → H' b = none
  there : ∀ b o, h.get? b = some o → b ∉ ex → ∃ o', h'.get? b = some o'
  tups : ∀ b xs, H b = some (.tup xs) → H' b = some (.tup xs)
  frzs : ∀ b o u, H b = some (.frz o u) → H' b = some (.frz o u)
  tbls : ∀ b ps, H b = some (.tbl ps) → ∃ more, H' b = some (.tbl (ps ++ more))
section
variable {fs fs' ex ex' : List Addr} {H H1 H2 : Hp} {h h1 h2 h' : Heap} {a x e : Addr} {o : HO}
theorem Un.any (u : Un fs ex H H1 h h1) {b : Addr} {ob : Obj} (q : h.get? b = some ob) (n : H b = none) (hx : b ∉ ex) : ∃ sl, h1.get? b = some { ob with slots := sl } := by
  by_cases hb : b ∈ fs
  · exact u.slot b ob q n hb hx
  · exact ⟨ob.slots, u.keep b ob q n hb hx⟩
theorem Un.trans (a : Un fs ex H H1 h h1) (b : Un fs ex H1 H2 h1 h2) : Un fs ex H H2 h h2 where
  keep := fun c ob q n hc hx => b.keep c ob (a.keep c ob q n hc hx) (a.free c ob q n hx) hc hx
  slot := fun c ob q n hc hx => by
    obtain ⟨sl, e1⟩ := a.slot c ob q n hc hx
    obtain ⟨sl', e2⟩ := b.slot c _ e1 (a.free c ob q n hx) hc hx
    exact ⟨sl', e2⟩
  free := fun c ob q n hx => by
    obtain ⟨o', e1⟩ := a.there c ob q hx
    exact b.free c o' e1 (a.free c ob q n hx) hx
  there := fun c ob q hx => by
    obtain ⟨o', e1⟩ := a.there c ob q hx
    exact b.there c o' e1 hx
  tups := fun c xs q => b.tups c xs (a.tups c xs q)
  frzs := fun c ob xs q => b.frzs c ob xs (a.frzs c ob xs q)
  tbls := fun c ps q => by
    obtain ⟨m1, e1⟩ := a.tbls c ps q
    obtain ⟨m2, e2⟩ := b.tbls c _ e1
    exact ⟨m1 ++ m2, by rw [e2, Array.append_assoc]⟩
theorem Un.kept (k : ∀ b u, h.get? b = some u → h'.get? b = some u) : Un fs ex H H h h' :=
  ⟨fun b ob q _ _ _ => k b ob q, fun b ob q _ _ _ => ⟨ob.slots, k b ob q⟩, fun _ _ _ n _ => n, fun b ob q _ => ⟨ob, k b ob q⟩, fun _ _ q => q, fun _ _ _ q => q, fun _ ps q => ⟨#[], by rw [q]; simp⟩⟩
theorem Un.refl : Un fs ex H H h h := Un.kept fun _ _ q => q
theorem Un.laid (k : ∀ b u, h.get? b = some u → h'.get? b = some u) (hp : h.objs.size ≤ a) (hn : H a = none) : Un fs ex H (upd H a o) h h' where
  keep := fun b u q _ _ _ => k b u q
  slot := fun b u q _ _ _ => ⟨u.slots, k b u q⟩
  free := fun b u q n _ => by rw [upd_ne (Nat.ne_of_lt (Nat.lt_of_lt_of_le (Heap.lt_size q) hp))]; exact n
  there := fun b u q _ => ⟨u, k b u q⟩
  tups := fun b xs q => by rw [upd_ne (ne_of_none q hn)]; exact q
  frzs := fun b u xs q => by rw [upd_ne (ne_of_none q hn)]; exact q
  tbls := fun b ps q => ⟨#[], by rw [upd_ne (ne_of_none q hn), q]; simp⟩
theorem Un.write (mu : Mut (H x)) (he : e = x ∨ H e = some (.own x)) (k : ∀ b u, b ≠ e → h.get? b = some u → h'.get? b = some u) (heo : ∃ u, h'.get? e = some u) : Un fs ex H (upd H x o) h h' := by
  have hx : ∀ b, H b = none → b ≠ x := fun b n z => by subst z; rw [n] at mu; exact mu
  have hb : ∀ b, H b = none → b ≠ e := fun b n z => by
    subst z
    rcases he with r | r
    · exact hx b n r
    · rw [n] at r; cases r
  have hm : ∀ b u, H b = some u → ¬ Mut (some u) → b ≠ x := fun b u q nm z => by subst z; rw [q] at mu; exact nm mu
  refine ⟨fun b u q n _ _ => k b u (hb b n) q, fun b u q n _ _ => ⟨u.slots, k b u (hb b n) q⟩, fun b u q n _ => by rw [upd_ne (hx b n)]; exact n, fun b u q _ => ?_,
    fun b xs q => by rw [upd_ne (hm b _ q fun z => z)]; exact q, fun b u xs q => by rw [upd_ne (hm b _ q fun z => z)]; exact q, fun b ps q => ⟨#[], by rw [upd_ne (hm b _ q fun z => z), q]; simp⟩⟩
  by_cases hbe : b = e
  · subst hbe; exact heo
  · exact ⟨u, k b u hbe q⟩
theorem Un.mono (u : Un fs ex H H1 h h1) (hs : ∀ b ∈ fs, b ∈ fs') (hx : ∀ b ∈ ex, b ∈ ex') : Un fs' ex' H H1 h h1 :=
  ⟨fun b ob q n hb he => u.keep b ob q n (fun z => hb (hs b z)) fun z => he (hx b z), fun _ _ q n _ he => u.any q n fun z => he (hx _ z), fun b ob q n he => u.free b ob q n fun z => he (hx b z), fun b ob q he => u.there b ob q fun z => he (hx b z), u.tups, u.frzs, u.tbls⟩
end

/-! ### the heap without what is tracked -/
def trk (h : Heap) (H : Hp) : List Addr := (List.range h.objs.size).filter fun a => (H a).isSome
def hidT (h : Heap) (H : Hp) : Heap := PySem.W.hideAll h (trk h H)
theorem hidT_size (h : Heap) (H : Hp) : (hidT h H).objs.size = h.objs.size := PySem.W.hideAll_size _ _
theorem hidT_get {h : Heap} {H : Hp} {b : Addr} {o : Obj} (e : h.get? b = some o) (n : H b = none) : (hidT h H).get? b = some o :=
  PySem.W.hideAll_get _ e fun hm => by
    have q : (H b).isSome = true := (List.mem_filter.mp hm).2
    rw [n] at q; simp at q
theorem of_hidT {h : Heap} {H : Hp} {b : Addr} {o : Obj} (e : (hidT h H).get? b = some o) : h.get? b = some o ∧ H b = none := by
  have e' : h.get? b = some o := PySem.W.of_hideAll (trk h H) e
  refine ⟨e', ?_⟩
  cases q : H b with
  | none => rfl
  | some x =>
    have hm : b ∈ trk h H := List.mem_filter.mpr ⟨List.mem_range.mpr (Heap.lt_size e'), by simp [q]⟩
    have z : (hidT h H).get? b = none := PySem.W.hideAll_none (trk h H) hm
    rw [z] at e; cases e

/-! ### OpenK's ledger, filled with every new object but one -/
def allNews (g h : Heap) (L : Addr) : List (Addr × Obj) := (List.range h.objs.size).filterMap fun a => if a = L ∨ (g.get? a).isSome = true then none else (h.get? a).map fun o => (a, o)
theorem mem_allNews {g h : Heap} {L a : Addr} {o : Obj} (h1 : a ≠ L) (h2 : g.get? a = none) (h3 : h.get? a = some o) : (a, o) ∈ allNews g h L :=
  List.mem_filterMap.mpr ⟨a, List.mem_range.mpr (Heap.lt_size h3), by simp [h1, h2, h3]⟩
theorem of_mem_allNews {g h : Heap} {L : Addr} {p : Addr × Obj} (hp : p ∈ allNews g h L) : p.1 ≠ L ∧ g.get? p.1 = none ∧ h.get? p.1 = some p.2 := by
  obtain ⟨b, _, e⟩ := List.mem_filterMap.mp hp
  split at e
  · cases e
  · rename_i hn
    cases q : h.get? b with
    | none => rw [q] at e; simp at e
    | some u =>
      rw [q] at e
      simp only [Option.map_some, Option.some.injEq] at e
      subst e
      refine ⟨fun z => hn (.inl z), ?_, q⟩
      show g.get? b = none
      cases r : g.get? b with
      | none => rfl
      | some v => exact (hn (.inr (by simp [r]))).elim
def rest (g h : Heap) (L d : Addr) : List (Addr × Obj) := (allNews g h L).filter fun p => decide (p.1 ≠ d)
theorem rest_ne {g h : Heap} {L d : Addr} : ∀ p ∈ rest g h L d, p.1 ≠ d := fun p hp => of_decide_eq_true (List.mem_filter.mp hp).2
theorem mem_rest {g h : Heap} {L d a : Addr} {o : Obj} (h1 : a ≠ L) (h2 : g.get? a = none) (h3 : h.get? a = some o) (h4 : a ≠ d) : (a, o) ∈ rest g h L d :=
  List.mem_filter.mpr ⟨mem_allNews h1 h2 h3, decide_eq_true h4⟩
theorem news_all {g h : Heap} {L : Addr} : News g L h (allNews g h L) := fun p hp => let ⟨a, b, c⟩ := of_mem_allNews hp; ⟨c, a, b⟩
theorem news_at {g h : Heap} {L d : Addr} {o : Obj} (h1 : d ≠ L) (h2 : g.get? d = none) (h3 : h.get? d = some o) : News g L h ((d, o) :: rest g h L d) := fun p hp => by
  rcases List.mem_cons.mp hp with rfl | hp
  · exact ⟨h3, h1, h2⟩
  · exact news_all p (List.mem_filter.mp hp).1
/-- behind a rule that changed d alone: all else but the frame is kept -/
theorem kept_of_news {g h h' : Heap} {L d : Addr} {m : Str → Option Value} (k : ∀ b o, g.get? b = some o → h.get? b = some o) (F : Fr g L h' m) (N : News g L h' (rest g h L d)) :
    ∀ b o, b ≠ L → b ≠ d → h.get? b = some o → h'.get? b = some o := fun b o h1 h2 e => by
  cases q : g.get? b with
  | some u =>
    have := k b u q
    rw [e] at this; cases this
    exact F.keep b _ q
  | none => exact (N (b, o) (mem_rest h1 q e h2)).1
end L2

namespace L2
open PySem PySem.Spec PyProof.Rows

/-- the module's facts, over the base: the heap at the law's entry without what is tracked there -/
structure Mod (K : PySem.W.Frag) (mg : Str → Option Value) (base : Heap) : Prop where
  kin : K.In base
  glob : base.Ns mainGlobals mg
  blt : ∃ mb, base.Ns builtinsNs mb ∧ ∀ x : Str, x ≠ "__name__" → mb x = bootBuiltins x
  nolimit : base.NoLimit

/-- the context: a def's body (or a comprehension's block) running. base: fixed through the whole law; s₀, H₀: the entry; outer: the frames whose slots others may change (a def's callers); stack: all frames that run;
   ex: iterators that were made ahead of the entry and are walked here (a comprehension's); fn: the names whose cells were made at the entry (a def: all; a comprehension's block: its own); calm: not within an except suite; pn: pins that every state bears; xe: what is wanted of an exception that leaves the code -/
structure Cx where
  prog : Program
  w : World
  K : PySem.W.Frag
  mg : Str → Option Value
  base : Heap
  A : Around
  N : List Str
  s₀ : Shared
  H₀ : Hp
  env : Env
  outer : List Env
  stack : List Env
  ex : List Addr
  fn : Str → Bool
  calm : Bool
  pn : List (Addr × Obj)
  xe : Value → Shared → Prop
/-- the callers' frames -/
def frs (l : List Env) : List Addr := l.filterMap (·.frame)
abbrev Cx.fs (X : Cx) : List Addr := frs X.outer

def Vis (sc : Scope) (x : Str) : Prop := sc.names.lookup x = some .local ∨ sc.names.lookup x = some .cell ∨ sc.names.lookup x = some .free
def Loc (sc : Scope) (x : Str) : Prop := sc.names.lookup x = some .local ∨ sc.names.lookup x = some .cell
def Look (env : Env) (h : Heap) (m : Str → Option Value) (x : Str) (u : Value) : Prop :=
  (env.kindOf x = some .local ∧ m x = some u) ∨ ((env.kindOf x = some .cell ∨ env.kindOf x = some .free) ∧ ∃ c, env.cells.lookup x = some c ∧ h.IsCell c (some u))

structure Cx.Ok (X : Cx) : Prop where
  mod : Mod X.K X.mg X.base
  kind : X.env.scope.kind = .function
  glob : X.env.globals = mainGlobals
  blt : X.env.builtins = builtinsNs
  above : X.s₀.heap.objs.size ≤ X.env.locals
  inj : ∀ x y c, X.env.cells.lookup x = some c → X.env.cells.lookup y = some c → x = y
  has : ∀ x, (X.env.kindOf x = some .cell ∨ X.env.kindOf x = some .free) → ∃ c, X.env.cells.lookup x = some c
  cab : ∀ x c, X.fn x = true → X.env.cells.lookup x = some c → X.s₀.heap.objs.size ≤ c
  hd : X.calm = true → X.A.handled = none
  frames : X.A.frames = some X.stack
  stk : X.stack = X.outer ∨ (X.stack = X.env :: X.outer ∧ X.env.frame = some X.env.locals)
  exf : ∀ b ∈ X.ex, b ≠ X.env.locals ∧ ∀ x c, X.env.cells.lookup x = some c → c ≠ b
  bs : ∀ b o, X.base.get? b = some o → X.s₀.heap.get? b = some o ∧ X.H₀ b = none
  bsz : X.base.objs.size ≤ X.s₀.heap.objs.size
  noex : ∀ b o, X.base.get? b = some o → b ∉ X.ex
  exfs : ∀ b ∈ X.ex, b ∉ X.fs
  funs : X.s₀.heap.FunFrames X.base X.outer
  frf : ∀ b ∈ X.fs, X.H₀ b = none

structure Inv (X : Cx) (pins : List (Addr × Obj)) (σ : List (Option V)) (H : Hp) (s : Shared) : Prop where
  ok : X.Ok
  os : s.os = X.s₀.os
  bare : AllBare s.gens
  base : Un X.fs X.ex X.H₀ H X.s₀.heap s.heap
  loc : ∃ m, s.heap.Ns X.env.locals m ∧ ∀ (i : Nat) (x : Str) (v : V), X.N[i]? = some x → σ[i]? = some (some v) → Vis X.env.scope x → ∃ u, RelV v u ∧ Look X.env s.heap m x u
  cell : ∀ x c, X.env.cells.lookup x = some c → ∃ v, s.heap.IsCell c v
  free : H X.env.locals = none
  freeC : ∀ x c, X.env.cells.lookup x = some c → H c = none
  pin : ∀ p ∈ X.pn ++ pins, s.heap.get? p.1 = some p.2 ∧ H p.1 = none ∧ p.1 ≠ X.env.locals ∧ p.1 ∉ X.fs ∧ ∀ v, p.2.data ≠ .cell v
  hok : HOk X.prog X.w H s.heap
  len : σ.length = X.N.length

section
variable {X : Cx} {pins : List (Addr × Obj)} {σ : List (Option V)} {H H' : Hp} {s : Shared} {h' : Heap}

theorem Cx.Ok.nofr (ok : X.Ok) {b : Addr} {o : Obj} (e : X.base.get? b = some o) : b ∉ X.fs := fun hb => by
  have := (ok.funs.mem hb).1
  rw [e] at this; cases this
theorem Inv.bs (I : Inv X pins σ H s) : ∀ b o, X.base.get? b = some o → s.heap.get? b = some o ∧ H b = none := fun b o e =>
  ⟨I.base.keep b o (I.ok.bs b o e).1 (I.ok.bs b o e).2 (I.ok.nofr e) (I.ok.noex b o e), I.base.free b o (I.ok.bs b o e).1 (I.ok.bs b o e).2 (I.ok.noex b o e)⟩
theorem Inv.bk (I : Inv X pins σ H s) : ∀ b o, X.base.get? b = some o → s.heap.get? b = some o := fun b o e => (I.bs b o e).1
theorem Inv.mod (I : Inv X pins σ H s) : Mod X.K X.mg X.base := I.ok.mod
theorem Inv.kIn (I : Inv X pins σ H s) : X.K.In s.heap := I.ok.mod.kin.keeps I.bk
theorem Inv.nolimit (I : Inv X pins σ H s) : s.heap.NoLimit := I.ok.mod.nolimit.keeps I.bk
/-- the frame over the base: for OpenK's rules (K.In X.base is I.mod.kin) -/
theorem Inv.fr (I : Inv X pins σ H s) : ∃ m, Fr X.base X.env.locals s.heap m :=
  let ⟨m, hn, _⟩ := I.loc
  ⟨m, hn, I.bk, Nat.le_trans I.ok.bsz I.ok.above⟩
theorem Inv.lt (I : Inv X pins σ H s) : X.env.locals < s.heap.objs.size := let ⟨_, hn, _⟩ := I.loc; hn.lt
theorem Inv.sz (I : Inv X pins σ H s) : X.s₀.heap.objs.size ≤ s.heap.objs.size := Nat.le_trans I.ok.above (Nat.le_of_lt I.lt)
theorem Inv.nofs (I : Inv X pins σ H s) {a : Addr} (h : s.heap.objs.size ≤ a) : a ∉ X.fs := fun hb => by
  obtain ⟨_, o, ho, _⟩ := I.ok.funs.mem hb
  exact absurd (Nat.lt_of_lt_of_le (Heap.lt_size ho) (Nat.le_trans I.sz h)) (Nat.lt_irrefl _)
theorem Inv.cne (I : Inv X pins σ H s) : ∀ x c, X.env.cells.lookup x = some c → c ≠ X.env.locals := fun x c e z => by
  obtain ⟨v, o, ho, hd⟩ := I.cell x c e
  obtain ⟨m, ⟨o', es, ep, ho', hd', _⟩, _⟩ := I.loc
  rw [z, ho'] at ho; cases ho; rw [hd'] at hd; cases hd
theorem Inv.funs (I : Inv X pins σ H s) : s.heap.FunFrames X.base X.outer := by
  have all : ∀ (l : List Env), (∀ b ∈ frs l, b ∈ X.fs) → X.s₀.heap.FunFrames X.base l → s.heap.FunFrames X.base l := by
    intro l
    induction l with
    | nil => intro _ _; trivial
    | cons env r ih =>
      intro hs hl
      obtain ⟨hk, ⟨L, o, hf, hn, ho, hd⟩, hr⟩ := hl
      have hL : L ∈ X.fs := hs L (by unfold frs; rw [List.filterMap_cons, hf]; exact List.mem_cons_self)
      obtain ⟨sl, e⟩ := I.base.slot L o ho (I.ok.frf L hL) hL fun z => I.ok.exfs L z hL
      exact ⟨hk, ⟨L, _, hf, hn, e, hd⟩, ih (fun b hb => hs b (by unfold frs; rw [List.filterMap_cons, hf]; exact List.mem_cons_of_mem _ hb)) hr⟩
  exact all X.outer (fun _ hb => hb) I.ok.funs

/-- the frames that run, for a call -/
theorem Inv.stack (I : Inv X pins σ H s) : s.heap.FunFrames X.base X.stack := by
  rcases I.ok.stk with e | ⟨e, hf⟩
  · rw [e]; exact I.funs
  · rw [e]
    obtain ⟨m, hn, _⟩ := I.loc
    refine .cons (by rw [I.ok.kind]; decide) hf hn ?_ I.funs
    exact Heap.get?_none_of_le (Nat.le_trans I.ok.bsz I.ok.above)
theorem Inv.stkSub (I : Inv X pins σ H s) : ∀ b ∈ frs X.stack, b ∈ X.env.locals :: X.fs := fun b hb => by
  rcases I.ok.stk with e | ⟨e, hf⟩
  · rw [e] at hb; exact List.mem_cons_of_mem _ hb
  · rw [e] at hb
    unfold frs at hb
    rw [List.filterMap_cons, hf] at hb
    exact hb
theorem Inv.stkFree (I : Inv X pins σ H s) : ∀ b ∈ frs X.stack, H b = none := fun b hb => by
  rcases List.mem_cons.mp (I.stkSub b hb) with e | hb
  · rw [e]; exact I.free
  · obtain ⟨_, o, ho, _⟩ := I.ok.funs.mem hb
    exact I.base.free b o ho (I.ok.frf b hb) fun z => I.ok.exfs b z hb

/-- THE STEP: the untracked objects but the frame and the records at ch are kept (the callers' frames up to slots), the frame's map is kept, the new abstract heap is held -/
theorem Inv.step {g' : Array GenState} {t' : Nat} {d' : Drawn} {ch : List Addr} (I : Inv X pins σ H s)
    (hch : ∀ b ∈ ch, (b ∈ X.ex ∨ X.s₀.heap.objs.size ≤ b) ∧ b ≠ X.env.locals ∧ (∀ x c, X.env.cells.lookup x = some c → c ≠ b) ∧ ∀ p ∈ X.pn ++ pins, p.1 ≠ b)
    (keep : ∀ b o, b ≠ X.env.locals → b ∉ X.fs → b ∉ ch → s.heap.get? b = some o → H b = none → h'.get? b = some o)
    (slot : ∀ b o, b ≠ X.env.locals → b ∈ X.fs → b ∉ ch → s.heap.get? b = some o → H b = none → ∃ sl, h'.get? b = some { o with slots := sl }) (free : ∀ b o, b ∉ ch → s.heap.get? b = some o → H b = none → H' b = none)
    (there : ∀ b o, b ∉ ch → s.heap.get? b = some o → ∃ o', h'.get? b = some o')
    (tups : ∀ b xs, H b = some (.tup xs) → H' b = some (.tup xs)) (frzs : ∀ b o u, H b = some (.frz o u) → H' b = some (.frz o u)) (tbls : ∀ b ps, H b = some (.tbl ps) → ∃ more, H' b = some (.tbl (ps ++ more)))
    (ns : ∀ m, s.heap.Ns X.env.locals m → h'.Ns X.env.locals m) (hok : HOk X.prog X.w H' h') (hg : AllBare g') :
    Inv X pins σ H' { s with heap := h', gens := g', drawn := d', toks := t' } := by
  have neL : ∀ b o, X.s₀.heap.get? b = some o → b ≠ X.env.locals := fun b o e => Nat.ne_of_lt (Nat.lt_of_lt_of_le (Heap.lt_size e) I.ok.above)
  have neC : ∀ b o, X.s₀.heap.get? b = some o → b ∉ X.ex → b ∉ ch := fun b o e hx hb => by
    rcases (hch b hb).1 with z | z
    · exact hx z
    · exact absurd (Nat.lt_of_lt_of_le (Heap.lt_size e) z) (Nat.lt_irrefl _)
  have cellK : ∀ x c, X.env.cells.lookup x = some c → ∀ v, s.heap.IsCell c v → h'.IsCell c v := fun x c e v ⟨o, ho, hd⟩ => by
    have nch : c ∉ ch := fun z => (hch c z).2.2.1 x c e rfl
    by_cases hc : c ∈ X.fs
    · obtain ⟨sl, q⟩ := slot c o (I.cne x c e) hc nch ho (I.freeC x c e)
      exact ⟨_, q, hd⟩
    · exact ⟨o, keep c o (I.cne x c e) hc nch ho (I.freeC x c e), hd⟩
  refine ⟨I.ok, I.os, hg, ⟨fun b o e n hb hx => ?_, fun b o e n hb hx => ?_, fun b o e n hx => ?_, fun b o e hx => ?_, fun b xs e => tups b xs (I.base.tups b xs e), fun b o xs e => frzs b o xs (I.base.frzs b o xs e), fun b ps e => ?_⟩, ?_, fun x c e => ?_, ?_, fun x c e => ?_, fun p hp => ?_, hok, I.len⟩
  · exact keep b o (neL b o e) hb (neC b o e hx) (I.base.keep b o e n hb hx) (I.base.free b o e n hx)
  · obtain ⟨sl, e1⟩ := I.base.slot b o e n hb hx
    obtain ⟨sl', e2⟩ := slot b _ (neL b o e) hb (neC b o e hx) e1 (I.base.free b o e n hx)
    exact ⟨sl', e2⟩
  · obtain ⟨o', e1⟩ := I.base.there b o e hx
    exact free b o' (neC b o e hx) e1 (I.base.free b o e n hx)
  · obtain ⟨o', e1⟩ := I.base.there b o e hx
    exact there b o' (neC b o e hx) e1
  · obtain ⟨m1, e1⟩ := I.base.tbls b ps e
    obtain ⟨m2, e2⟩ := tbls b _ e1
    exact ⟨m1 ++ m2, by rw [e2, Array.append_assoc]⟩
  · obtain ⟨m, hn, hl⟩ := I.loc
    refine ⟨m, ns m hn, fun i x v e1 e2 e3 => ?_⟩
    obtain ⟨u, r, l⟩ := hl i x v e1 e2 e3
    refine ⟨u, r, ?_⟩
    rcases l with l | ⟨k, c, e, z⟩
    · exact .inl l
    · exact .inr ⟨k, c, e, cellK x c e _ z⟩
  · obtain ⟨v, z⟩ := I.cell x c e
    exact ⟨v, cellK x c e v z⟩
  · obtain ⟨m, ⟨o, _, _, ho, _⟩, _⟩ := I.loc
    exact free _ o (fun z => (hch _ z).2.1 rfl) ho I.free
  · obtain ⟨v, o, ho, hd⟩ := I.cell x c e
    exact free c o (fun z => (hch c z).2.2.1 x c e rfl) ho (I.freeC x c e)
  · obtain ⟨e, n, ne, nf, d⟩ := I.pin p hp
    have nch : p.1 ∉ ch := fun z => (hch p.1 z).2.2.2 p hp rfl
    exact ⟨keep p.1 p.2 ne nf nch e n, free p.1 p.2 nch e n, ne, nf, d⟩
/-- .. where the frame's own object is kept too -/
theorem Inv.un {t' : Nat} (I : Inv X pins σ H s) (u : Un X.fs [] H H' s.heap h') (hok : HOk X.prog X.w H' h') : Inv X pins σ H' { s with heap := h', toks := t' } := by
  obtain ⟨m, ⟨o, es, ep, ho, r⟩, _⟩ := id I.loc
  obtain ⟨sl, hL⟩ := u.any ho I.free (by simp)
  exact I.step (g' := s.gens) (d' := s.drawn) (ch := []) (fun _ z => nomatch z) (fun b o _ hb _ e n => u.keep b o e n hb (by simp)) (fun b o _ hb _ e n => u.slot b o e n hb (by simp)) (fun b o _ e n => u.free b o e n (by simp)) (fun b o _ e => u.there b o e (by simp)) u.tups u.frzs u.tbls (fun m' hm => by
    obtain ⟨o', es', ep', ho', r'⟩ := hm
    rw [ho] at ho'; cases ho'
    exact ⟨_, es', ep', hL, r'⟩) hok I.bare
/-- behind a call (or a comprehension's block): the slots of this frame may have changed too, the records at ch may have turned -/
theorem Inv.call {g' : Array GenState} {t' : Nat} {d' : Drawn} {ch : List Addr} (I : Inv X pins σ H s) (u : Un (frs X.stack) ch H H' s.heap h') (hok : HOk X.prog X.w H' h') (hg : AllBare g')
    (hch : ∀ b ∈ ch, (b ∈ X.ex ∨ X.s₀.heap.objs.size ≤ b) ∧ b ≠ X.env.locals ∧ (∀ x c, X.env.cells.lookup x = some c → c ≠ b) ∧ ∀ p ∈ X.pn ++ pins, p.1 ≠ b) :
    Inv X pins σ H' { s with heap := h', gens := g', drawn := d', toks := t' } := by
  obtain ⟨m, ⟨o, es, ep, ho, r⟩, _⟩ := id I.loc
  obtain ⟨sl, hL⟩ := u.any ho I.free fun z => (hch _ z).2.1 rfl
  exact I.step (ch := ch) hch (fun b o hL hb hc e n => u.keep b o e n (fun z => (List.mem_cons.mp (I.stkSub b z)).elim hL hb) hc) (fun b o _ _ hc e n => u.any e n hc) (fun b o hc e n => u.free b o e n hc) (fun b o hc e => u.there b o e hc) u.tups u.frzs u.tbls (fun m' hm => by
    obtain ⟨o', es', ep', ho', r'⟩ := hm
    rw [ho] at ho'; cases ho'
    exact ⟨_, es', ep', hL, r'⟩) hok hg
/-- an untracked record of ours (an iterator) has turned -/
theorem Inv.turned {t' : Nat} {it : Addr} (I : Inv X pins σ H s) (k : ∀ b o, b ≠ it → s.heap.get? b = some o → h'.get? b = some o) (hn : H it = none) (hL : it ≠ X.env.locals)
    (h1 : it ∈ X.ex ∨ X.s₀.heap.objs.size ≤ it) (h2 : ∀ x c, X.env.cells.lookup x = some c → c ≠ it) (h3 : ∀ p ∈ X.pn ++ pins, p.1 ≠ it) : Inv X pins σ H { s with heap := h', toks := t' } := by
  have nit : ∀ b u, H b = some u → b ≠ it := fun b u e z => by rw [z, hn] at e; cases e
  refine I.step (g' := s.gens) (d' := s.drawn) (ch := [it]) (fun b hb => ?_) (fun b o _ _ hc e _ => k b o (fun z => hc (by simp [z])) e) (fun b o _ _ hc e _ => ⟨o.slots, k b o (fun z => hc (by simp [z])) e⟩) (fun _ _ _ _ n => n)
    (fun b o hc e => ⟨o, k b o (fun z => hc (by simp [z])) e⟩) (fun _ _ e => e) (fun _ _ _ e => e) (fun b ps e => ⟨#[], by rw [e]; simp⟩) (fun m hm => ?_) (fun b u e => ?_) I.bare
  · have e : b = it := by simpa using hb
    subst e
    exact ⟨h1, hL, h2, h3⟩
  · obtain ⟨o, es, ep, ho, r⟩ := hm
    exact ⟨o, es, ep, k _ o (Ne.symm hL) ho, r⟩
  · refine (I.hok b u e).stay (fun c v hc q => k c v ?_ q) (fun _ q => q) fun _ _ q => q
    rcases hc with z | z
    · rw [z]; exact nit b u e
    · exact nit c _ z
theorem Inv.tok (I : Inv X pins σ H s) (t : Nat) : Inv X pins σ H { s with toks := t } := I.un (h' := s.heap) (t' := t) Un.refl I.hok
/-- all objects kept -/
theorem Inv.kept {t' : Nat} (I : Inv X pins σ H s) (k : ∀ b u, s.heap.get? b = some u → h'.get? b = some u) : Inv X pins σ H { s with heap := h', toks := t' } := I.un (Un.kept k) (I.hok.kept k)
/-- a new object laid and tracked -/
theorem Inv.laid {a : Addr} {o : HO} {t' : Nat} (I : Inv X pins σ H s) (k : ∀ b u, s.heap.get? b = some u → h'.get? b = some u) (hp : s.heap.objs.size ≤ a) (new : ObjOk X.prog X.w (upd H a o) h' a o) :
    Inv X pins σ (upd H a o) { s with heap := h', toks := t' } := I.un (Un.laid k hp (I.hok.fresh hp)) (I.hok.laid k hp new)
/-- an object written -/
theorem Inv.write {x e : Addr} {o : HO} {t' : Nat} (I : Inv X pins σ H s) (mu : Mut (H x)) (he : e = x ∨ H e = some (.own x)) (k : ∀ b u, b ≠ e → s.heap.get? b = some u → h'.get? b = some u) (heo : ∃ u, h'.get? e = some u)
    (new : ObjOk X.prog X.w (upd H x o) h' x o) : Inv X pins σ (upd H x o) { s with heap := h', toks := t' } := I.un (Un.write mu he k heo) (I.hok.write mu he k heo new)
/-- forgetting slots, pins -/
theorem Inv.weak {σ' : List (Option V)} (I : Inv X pins σ H s) (hl : σ'.length = σ.length) (w : ∀ (i : Nat) v, σ'[i]? = some (some v) → σ[i]? = some (some v)) : Inv X pins σ' H s :=
  ⟨I.ok, I.os, I.bare, I.base, let ⟨m, hn, hl'⟩ := I.loc; ⟨m, hn, fun i x v e1 e2 e3 => hl' i x v e1 (w i v e2) e3⟩, I.cell, I.free, I.freeC, I.pin, I.hok, hl.trans I.len⟩
theorem Inv.pins_of {pins' : List (Addr × Obj)} (I : Inv X pins σ H s) (h : ∀ p ∈ pins', s.heap.get? p.1 = some p.2 ∧ H p.1 = none ∧ p.1 ≠ X.env.locals ∧ p.1 ∉ X.fs ∧ ∀ v, p.2.data ≠ .cell v) : Inv X pins' σ H s :=
  ⟨I.ok, I.os, I.bare, I.base, I.loc, I.cell, I.free, I.freeC, fun p hp => (List.mem_append.mp hp).elim (fun z => I.pin p (List.mem_append_left _ z)) (h p), I.hok, I.len⟩

theorem nodup_ix {N : List Str} (hN : N.Nodup) {i j : Nat} {x : Str} (a : N[i]? = some x) (b : N[j]? = some x) : i = j := by
  obtain ⟨h1, e1⟩ := List.getElem?_eq_some_iff.mp a
  obtain ⟨h2, e2⟩ := List.getElem?_eq_some_iff.mp b
  exact (List.getElem_inj hN).mp (e1.trans e2.symm)

/-- a name is stored; what changed -/
theorem store_ok2 {M : Model} {A : Around} {E : Value → Shared → Prop} {i : Nat} {x : Str} {v : V} {u : Value} {Q : Unit → Shared → Prop} (I : Inv X pins σ H s) (hN : X.N.Nodup) (hi : X.N[i]? = some x) (hx : Loc X.env.scope x) (r : RelV v u)
    (h : ∀ s', Inv X pins (σ.set i (some v)) H s' → (∃ a, Heap.SameBut a s.heap s'.heap ∧ (a = X.env.locals ∨ X.env.cells.lookup x = some a)) → Q () s') (hf : X.fn x = true ∨ X.env.scope.names.lookup x = some .local := by first | exact .inl rfl | exact .inr rfl | assumption) : wpAny M A (storeName X.env x u) Q E s := by
  obtain ⟨m, hn, hl⟩ := id I.loc
  have hcls : (X.env.scope.kind == .class || (X.env.scope.kind == .module && X.env.locals != X.env.globals)) = false := by rw [I.ok.kind]; rfl
  have hiσ : i < σ.length := by rw [I.len]; exact (List.getElem?_eq_some_iff.mp hi).1
  have cne := I.cne
  have tracked : ∀ {a : Addr} {h' : Heap}, (∃ o, s.heap.get? a = some o ∧ H a = none) → Heap.SameBut a s.heap h' → HOk X.prog X.w H h' := fun {a h'} ha hs b ob e => by
    obtain ⟨_, _, hfree⟩ := ha
    refine (I.hok b ob e).stay (fun c w' hc q => (hs.2 c ?_).trans q) (fun _ q => q) fun _ _ q => q
    rintro rfl
    rcases hc with rfl | hc
    · rw [hfree] at e; cases e
    · rw [hfree] at hc; cases hc
  rcases hx with hk | hk
  · refine wpAny_storeName_local hk hn (fun h' hn' hs => ?_) hcls
    obtain ⟨oL, _, _, hoL, _⟩ := id hn
    refine h _ ⟨I.ok, I.os, I.bare, ⟨fun b o e n hb hx => ?_, fun b o e n hb hx => ?_, I.base.free, fun b o e hx => ?_, I.base.tups, I.base.frzs, I.base.tbls⟩, ⟨_, hn', fun j y v' e1 e2 e3 => ?_⟩, fun y c e => ?_, I.free, I.freeC, fun p hp => ?_, tracked ⟨oL, hoL, I.free⟩ hs, by simpa using I.len⟩ ⟨_, hs, .inl rfl⟩
    · exact (hs.2 b (Nat.ne_of_lt (Nat.lt_of_lt_of_le (Heap.lt_size e) I.ok.above))).trans (I.base.keep b o e n hb hx)
    · obtain ⟨sl, e1⟩ := I.base.slot b o e n hb hx
      exact ⟨sl, (hs.2 b (Nat.ne_of_lt (Nat.lt_of_lt_of_le (Heap.lt_size e) I.ok.above))).trans e1⟩
    · obtain ⟨o', e1⟩ := I.base.there b o e hx
      exact ⟨o', (hs.2 b (Nat.ne_of_lt (Nat.lt_of_lt_of_le (Heap.lt_size e) I.ok.above))).trans e1⟩
    · by_cases hj : j = i
      · subst hj
        rw [hi] at e1; cases e1
        rw [List.getElem?_set_self hiσ] at e2
        cases e2
        exact ⟨u, r, .inl ⟨hk, by simp⟩⟩
      · rw [List.getElem?_set_ne (Ne.symm hj)] at e2
        obtain ⟨u', r', q⟩ := hl j y v' e1 e2 e3
        refine ⟨u', r', ?_⟩
        rcases q with ⟨k, e⟩ | ⟨k, c, e, z⟩
        · refine .inl ⟨k, ?_⟩
          have : y ≠ x := fun e => hj (nodup_ix hN e1 (e ▸ hi))
          simp [this, e]
        · exact .inr ⟨k, c, e, z.sameBut hs (cne y c e)⟩
    · obtain ⟨w', z⟩ := I.cell y c e
      exact ⟨w', z.sameBut hs (cne y c e)⟩
    · obtain ⟨e, n, ne, nf, d⟩ := I.pin p hp
      exact ⟨(hs.2 p.1 ne).trans e, n, ne, nf, d⟩
  · have hfn : X.fn x = true := by
      rcases hf with z | z
      · exact z
      · rw [z] at hk; cases hk
    obtain ⟨c, hc⟩ := I.ok.has x (.inl hk)
    obtain ⟨w', z⟩ := I.cell x c hc
    refine wpAny_storeName_cell I.ok.kind hk hc z (fun h' hc' hs => ?_)
    obtain ⟨oc, hoc, hocd⟩ := id z
    refine h { s with heap := h' } ⟨I.ok, I.os, I.bare, ⟨fun b o e n hb hx => ?_, fun b o e n hb hx => ?_, I.base.free, fun b o e hx => ?_, I.base.tups, I.base.frzs, I.base.tbls⟩, ⟨m, hn.sameBut hs (Ne.symm (cne x c hc)), fun j y v' e1 e2 e3 => ?_⟩, fun y c' e => ?_, I.free, I.freeC, fun p hp => ?_, tracked ⟨oc, hoc, I.freeC x c hc⟩ hs, by simpa using I.len⟩ ⟨c, hs, .inr hc⟩
    · exact (hs.2 b (Nat.ne_of_lt (Nat.lt_of_lt_of_le (Heap.lt_size e) (I.ok.cab x c hfn hc)))).trans (I.base.keep b o e n hb hx)
    · obtain ⟨sl, e1⟩ := I.base.slot b o e n hb hx
      exact ⟨sl, (hs.2 b (Nat.ne_of_lt (Nat.lt_of_lt_of_le (Heap.lt_size e) (I.ok.cab x c hfn hc)))).trans e1⟩
    · obtain ⟨o', e1⟩ := I.base.there b o e hx
      exact ⟨o', (hs.2 b (Nat.ne_of_lt (Nat.lt_of_lt_of_le (Heap.lt_size e) (I.ok.cab x c hfn hc)))).trans e1⟩
    · by_cases hj : j = i
      · subst hj
        rw [hi] at e1; cases e1
        rw [List.getElem?_set_self hiσ] at e2
        cases e2
        exact ⟨u, r, .inr ⟨.inl hk, c, hc, hc'⟩⟩
      · rw [List.getElem?_set_ne (Ne.symm hj)] at e2
        obtain ⟨u', r', q⟩ := hl j y v' e1 e2 e3
        refine ⟨u', r', ?_⟩
        rcases q with q | ⟨k, c', e, z'⟩
        · exact .inl q
        · refine .inr ⟨k, c', e, z'.sameBut hs ?_⟩
          rintro rfl
          exact hj (nodup_ix hN e1 (I.ok.inj _ _ _ e hc ▸ hi))
    · by_cases hcc : c' = c
      · subst hcc; exact ⟨_, hc'⟩
      · obtain ⟨w2, z2⟩ := I.cell y c' e
        exact ⟨w2, z2.sameBut hs hcc⟩
    · obtain ⟨e, n, ne, nf, d⟩ := I.pin p hp
      refine ⟨(hs.2 p.1 ?_).trans e, n, ne, nf, d⟩
      intro q
      rw [q, hoc] at e
      have q' : oc = p.2 := Option.some.inj e
      exact d w' (by rw [← q']; exact hocd)
theorem store_ok {M : Model} {A : Around} {E : Value → Shared → Prop} {i : Nat} {x : Str} {v : V} {u : Value} {Q : Unit → Shared → Prop} (I : Inv X pins σ H s) (hN : X.N.Nodup) (hi : X.N[i]? = some x) (hx : Loc X.env.scope x) (r : RelV v u)
    (h : ∀ s', Inv X pins (σ.set i (some v)) H s' → Q () s') (hf : X.fn x = true ∨ X.env.scope.names.lookup x = some .local := by first | exact .inl rfl | exact .inr rfl | assumption) : wpAny M A (storeName X.env x u) Q E s :=
  store_ok2 I hN hi hx r (fun s' I' _ => h s' I') hf
/-- behind a call or a block, the state as it is -/
theorem Inv.call' {s' : Shared} {ch : List Addr} (I : Inv X pins σ H s) (ho : s'.os = s.os) (u : Un (frs X.stack) ch H H' s.heap s'.heap) (hok : HOk X.prog X.w H' s'.heap) (hg : AllBare s'.gens)
    (hch : ∀ b ∈ ch, (b ∈ X.ex ∨ X.s₀.heap.objs.size ≤ b) ∧ b ≠ X.env.locals ∧ (∀ x c, X.env.cells.lookup x = some c → c ≠ b) ∧ ∀ p ∈ X.pn ++ pins, p.1 ≠ b) : Inv X pins σ H' s' := by
  obtain ⟨h', g', d', t', o'⟩ := s'
  have e : o' = s.os := ho
  subst e
  exact I.call (g' := g') (t' := t') (d' := d') u hok hg hch
end

/-! ### the judgements -/
/-- an exception: its class, its own dict's address (where it has one), the abstract heap behind it -/
abbrev XK := Value → Option Addr → Hp → Prop
abbrev St := List (Option V)
abbrev VK := V → Hp → Prop
/-- an expression's reading; a test's; an argument list's -/
abbrev TE := St → Hp → VK → Prop
abbrev TT := St → Hp → (Bool → Hp → Prop) → Prop
abbrev TA := St → Hp → (List V → Hp → Prop) → Prop
/-- what is wanted behind a statement -/
structure Ends where
  nx : St → Hp → Prop
  rt : VK
  bk : St → Hp → Prop := fun _ _ => False
  ct : St → Hp → Prop := fun _ _ => False
abbrev TS := Ends → St → Hp → Prop

def EP (X : Cx) (pins : List (Addr × Obj)) (σ : St) (Q : VK) (u : Value) (s' : Shared) : Prop := ∃ v H', Inv X pins σ H' s' ∧ RelV v u ∧ Q v H'
def TP (X : Cx) (pins : List (Addr × Obj)) (σ : St) (Q : Bool → Hp → Prop) (b : Bool) (s' : Shared) : Prop := ∃ H', Inv X pins σ H' s' ∧ Q b H'
def AP (X : Cx) (pins : List (Addr × Obj)) (σ : St) (Q : List V → Hp → Prop) (us : List Value) (s' : Shared) : Prop := ∃ vs H', Inv X pins σ H' s' ∧ Vals vs us ∧ Q vs H'
def SP (X : Cx) (pins : List (Addr × Obj)) (D : Ends) (f : Flow) (s' : Shared) : Prop :=
  match f with
  | .next => ∃ σ' H', Inv X pins σ' H' s' ∧ D.nx σ' H'
  | .brk => ∃ σ' H', Inv X pins σ' H' s' ∧ D.bk σ' H'
  | .cont => ∃ σ' H', Inv X pins σ' H' s' ∧ D.ct σ' H'
  | .ret u => ∃ v σ' H', Inv X pins σ' H' s' ∧ RelV v u ∧ D.rt v H'

def PE (X : Cx) (e : Expr) (t : TE) : Prop :=
  ∀ (pins : List (Addr × Obj)) (s : Shared) (σ : St) (H : Hp) (Q : VK), Inv X pins σ H s → t σ H Q → wpAny (model X.prog X.w) X.A (eval e X.env) (EP X pins σ Q) X.xe s
def PT (X : Cx) (e : Expr) (t : TT) : Prop :=
  ∀ (pins : List (Addr × Obj)) (s : Shared) (σ : St) (H : Hp) (Q : Bool → Hp → Prop), Inv X pins σ H s → t σ H Q → wpAny (model X.prog X.w) X.A (isTrue e X.env (eval e X.env)) (TP X pins σ Q) X.xe s
/-- a test whatever its 'whole' is (and, or) -/
def PW (X : Cx) (e : Expr) (t : TT) : Prop :=
  ∀ (whole : Sem Value) (pins : List (Addr × Obj)) (s : Shared) (σ : St) (H : Hp) (Q : Bool → Hp → Prop), Inv X pins σ H s → t σ H Q → wpAny (model X.prog X.w) X.A (isTrue e X.env whole) (TP X pins σ Q) X.xe s
theorem PW.pt {X : Cx} {e : Expr} {t : TT} (h : PW X e t) : PT X e t := h _
/-- an argument list (no star), from the left -/
def PA (X : Cx) (es : List Expr) (t : TA) : Prop :=
  ∀ (pos : Pos) (pins : List (Addr × Obj)) (s : Shared) (σ : St) (H : Hp) (Q : List V → Hp → Prop), Inv X pins σ H s → t σ H Q → wpAny (model X.prog X.w) X.A (spliced (backTo pos (starEach es X.env))) (AP X pins σ Q) X.xe s
def PS (X : Cx) (st : Stmt) (t : TS) : Prop :=
  ∀ (pins : List (Addr × Obj)) (s : Shared) (σ : St) (H : Hp) (D : Ends), Inv X pins σ H s → t D σ H → wpAny (model X.prog X.w) X.A (exec st X.env) (SP X pins D) X.xe s
def PSs (X : Cx) (st : List Stmt) (t : TS) : Prop :=
  ∀ (pins : List (Addr × Obj)) (s : Shared) (σ : St) (H : Hp) (D : Ends), Inv X pins σ H s → t D σ H → wpAny (model X.prog X.w) X.A (execs st X.env) (SP X pins D) X.xe s
/-- weaken the end -/
theorem thn {α : Type} {t : Sem α} {Q Q' : α → Shared → Prop} {M : Model} {A : Around} {E : Value → Shared → Prop} {s : Shared} (h : wpAny M A t Q E s) (hQ : ∀ a s, Q a s → Q' a s) : wpAny M A t Q' E s := wpAny_mono h hQ fun _ _ x => x
end L2

namespace L2
open PySem PySem.Spec PyProof.Rows
section
variable {X : Cx}

/-- two expressions in a row -/
theorem bin {a b : Expr} {ta tb : TE} (ha : PE X a ta) (hb : PE X b tb) {pins : List (Addr × Obj)} {s : Shared} {σ : St} {H : Hp} {R : V → V → Hp → Prop} (I : Inv X pins σ H s) (h : ta σ H fun x H1 => tb σ H1 fun y H2 => R x y H2)
    {α : Type} {Q : α → Shared → Prop} {f : Value → Value → Sem α}
    (hf : ∀ v u s2 x y H2, Inv X pins σ H2 s2 → RelV x v → RelV y u → R x y H2 → wpAny (model X.prog X.w) X.A (f v u) Q X.xe s2) :
    wpAny (model X.prog X.w) X.A (eval a X.env) (fun v s₁ => wpAny (model X.prog X.w) X.A (eval b X.env) (fun u s₂ => wpAny (model X.prog X.w) X.A (f v u) Q X.xe s₂) X.xe s₁) X.xe s := by
  refine thn (ha pins s σ H _ I h) fun v s1 ⟨x, H1, I1, r1, q1⟩ => ?_
  refine thn (hb pins s1 σ H1 _ I1 q1) fun u s2 ⟨y, H2, I2, r2, q2⟩ => ?_
  exact hf v u s2 x y H2 I2 r1 r2 q2

/-! ### names and constants -/
def tVar (i : Nat) : TE := fun σ H Q => ∃ v, σ[i]? = some (some v) ∧ Q v H
def tC (v : V) : TE := fun _ H Q => Q v H
theorem pe_var {i : Nat} {x : Str} {pos : Pos} (hN : X.N[i]? = some x) (hv : Vis X.env.scope x) (hd : (x == ("__debug__" : Str)) = false := by decide) (hcd : (x == ("__classdict__" : Str)) = false := by decide) : PE X (.Name x pos) (tVar i) := by
  intro pins s σ H Q I h
  obtain ⟨v, e, h⟩ := h
  obtain ⟨m, hn, hl⟩ := I.loc
  obtain ⟨u, r, l⟩ := hl i x v hN e hv
  have fin : EP X pins σ Q u s := ⟨v, H, I, r, h⟩
  rcases l with ⟨hk, hm⟩ | ⟨hk, c, hc, hcell⟩
  · exact wpAny_Name (wpAny_loadName_local I.ok.kind hk hn hm fin) hd
  · rcases hk with hk | hk
    · exact wpAny_Name (wpAny_loadName_cell I.ok.kind hk hc hcell fin) hd
    · exact wpAny_Name (wpAny_loadName_free I.ok.kind hk hc hcell fin hcd) hd
theorem pe_int {i j pos} : PE X (.Constant (.int i) j pos) (tC (.int i)) := fun _ _ _ H _ I h => wpAny_Constant_int ⟨.int i, H, I.tok _, ⟨_, rfl⟩, h⟩
theorem pe_bl {b j pos} : PE X (.Constant (.bool b) j pos) (tC (.bl b)) := fun _ _ _ H _ I h => Constant_bool ⟨.bl b, H, I, rfl, h⟩
theorem pe_non {j pos} : PE X (.Constant .none j pos) (tC .non) := fun _ _ _ H _ I h => Constant_none ⟨.non, H, I, rfl, h⟩
theorem pe_str {x j pos} : PE X (.Constant (.str x) j pos) (tC (.str x)) := fun _ _ _ H _ I h => Calls.Constant_str ⟨.str x, H, I.tok _, ⟨_, rfl⟩, h⟩

/-- a global name of the def -/
def Gl (X : Cx) (x : Str) : Prop := X.env.kindOf x = some .globalImplicit
theorem ld_glob {E : Value → Shared → Prop} {pins : List (Addr × Obj)} {s : Shared} {σ : St} {H : Hp} {x : Str} {u : Value} {pos : Pos} {Q : Value → Shared → Prop} (I : Inv X pins σ H s) (hg : Gl X x) (hm : X.mg x = some u) (h : Q u s)
    (hd : (x == ("__debug__" : Str)) = false := by decide) : wpAny (model X.prog X.w) X.A (eval (.Name x pos) X.env) Q E s :=
  Calls.Name_function_global I.ok.kind hg (Calls.loadGlobal_global (by rw [I.ok.glob]; exact I.mod.glob.keeps I.bk) hm h) hd
theorem ld_blt {E : Value → Shared → Prop} {pins : List (Addr × Obj)} {s : Shared} {σ : St} {H : Hp} {x : Str} {u : Value} {pos : Pos} {Q : Value → Shared → Prop} (I : Inv X pins σ H s) (hg : Gl X x) (hm : X.mg x = none) (hv : bootBuiltins x = some u) (h : Q u s)
    (hn : x ≠ "__name__" := by decide) (hd : (x == ("__debug__" : Str)) = false := by decide) : wpAny (model X.prog X.w) X.A (eval (.Name x pos) X.env) Q E s := by
  obtain ⟨mb, h1, h2⟩ := I.mod.blt
  exact Calls.Name_function_global I.ok.kind hg (Calls.loadGlobal_builtin (by rw [I.ok.glob]; exact I.mod.glob.keeps I.bk) hm (by rw [I.ok.blt]; exact h1.keeps I.bk) ((h2 x hn).trans hv) h) hd
/-- a module's constant, a class, a function, as a value -/
theorem pe_glob {x : Str} {v : V} {u : Value} {pos : Pos} (hg : Gl X x) (hm : X.mg x = some u) (r : RelV v u) (hd : (x == ("__debug__" : Str)) = false := by decide) : PE X (.Name x pos) (tC v) :=
  fun _ _ _ H _ I h => ld_glob I hg hm ⟨v, H, I, r, h⟩ hd
theorem pe_bltn {x : Str} {v : V} {u : Value} {pos : Pos} (hg : Gl X x) (hm : X.mg x = none) (hv : bootBuiltins x = some u) (r : RelV v u) (hn : x ≠ "__name__" := by decide) (hd : (x == ("__debug__" : Str)) = false := by decide) : PE X (.Name x pos) (tC v) :=
  fun _ _ _ H _ I h => ld_blt I hg hm hv ⟨v, H, I, r, h⟩ hn hd

/-! ### arithmetic -/
/-- two ints -/
def t2I (ta tb : TE) (k : Int → Int → Hp → Prop) : St → Hp → Prop := fun σ H => ta σ H fun x H1 => tb σ H1 fun y H2 => ∃ i j, x = .int i ∧ y = .int j ∧ k i j H2
def tAdd (ta tb : TE) : TE := fun σ H Q => t2I ta tb (fun i j H2 => Q (.int (i + j)) H2) σ H
def tSub (ta tb : TE) : TE := fun σ H Q => t2I ta tb (fun i j H2 => Q (.int (i - j)) H2) σ H
/-- the left factor below 2^64 -/
def tMul (ta tb : TE) : TE := fun σ H Q => t2I ta tb (fun i j H2 => (-(2 ^ 64) < i ∧ i < 2 ^ 64) ∧ Q (.int (i * j)) H2) σ H
variable {a b : Expr} {ta tb : TE} {pos : Pos}
theorem pe_add (ha : PE X a ta) (hb : PE X b tb) : PE X (.BinOp a .Add b pos) (tAdd ta tb) := by
  intro pins s σ H Q I h
  refine wpAny_BinOp (bin ha hb I h fun v u s2 x y H2 I2 rx ry q => ?_)
  obtain ⟨i, j, rfl, rfl, q⟩ := q
  obtain ⟨t, rfl⟩ := rx
  obtain ⟨t', rfl⟩ := ry
  exact add_int ⟨.int _, H2, I2.tok _, ⟨_, rfl⟩, q⟩
theorem pe_sub (ha : PE X a ta) (hb : PE X b tb) : PE X (.BinOp a .Sub b pos) (tSub ta tb) := by
  intro pins s σ H Q I h
  refine wpAny_BinOp (bin ha hb I h fun v u s2 x y H2 I2 rx ry q => ?_)
  obtain ⟨i, j, rfl, rfl, q⟩ := q
  obtain ⟨t, rfl⟩ := rx
  obtain ⟨t', rfl⟩ := ry
  exact sub_int ⟨.int _, H2, I2.tok _, ⟨_, rfl⟩, q⟩
theorem pe_mul (ha : PE X a ta) (hb : PE X b tb) : PE X (.BinOp a .Mult b pos) (tMul ta tb) := by
  intro pins s σ H Q I h
  refine wpAny_BinOp (bin ha hb I h fun v u s2 x y H2 I2 rx ry q => ?_)
  obtain ⟨i, j, rfl, rfl, ⟨q1, q2⟩, q⟩ := q
  obtain ⟨t, rfl⟩ := rx
  obtain ⟨t', rfl⟩ := ry
  exact mul_int ⟨.int _, H2, I2.tok _, ⟨_, rfl⟩, q⟩ (.of_left (intBits_le_64 q1 q2))

/-! ### comparisons -/
def PC (X : Cx) (op : CmpOp) (a b : Expr) (t : TE) : Prop :=
  ∀ (pins : List (Addr × Obj)) (s : Shared) (σ : St) (H : Hp) (Q : VK), Inv X pins σ H s → t σ H Q →
    wpAny (model X.prog X.w) X.A (eval a X.env) (fun v s₁ => wpAny (model X.prog X.w) X.A (eval b X.env) (fun u s₂ => wpAny (model X.prog X.w) X.A (compareOp op v u) (EP X pins σ Q) X.xe s₂) X.xe s₁) X.xe s
theorem nobehind (b : Expr) {op : CmpOp} (h : op ≠ .In) (h2 : op ≠ .NotIn) : behindInMarks op b = false := by
  have e1 : (op == CmpOp.In) = false := by cases op <;> first | rfl | exact absurd rfl h
  have e2 : (op == CmpOp.NotIn) = false := by cases op <;> first | rfl | exact absurd rfl h2
  cases b <;> simp [behindInMarks, e1, e2]
def tCmp (p : Int → Int → Bool) (ta tb : TE) : TE := fun σ H Q => t2I ta tb (fun i j H2 => Q (.bl (p i j)) H2) σ H
abbrev tLt : TE → TE → TE := tCmp fun i j => decide (i < j)
abbrev tLe : TE → TE → TE := tCmp fun i j => decide (i ≤ j)
abbrev tGt : TE → TE → TE := tCmp fun i j => decide (j < i)
abbrev tGe : TE → TE → TE := tCmp fun i j => decide (j ≤ i)
abbrev tEqI : TE → TE → TE := tCmp fun i j => decide (i = j)
abbrev tNeI : TE → TE → TE := tCmp fun i j => !decide (i = j)
/-- a comparison of two ints, by its rule -/
theorem pc_int {op : CmpOp} {p : Int → Int → Bool} (ha : PE X a ta) (hb : PE X b tb)
    (rule : ∀ (i j : Int) (t u : Tok) (Q : Value → Shared → Prop) (s : Shared), Q (.bool (p i j)) s → wpAny (model X.prog X.w) X.A (compareOp op (.int i t) (.int j u)) Q X.xe s) : PC X op a b (tCmp p ta tb) := by
  intro pins s σ H Q I h
  refine bin ha hb I h fun v u s2 x y H2 I2 rx ry q => ?_
  obtain ⟨i, j, rfl, rfl, q⟩ := q
  obtain ⟨t, rfl⟩ := rx
  obtain ⟨t', rfl⟩ := ry
  exact rule i j t t' _ s2 ⟨.bl _, H2, I2, rfl, q⟩
theorem pc_lt (ha : PE X a ta) (hb : PE X b tb) : PC X .Lt a b (tLt ta tb) := pc_int ha hb fun _ _ _ _ _ _ h => lt_int h
theorem pc_le (ha : PE X a ta) (hb : PE X b tb) : PC X .LtE a b (tLe ta tb) := pc_int ha hb fun _ _ _ _ _ _ h => le_int h
theorem pc_gt (ha : PE X a ta) (hb : PE X b tb) : PC X .Gt a b (tGt ta tb) := pc_int ha hb fun _ _ _ _ _ _ h => gt_int h
theorem pc_ge (ha : PE X a ta) (hb : PE X b tb) : PC X .GtE a b (tGe ta tb) := pc_int ha hb fun _ _ _ _ _ _ h => ge_int h
theorem pc_eqI (ha : PE X a ta) (hb : PE X b tb) : PC X .Eq a b (tEqI ta tb) := pc_int ha hb fun _ _ _ _ _ _ h => eq_int (by rw [Bool.beq_eq_decide_eq]; exact h)
theorem pc_neI (ha : PE X a ta) (hb : PE X b tb) : PC X .NotEq a b (tNeI ta tb) := pc_int ha hb fun _ _ _ _ _ _ h => ne_int (by rw [bne, Bool.beq_eq_decide_eq]; exact h)
/-- is None -/
def tIsN (ta : TE) : TE := fun σ H Q => ta σ H fun x H1 => Q (.bl (decide (x = .non))) H1
def tNotN (ta : TE) : TE := fun σ H Q => ta σ H fun x H1 => Q (.bl (!decide (x = .non))) H1
theorem RelV.none_iff {x : V} {v : Value} (r : RelV x v) : (v == Value.none) = decide (x = .non) := by
  cases x with
  | non => cases r; rfl
  | bl _ => cases r; rfl
  | int _ => obtain ⟨t, rfl⟩ := r; rfl
  | str _ => obtain ⟨t, rfl⟩ := r; rfl
  | byt _ => obtain ⟨t, rfl⟩ := r; rfl
  | flt _ => obtain ⟨t, rfl⟩ := r; rfl
  | ref _ => cases r; rfl
  | ty _ => cases r; rfl
theorem pc_isN {j pos'} (ha : PE X a ta) : PC X .Is a (.Constant .none j pos') (tIsN ta) := by
  intro pins s σ H Q I h
  refine thn (ha pins s σ H _ I h) fun v s1 ⟨x, H1, I1, r1, q1⟩ => ?_
  exact Constant_none (is_none_gen ⟨.bl _, H1, I1, by rw [r1.none_iff]; rfl, q1⟩)
theorem pc_notN {j pos'} (ha : PE X a ta) : PC X .IsNot a (.Constant .none j pos') (tNotN ta) := by
  intro pins s σ H Q I h
  refine thn (ha pins s σ H _ I h) fun v s1 ⟨x, H1, I1, r1, q1⟩ => ?_
  exact Constant_none (isnot_none_gen ⟨.bl _, H1, I1, by rw [r1.none_iff]; rfl, q1⟩)
/-- a comparison as a value, as a test -/
def tB (t : TE) : TT := fun σ H Q => t σ H fun x H1 => ∃ c, x = .bl c ∧ Q c H1
theorem pe_cmp {op : CmpOp} {t : TE} (h : PC X op a b t) (h1 : behindInMarks op b = false := by first | exact nobehind _ (by decide) (by decide) | rfl) : PE X (.Compare a [op] [b] pos) t := fun pins s σ H Q I hw => wpAny_Compare1 (h pins s σ H Q I hw) h1
theorem pt_cmp {op : CmpOp} {t : TE} (h : PC X op a b t) (h1 : behindInMarks op b = false := by first | exact nobehind _ (by decide) (by decide) | rfl) : PT X (.Compare a [op] [b] pos) (tB t) := by
  intro pins s σ H Q I hw
  refine wpAny_isTrue_Compare1 (thn (h pins s σ H _ I hw) fun v s1 h1 => thn h1 fun u s2 h2 => thn h2 fun c s3 ⟨x, H1, I1, r1, q1⟩ => ?_) h1
  obtain ⟨d, rfl, q⟩ := q1
  cases r1
  exact wpAny_truthy_bool ⟨H1, I1, q⟩
/-- an expression whose value is a bool, as a test -/
theorem pt_val {e : Expr} {t : TE} (h : PE X e t) (he : ∀ whole, isTrue e X.env whole = (do let v ← whole; standAt e.pos; holding [v] (truthy v)) := by intro _; rfl) : PT X e (tB t) := by
  intro pins s σ H Q I hw
  refine isTrue_plain (thn (h pins s σ H _ I hw) fun v s1 ⟨x, H1, I1, r1, q1⟩ => ?_) (he _)
  obtain ⟨d, rfl, q⟩ := q1
  cases r1
  exact wpAny_truthy_bool ⟨H1, I1, q⟩

/-! ### and, or, not -/
variable {tA tB' : TT} {rest : List Expr}
def tAnd (t u : TT) : TT := fun σ H Q => t σ H fun c H1 => if c = true then u σ H1 Q else Q false H1
def tOr (t u : TT) : TT := fun σ H Q => t σ H fun c H1 => if c = true then Q true H1 else u σ H1 Q
def tNot (t : TT) : TT := fun σ H Q => t σ H fun c H1 => Q (!c) H1
theorem pw_and1 (ha : PT X a tA) : PW X (.BoolOp .And [a] pos) tA := by
  intro wh pins s σ H Q I h
  refine isTrue_and (thn (ha pins s σ H Q I h) fun c s1 e => ?_)
  cases c with
  | true => exact isTrue_and_nil e
  | false => exact e
theorem pw_or1 (ha : PT X a tA) : PW X (.BoolOp .Or [a] pos) tA := by
  intro wh pins s σ H Q I h
  refine isTrue_or (thn (ha pins s σ H Q I h) fun c s1 e => ?_)
  cases c with
  | false => exact isTrue_or_nil e
  | true => exact e
theorem pw_and (ha : PT X a tA) (hb : PW X (.BoolOp .And (b :: rest) pos) tB') : PW X (.BoolOp .And (a :: b :: rest) pos) (tAnd tA tB') := by
  intro wh pins s σ H Q I h
  refine isTrue_and (thn (ha pins s σ H _ I h) fun c s1 ⟨H1, I1, q1⟩ => ?_)
  cases c with
  | true => exact hb wh pins s1 σ H1 Q I1 q1
  | false => exact ⟨H1, I1, q1⟩
theorem pw_or (ha : PT X a tA) (hb : PW X (.BoolOp .Or (b :: rest) pos) tB') : PW X (.BoolOp .Or (a :: b :: rest) pos) (tOr tA tB') := by
  intro wh pins s σ H Q I h
  refine isTrue_or (thn (ha pins s σ H _ I h) fun c s1 ⟨H1, I1, q1⟩ => ?_)
  cases c with
  | true => exact ⟨H1, I1, q1⟩
  | false => exact hb wh pins s1 σ H1 Q I1 q1
theorem pt_not (ha : PT X a tA) : PT X (.UnaryOp .Not a pos) (tNot tA) := by
  intro pins s σ H Q I h
  exact isTrue_not (ha pins s σ H (fun c H1 => Q (!c) H1) I h)
/-- .. as values (bools) -/
def tAndV (ta tb : TE) : TE := fun σ H Q => ta σ H fun x H1 => ∃ c, x = .bl c ∧ if c = true then tb σ H1 Q else Q (.bl false) H1
def tOrV (ta tb : TE) : TE := fun σ H Q => ta σ H fun x H1 => ∃ c, x = .bl c ∧ if c = true then Q (.bl true) H1 else tb σ H1 Q
def tNotV (ta : TE) : TE := fun σ H Q => ta σ H fun x H1 => ∃ c, x = .bl c ∧ Q (.bl (!c)) H1
theorem pe_one {op} {t : TE} (h : PE X a t) : PE X (.BoolOp op [a] pos) t := fun pins s σ H Q I hw => BoolOp_one (h pins s σ H Q I hw)
theorem pe_and (ha : PE X a ta) (hb : PE X (.BoolOp .And (b :: rest) pos) tb) : PE X (.BoolOp .And (a :: b :: rest) pos) (tAndV ta tb) := by
  intro pins s σ H Q I h
  refine BoolOp_and (thn (ha pins s σ H _ I h) fun v s1 ⟨x, H1, I1, r1, q1⟩ => ?_)
  obtain ⟨c, rfl, q1⟩ := q1
  cases r1
  refine wpAny_truthy_bool ?_
  cases c with
  | true => exact hb pins s1 σ H1 Q I1 q1
  | false => exact ⟨.bl false, H1, I1, rfl, q1⟩
theorem pe_or (ha : PE X a ta) (hb : PE X (.BoolOp .Or (b :: rest) pos) tb) : PE X (.BoolOp .Or (a :: b :: rest) pos) (tOrV ta tb) := by
  intro pins s σ H Q I h
  refine BoolOp_or (thn (ha pins s σ H _ I h) fun v s1 ⟨x, H1, I1, r1, q1⟩ => ?_)
  obtain ⟨c, rfl, q1⟩ := q1
  cases r1
  refine wpAny_truthy_bool ?_
  cases c with
  | false => exact hb pins s1 σ H1 Q I1 q1
  | true => exact ⟨.bl true, H1, I1, rfl, q1⟩
theorem pe_not (ha : PE X a ta) : PE X (.UnaryOp .Not a pos) (tNotV ta) := by
  intro pins s σ H Q I h
  refine UnaryOp_ (thn (ha pins s σ H _ I h) fun v s1 ⟨x, H1, I1, r1, q1⟩ => ?_)
  obtain ⟨c, rfl, q1⟩ := q1
  cases r1
  exact not_of (wpAny_truthy_bool ⟨.bl (!c), H1, I1, rfl, q1⟩)
/-- a if t else b -/
def tIf (t : TT) (ta tb : TE) : TE := fun σ H Q => t σ H fun c H1 => if c = true then ta σ H1 Q else tb σ H1 Q
theorem pe_ifExp {c : Expr} (hc : PT X c tA) (ha : PE X a ta) (hb : PE X b tb) : PE X (.IfExp c a b pos) (tIf tA ta tb) := by
  intro pins s σ H Q I h
  refine wpAny_IfExp (thn (hc pins s σ H _ I h) fun d s1 ⟨H1, I1, q1⟩ => ?_)
  cases d with
  | true => exact ha pins s1 σ H1 Q I1 q1
  | false => exact hb pins s1 σ H1 Q I1 q1
end
end L2

namespace L2
open PySem PySem.Spec PyProof.Rows

/-! ### a list, a tuple that is read: tracked, frozen, or an object of the module -/
def SqL (K : PySem.W.Frag) (H : Hp) (a : Addr) (xs : List V) : Prop :=
  Rd H a (.lst xs) ∨
    ∃ (o : Obj) (its : Array Value) (n : Nat), K.lookup a = some o ∧ o.cls = .type "list" ∧ o.dict = none ∧ o.data = .seq its n ∧ its.size ≤ sizeLine ∧ Vals xs its.toList
def SqT (K : PySem.W.Frag) (H : Hp) (a : Addr) (xs : List V) : Prop :=
  Rd H a (.tup xs) ∨
    ∃ (o : Obj) (its : Array Value) (n : Nat), K.lookup a = some o ∧ o.cls = .type "tuple" ∧ o.data = .seq its n ∧ its.size ≤ sizeLine ∧ Vals xs its.toList
def absV : Value → Option V
  | .none => some .non
  | .bool b => some (.bl b)
  | .int i _ => some (.int i)
  | .str x _ => some (.str x)
  | .bytes b _ => some (.byt b)
  | .float b _ => some (.flt b)
  | .ref a => some (.ref a)
  | .type n => some (.ty n)
  | _ => none
theorem RelV.abs {x : V} {u : Value} (r : RelV x u) : absV u = some x := by
  cases x with
  | non => cases r; rfl
  | bl _ => cases r; rfl
  | int _ => obtain ⟨t, rfl⟩ := r; rfl
  | str _ => obtain ⟨t, rfl⟩ := r; rfl
  | byt _ => obtain ⟨t, rfl⟩ := r; rfl
  | flt _ => obtain ⟨t, rfl⟩ := r; rfl
  | ref _ => cases r; rfl
  | ty _ => cases r; rfl
theorem RelV.inj {x y : V} {u : Value} (r : RelV x u) (q : RelV y u) : x = y := Option.some.inj (r.abs.symm.trans q.abs)
theorem Vals.inj : ∀ {xs ys : List V} {us : List Value}, Vals xs us → Vals ys us → xs = ys
  | _, _, _, .nil, .nil => rfl
  | _, _, _, .cons r t, .cons r' t' => by rw [r.inj r', Vals.inj t t']
section
variable {X : Cx} {pins : List (Addr × Obj)} {σ : St} {H : Hp} {s : Shared} {a : Addr} {xs ys : List V}
theorem SqL.of {K : PySem.W.Frag} (h : H a = some (.lst xs)) : SqL K H a xs := .inl (.inl h)
theorem SqT.of {K : PySem.W.Frag} (h : H a = some (.tup xs)) : SqT K H a xs := .inl (.inl h)
theorem Inv.list (I : Inv X pins σ H s) (h : SqL X.K H a xs) : ∃ its : List Value, Vals xs its ∧ PlainL s.heap a its.toArray ∧ xs.length ≤ sizeLine := by
  rcases h with h | ⟨o, its, n, hk, hc, hd, hs, hz, r⟩
  · obtain ⟨z, its, n, r, e⟩ := h.ok I.hok
    exact ⟨its, r, ⟨_, n, e, rfl, rfl, rfl⟩, z⟩
  · refine ⟨its.toList, r, ⟨o, n, I.kIn a o hk, hc, hd, by simpa using hs⟩, ?_⟩
    have e := r.length
    simp only [Array.length_toList] at e
    omega
theorem Inv.tuple (I : Inv X pins σ H s) (h : SqT X.K H a xs) : ∃ its : List Value, Vals xs its ∧ IsTup s.heap a its.toArray ∧ xs.length ≤ sizeLine := by
  rcases h with h | ⟨o, its, n, hk, hc, hs, hz, r⟩
  · obtain ⟨z, its, r, p⟩ := h.ok I.hok
    exact ⟨its, r, p, z⟩
  · refine ⟨its.toList, r, ⟨o, I.kIn a o hk, hc, n, by simpa using hs⟩, ?_⟩
    have e := r.length
    simp only [Array.length_toList] at e
    omega
theorem Inv.list_inj (I : Inv X pins σ H s) (h : SqL X.K H a xs) (h' : SqL X.K H a ys) : xs = ys := by
  obtain ⟨its, r, ⟨o, n, e, _, _, d⟩, _⟩ := I.list h
  obtain ⟨its', r', ⟨o', n', e', _, _, d'⟩, _⟩ := I.list h'
  rw [e] at e'; cases e'
  rw [d] at d'
  injection d' with d1 _
  have : its = its' := by simpa using congrArg Array.toList d1
  subst this
  exact r.inj r'
theorem Inv.tuple_inj (I : Inv X pins σ H s) (h : SqT X.K H a xs) (h' : SqT X.K H a ys) : xs = ys := by
  obtain ⟨its, r, ⟨o, e, _, n, d⟩, _⟩ := I.tuple h
  obtain ⟨its', r', ⟨o', e', _, n', d'⟩, _⟩ := I.tuple h'
  rw [e] at e'; cases e'
  rw [d] at d'
  injection d' with d1 _
  have : its = its' := by simpa using congrArg Array.toList d1
  subst this
  exact r.inj r'
end

/-! ### another wish about exceptions -/
abbrev Cx.wish (X : Cx) (E : Value → Shared → Prop) : Cx := { X with xe := E }
/-- no exception leaves -/
abbrev Cx.nox (X : Cx) : Cx := X.wish fun _ _ => False
theorem Cx.Ok.wish {X : Cx} (ok : X.Ok) (E : Value → Shared → Prop) : (X.wish E).Ok :=
  ⟨ok.mod, ok.kind, ok.glob, ok.blt, ok.above, ok.inj, ok.has, ok.cab, ok.hd, ok.frames, ok.stk, ok.exf, ok.bs, ok.bsz, ok.noex, ok.exfs, ok.funs, ok.frf⟩
theorem Cx.Ok.unwish {X : Cx} {E : Value → Shared → Prop} (ok : (X.wish E).Ok) : X.Ok :=
  ⟨ok.mod, ok.kind, ok.glob, ok.blt, ok.above, ok.inj, ok.has, ok.cab, ok.hd, ok.frames, ok.stk, ok.exf, ok.bs, ok.bsz, ok.noex, ok.exfs, ok.funs, ok.frf⟩
section
variable {X : Cx} {pins : List (Addr × Obj)} {σ : St} {H : Hp} {s : Shared} {E : Value → Shared → Prop}
theorem Inv.wish (I : Inv X pins σ H s) (E : Value → Shared → Prop) : Inv (X.wish E) pins σ H s := ⟨I.ok.wish E, I.os, I.bare, I.base, I.loc, I.cell, I.free, I.freeC, I.pin, I.hok, I.len⟩
theorem Inv.unwish (I : Inv (X.wish E) pins σ H s) : Inv X pins σ H s := ⟨I.ok.unwish, I.os, I.bare, I.base, I.loc, I.cell, I.free, I.freeC, I.pin, I.hok, I.len⟩
theorem SP.unwish {D : Ends} {f : Flow} {s' : Shared} (h : SP (X.wish E) pins D f s') : SP X pins D f s' := by
  cases f with
  | next => obtain ⟨σ', H', I, q⟩ := h; exact ⟨σ', H', I.unwish, q⟩
  | brk => obtain ⟨σ', H', I, q⟩ := h; exact ⟨σ', H', I.unwish, q⟩
  | cont => obtain ⟨σ', H', I, q⟩ := h; exact ⟨σ', H', I.unwish, q⟩
  | ret u => obtain ⟨v, σ', H', I, r, q⟩ := h; exact ⟨v, σ', H', I.unwish, r, q⟩
theorem PE.nox {e : Expr} {t : TE} (h : PE X.nox e t) : PE X e t := fun pins s σ H Q I hw =>
  wpAny_mono (h pins s σ H Q (I.wish _) hw) (fun _ _ ⟨v, H', I', r, q⟩ => ⟨v, H', I'.unwish, r, q⟩) fun _ _ z => False.elim z
theorem PT.nox {e : Expr} {t : TT} (h : PT X.nox e t) : PT X e t := fun pins s σ H Q I hw =>
  wpAny_mono (h pins s σ H Q (I.wish _) hw) (fun _ _ ⟨H', I', q⟩ => ⟨H', I'.unwish, q⟩) fun _ _ z => False.elim z
theorem PSs.nox {st : List Stmt} {t : TS} (h : PSs X.nox st t) : PSs X st t := fun pins s σ H D I hw =>
  wpAny_mono (h pins s σ H D (I.wish _) hw) (fun _ _ q => q.unwish) fun _ _ z => False.elim z
end

/-! ### blocks and small statements -/
section
variable {X : Cx} {st : Stmt} {rest : List Stmt} {t u : TS} {e : Expr} {te : TE} {pos : Pos}
def tNext : TS := fun D σ H => D.nx σ H
def tSeq (t u : TS) : TS := fun D σ H => t { D with nx := u D } σ H
theorem pss_nil : PSs X [] tNext := fun _ _ σ H _ I h => wpAny_execs_nil ⟨σ, H, I, h⟩
theorem pss_cons (h1 : PS X st t) (h2 : PSs X rest u) : PSs X (st :: rest) (tSeq t u) := by
  intro pins s σ H D I h
  refine wpAny_execs_cons (thn (h1 pins s σ H { D with nx := u D } I h) fun f s1 q => ?_)
  cases f with
  | next =>
    obtain ⟨σ', H', I', q⟩ := q
    exact h2 pins s1 σ' H' D I' q
  | ret v => exact q
  | brk => exact q
  | cont => exact q
theorem pss_one (h1 : PS X st t) : PSs X [st] t := by
  intro pins s σ H D I h
  refine wpAny_execs_cons (thn (h1 pins s σ H D I h) fun f s1 q => ?_)
  cases f with
  | next => exact wpAny_execs_nil q
  | ret v => exact q
  | brk => exact q
  | cont => exact q
def tBreak : TS := fun D σ H => D.bk σ H
def tCont : TS := fun D σ H => D.ct σ H
theorem ps_pass : PS X (.Pass pos) tNext := fun _ _ σ H _ I h => wpAny_Pass ⟨σ, H, I, h⟩
theorem ps_break : PS X (.Break pos) tBreak := fun _ _ σ H _ I h => wpAny_Break ⟨σ, H, I, h⟩
theorem ps_continue : PS X (.Continue pos) tCont := fun _ _ σ H _ I h => wpAny_Continue ⟨σ, H, I, h⟩
/-- in a def's body nothing is shown -/
theorem Inv.quiet {pins : List (Addr × Obj)} {σ : St} {H : Hp} {s : Shared} (I : Inv X pins σ H s) : interactive X.env = false := by simp [interactive, I.ok.kind]
/-- a docstring -/
theorem ps_doc {x j pos pos'} : PS X (.Expr (.Constant (.str x) j pos) pos') tNext := fun _ s σ H _ I h => wpAny_Expr (Calls.Constant_str (show SP X _ _ .next { s with toks := s.toks + 1 } from ⟨σ, H, I.tok _, h⟩)) I.quiet
/-- an expression whose value is dropped -/
def tDrop (te : TE) : TS := fun D σ H => te σ H fun _ H1 => D.nx σ H1
theorem ps_expr (he : PE X e te) (hs : swapsWith e none pos.line X.env = pure false := by rfl) : PS X (.Expr e pos) (tDrop te) := by
  intro pins s σ H D I h
  exact wpAny_Expr_any (thn (he pins s σ H _ I h) fun v s1 ⟨x, H1, I1, r1, q1⟩ => ⟨σ, H1, I1, q1⟩) I.quiet hs
def tRet (te : TE) : TS := fun D σ H => te σ H D.rt
theorem ps_ret (he : PE X e te) : PS X (.Return (some e) pos) (tRet te) := by
  intro pins s σ H D I h
  exact wpAny_Return_some (thn (he pins s σ H _ I h) fun v s1 ⟨x, H1, I1, r1, q1⟩ => ⟨x, σ, H1, I1, r1, q1⟩)
def tRetN : TS := fun D _ H => D.rt .non H
theorem ps_retN : PS X (.Return none pos) tRetN := fun _ _ σ H _ I h => wpAny_Return_none ⟨.non, σ, H, I, rfl, h⟩
def tIfS (c : TT) (t u : TS) : TS := fun D σ H => c σ H fun b H1 => if b = true then t D σ H1 else u D σ H1
theorem ps_if {c : Expr} {a b : List Stmt} {tc : TT} (hc : PT X c tc) (ha : PSs X a t) (hb : PSs X b u) : PS X (.If c a b pos) (tIfS tc t u) := by
  intro pins s σ H D I h
  refine wpAny_If (thn (hc pins s σ H _ I h) fun d s1 ⟨H1, I1, q1⟩ => ?_)
  cases d with
  | true => exact ha pins s1 σ H1 D I1 q1
  | false => exact hb pins s1 σ H1 D I1 q1
/-- code that the proof never comes to -/
def tNever : TS := fun _ _ _ => False
theorem ps_never : PS X st tNever := fun _ _ _ _ _ _ h => h.elim
theorem pss_never {sts : List Stmt} : PSs X sts tNever := fun _ _ _ _ _ _ h => h.elim
end

/-! ### targets -/
abbrev TG := V → St → Hp → (St → Hp → Prop) → Prop
abbrev TGs := List V → St → Hp → (St → Hp → Prop) → Prop
def PG (X : Cx) (target : Expr) (t : TG) : Prop :=
  ∀ (pins : List (Addr × Obj)) (s : Shared) (σ : St) (H : Hp) (v : V) (u : Value) (Q : St → Hp → Prop), Inv X pins σ H s → RelV v u → t v σ H Q →
    wpAny (model X.prog X.w) X.A (assign target X.env u) (fun _ s' => ∃ σ' H', Inv X pins σ' H' s' ∧ Q σ' H') X.xe s
/-- several targets, one after another -/
def PGs (X : Cx) (ts : List Expr) (t : TGs) : Prop :=
  ∀ (pins : List (Addr × Obj)) (s : Shared) (σ : St) (H : Hp) (vs : List V) (us : List Value) (Q : St → Hp → Prop), Inv X pins σ H s → Vals vs us → t vs σ H Q →
    wpAny (model X.prog X.w) X.A (assignInOrder ((assignEach ts X.env).map (·.2)) us) (fun _ s' => ∃ σ' H', Inv X pins σ' H' s' ∧ Q σ' H') X.xe s
/-- o[i] = v, by values -/
abbrev TSet := V → V → V → Hp → (Hp → Prop) → Prop
def PSet (X : Cx) (t : TSet) : Prop :=
  ∀ (pins : List (Addr × Obj)) (s : Shared) (σ : St) (H : Hp) (o i v : V) (ov iv u : Value) (Q : Hp → Prop), Inv X pins σ H s → RelV o ov → RelV i iv → RelV v u → t o i v H Q →
    wpAny (model X.prog X.w) X.A (setItem ov iv u) (fun _ s' => ∃ H', Inv X pins σ H' s' ∧ Q H') X.xe s
/-- a op= b, by values -/
abbrev TIp := V → V → Hp → VK → Prop
def PIp (X : Cx) (op : Operator) (t : TIp) : Prop :=
  ∀ (pins : List (Addr × Obj)) (s : Shared) (σ : St) (H : Hp) (x y : V) (v u : Value) (Q : VK), Inv X pins σ H s → RelV x v → RelV y u → t x y H Q →
    wpAny (model X.prog X.w) X.A (inplaceOp op v u) (EP X pins σ Q) X.xe s
section
variable {X : Cx} {pos : Pos}
def gName (i : Nat) : TG := fun v σ H Q => Q (σ.set i (some v)) H
theorem pg_name {i : Nat} {x : Str} (hN : X.N.Nodup) (hi : X.N[i]? = some x) (hx : Loc X.env.scope x) (hf : X.fn x = true ∨ X.env.scope.names.lookup x = some .local := by first | exact .inl rfl | exact .inr rfl | assumption) : PG X (.Name x pos) (gName i) := by
  intro pins s σ H v u Q I r h
  exact wpAny_assign_Name (store_ok I hN hi hx r (fun s' I' => ⟨_, H, I', h⟩) hf)
def gNil : TGs := fun vs σ H Q => vs = [] ∧ Q σ H
def gCons (t : TG) (u : TGs) : TGs := fun vs σ H Q => ∃ v r, vs = v :: r ∧ t v σ H fun σ' H' => u r σ' H' Q
theorem pgs_nil : PGs X [] gNil := by
  intro pins s σ H vs us Q I r h
  obtain ⟨e, h⟩ := h
  subst e
  cases r
  exact assignInOrder_nil ⟨σ, H, I, h⟩
theorem pgs_cons {e : Expr} {es : List Expr} {t : TG} {u : TGs} (h1 : PG X e t) (h2 : PGs X es u)
    (hs : (assignEach (e :: es) X.env).map (·.2) = assign e X.env :: (assignEach es X.env).map (·.2) := by rfl) : PGs X (e :: es) (gCons t u) := by
  intro pins s σ H vs us Q I r h
  obtain ⟨v, vr, e1, h⟩ := h
  subst e1
  cases r with
  | cons r rr =>
    rw [hs]
    refine assignInOrder_cons (thn (h1 pins s σ H _ _ _ I r h) fun _ s1 ⟨σ1, H1, I1, q1⟩ => ?_)
    exact h2 pins s1 σ1 H1 _ _ Q I1 rr q1
/-- (a, b, ..) = a tuple of that length -/
def gTup (K : PySem.W.Frag) (n : Nat) (t : TGs) : TG := fun v σ H Q => ∃ a xs, v = .ref a ∧ SqT K H a xs ∧ xs.length = n ∧ t xs σ H Q
theorem pg_tup {es : List Expr} {k : Nat} {t : TGs} {n : Nat} (hc : X.calm = true) (h : PGs X es t)
    (hn : (assignEach es X.env).length = n := by rfl) (hst : (assignEach es X.env).findIdx? (·.1) = none := by rfl) : PG X (.Tuple es k pos) (gTup X.K n t) := by
  intro pins s σ H v u Q I r hw
  obtain ⟨a, xs, e1, hq, hl, hw⟩ := hw
  subst e1
  cases r
  obtain ⟨its, rv, ht, hz⟩ := I.tuple hq
  refine assign_Tuple_tuple (I.ok.hd hc) ht (by simp [hn, ← hl, rv.length]) hst fun h' hx => ?_
  have I1 : Inv X pins σ H { s with heap := h' } := I.kept (t' := s.toks) fun b o e => hx b o (Nat.ne_of_lt (Heap.lt_size e)) e
  exact h pins _ σ H xs _ Q I1 (by simpa using rv) hw
/-- o[i] = .. -/
def gSub (to ti : TE) (t : TSet) : TG := fun v σ H Q => to σ H fun o H1 => ti σ H1 fun i H2 => t o i v H2 fun H3 => Q σ H3
theorem pg_sub {o i : Expr} {to ti : TE} {t : TSet} (ho : PE X o to) (hi : PE X i ti) (hs : PSet X t)
    (ha : ∀ v, assign (.Subscript o i pos) X.env v = (do
      let ov ← holding [v] (eval o X.env)
      let iv ← holding [v, ov] (eval i X.env)
      standAt pos
      holding [v, ov, iv] (setItem ov iv v)
      release [v, ov, iv] []) := by intro _; rfl) : PG X (.Subscript o i pos) (gSub to ti t) := by
  intro pins s σ H v u Q I r h
  rw [ha]
  refine wpAny_bind (wpAny_holding (thn (ho pins s σ H _ I h) fun ov s1 ⟨x, H1, I1, r1, q1⟩ => ?_))
  refine wpAny_bind (wpAny_holding (thn (hi pins s1 σ H1 _ I1 q1) fun iv s2 ⟨y, H2, I2, r2, q2⟩ => ?_))
  refine wpAny_bind (wpAny_standAt (wpAny_bind (wpAny_holding (thn (hs pins s2 σ H2 x y v ov iv u _ I2 r1 r2 r q2) fun _ s3 ⟨H3, I3, q3⟩ => ?_))))
  exact wpAny_release ⟨σ, H3, I3, q3⟩
/-- target = value -/
def tAsg (te : TE) (g : TG) : TS := fun D σ H => te σ H fun x H1 => g x σ H1 D.nx
theorem ps_asg {tg e : Expr} {te : TE} {g : TG} (he : PE X e te) (hg : PG X tg g) (hs : swapsWithSole [tg] e pos.line X.env = pure false := by rfl) (hw : swappedStores [tg] e X.env = pure none := by rfl)
    (h1 : (assignEach [tg] X.env).map (·.2) = [assign tg X.env] := by rfl) : PS X (.Assign [tg] e pos) (tAsg te g) := by
  intro pins s σ H D I h
  refine wpAny_Assign_stores (thn (he pins s σ H _ I h) fun v s1 ⟨x, H1, I1, r1, q1⟩ => ?_) hs hw
  rw [h1]
  exact thn (hg pins s1 σ H1 x v _ I1 r1 q1) fun _ s2 q => q
/-- name = value -/
theorem ps_set {i : Nat} {x : Str} {e : Expr} {te : TE} {pos' : Pos} (hN : X.N.Nodup) (hi : X.N[i]? = some x) (hx : Loc X.env.scope x) (he : PE X e te) (hs : swapsWith e (some (.Name x pos')) pos.line X.env = pure false := by rfl) (hf : X.fn x = true ∨ X.env.scope.names.lookup x = some .local := by first | exact .inl rfl | exact .inr rfl | assumption) :
    PS X (.Assign [.Name x pos'] e pos) (tAsg te (gName i)) := by
  intro pins s σ H D I h
  refine wpAny_Assign_Name (thn (he pins s σ H _ I h) fun v s1 ⟨y, H1, I1, r1, q1⟩ => ?_) hs
  exact store_ok I1 hN hi hx r1 (fun s2 I2 => ⟨_, H1, I2, q1⟩) hf
/-- a, b = x, y with plain local names: stored from the right; the pair itself is not tracked (the opening rows as in PyProof/Rows/TupAssign.lean:23) -/
def tPar (i j : Nat) (ta : TA) : TS := fun D σ H => ta σ H fun vs H1 => ∃ v w, vs = [v, w] ∧ D.nx ((σ.set i (some v)).set j (some w)) H1
theorem ps_par {i j : Nat} {x y : Str} {a b : Expr} {ta : TA} {px py pt : Pos} {kt k2 pt2} (hc : X.calm = true) (hN : X.N.Nodup) (hi : X.N[i]? = some x) (hj : X.N[j]? = some y) (hij : i ≠ j)
    (hx : X.env.scope.names.lookup x = some .local) (hy : X.env.scope.names.lookup y = some .local) (ha : PA X [a, b] ta)
    (hw : swappedStores [.Tuple [.Name x px, .Name y py] kt pt] (.Tuple [a, b] k2 pt2) X.env = pure (some [x, y]))
    (hs : swapsWithSole [.Tuple [.Name x px, .Name y py] kt pt] (.Tuple [a, b] k2 pt2) pos.line X.env = pure false := by rfl) :
    PS X (.Assign [.Tuple [.Name x px, .Name y py] kt pt] (.Tuple [a, b] k2 pt2) pos) (tPar i j ta) := by
  intro pins s σ H D I h
  rw [exec_Assign_arm]
  refine wpAny_bind (wpAny_standAt ?_)
  rw [hs]
  refine wpAny_bind (wpAny_pure ?_)
  rw [if_neg (by decide)]
  refine wpAny_bind (Tuple_ (thn (ha _ pins s σ H _ I h) fun us s1 ⟨vs, H1, I1, r1, q1⟩ => ?_))
  obtain ⟨v, w, e1, q1⟩ := q1
  subst e1
  obtain ⟨u1, u2, rfl, rv, rw'⟩ : ∃ u1 u2, us = [u1, u2] ∧ RelV v u1 ∧ RelV w u2 := by
    cases r1 with
    | cons p q =>
      cases q with
      | cons p' q' =>
        cases q'
        exact ⟨_, _, rfl, p, p'⟩
  refine wpAny_newObj_type ?_ (by show 2 ≤ sizeLine; decide)
  have I2 : Inv X pins σ H1 { s1 with heap := s1.heap.push { cls := .type "tuple", data := .seq [u1, u2].toArray } } := I1.kept (t' := s1.toks) fun b o e => Heap.get?_push_of_some _ e
  rw [hw]
  refine wpAny_bind (wpAny_pure ?_)
  show wpAny (model X.prog X.w) X.A (do rule "assign.swapped-stores"; let items ← unpackItems (.ref s1.heap.objs.size) 2 none; assignInOrder [fun v => bindName X.env y v, fun v => bindName X.env x v] items.reverse; pure Flow.next) _ _ _
  refine wpAny_bind (wpAny_rule (wpAny_bind (unpackItems_tuple (items := #[u1, u2]) (I.ok.hd hc) (IsTup.new s1.heap _) fun h' hx' => ?_)))
  have I3 := I2.kept (h' := h') (t' := s1.toks) fun b o e => hx' b o (Nat.ne_of_lt (Heap.lt_size e)) e
  show wpAny _ _ (assignInOrder [fun v => bindName X.env y v, fun v => bindName X.env x v] [u2, u1] >>= fun _ => pure Flow.next) _ _ _
  refine wpAny_bind (assignInOrder_cons (wpAny_bindName (store_ok I3 hN hj (.inl hy) rw' (fun s2 I4 => ?_) (.inr hy))))
  refine assignInOrder_cons (wpAny_bindName (store_ok I4 hN hi (.inl hx) rv (fun s3 I5 => assignInOrder_nil (wpAny_pure ?_)) (.inr hx)))
  rw [List.set_comm _ _ (Ne.symm hij)] at I5
  exact ⟨_, H1, I5, q1⟩
/-- name op= e -/
def tAug (i : Nat) (te : TE) (ti : TIp) : TS := fun D σ H => ∃ x, σ[i]? = some (some x) ∧ te σ H fun y H1 => ti x y H1 fun z H2 => D.nx (σ.set i (some z)) H2
theorem ps_aug {i : Nat} {x : Str} {e : Expr} {te : TE} {op : Operator} {ti : TIp} {pos' : Pos} (hN : X.N.Nodup) (hi : X.N[i]? = some x) (hx : Loc X.env.scope x) (he : PE X e te) (ho : PIp X op ti) (hf : X.fn x = true ∨ X.env.scope.names.lookup x = some .local := by first | exact .inl rfl | exact .inr rfl | assumption) :
    PS X (.AugAssign (.Name x pos') op e pos) (tAug i te ti) := by
  intro pins s σ H D I h
  obtain ⟨v, e1, h⟩ := h
  obtain ⟨m, hn, hl⟩ := I.loc
  have vis : Vis X.env.scope x := by rcases hx with k | k; exact .inl k; exact .inr (.inl k)
  obtain ⟨u, r, l⟩ := hl i x v hi e1 vis
  refine wpAny_AugAssign_Name ?_
  have go : wpAny (model X.prog X.w) X.A (eval e X.env) (fun w s₂ => wpAny (model X.prog X.w) X.A (inplaceOp op u w) (fun r s₃ => wpAny (model X.prog X.w) X.A (storeName X.env x r) (fun _ => SP X pins D .next) X.xe s₃) X.xe s₂) X.xe s := by
    refine thn (he pins s σ H _ I h) fun w s1 ⟨y, H1, I1, r1, q1⟩ => ?_
    refine thn (ho pins s1 σ H1 v y u w _ I1 r r1 q1) fun z s2 ⟨zv, H2, I2, r2, q2⟩ => ?_
    exact store_ok I2 hN hi hx r2 (fun s3 I3 => ⟨_, H2, I3, q2⟩) hf
  rcases l with ⟨hk, hm⟩ | ⟨hk, c, hc, hcell⟩
  · exact wpAny_loadName_local I.ok.kind hk hn hm go
  · rcases hk with hk | hk
    · exact wpAny_loadName_cell I.ok.kind hk hc hcell go
    · rcases hx with k | k
      · have : X.env.scope.names.lookup x = some .free := hk
        rw [k] at this; cases this
      · have : X.env.scope.names.lookup x = some .free := hk
        rw [k] at this; cases this
/-- o[i] op= e -/
def tAugS (to ti te : TE) (tget : V → V → Hp → VK → Prop) (tip : TIp) (tset : TSet) : TS := fun D σ H => to σ H fun o H1 => ti σ H1 fun i H2 => tget o i H2 fun x H3 => te σ H3 fun y H4 => tip x y H4 fun z H5 => tset o i z H5 fun H6 => D.nx σ H6
/-- o[i], by values -/
def PGet (X : Cx) (t : V → V → Hp → VK → Prop) : Prop :=
  ∀ (pins : List (Addr × Obj)) (s : Shared) (σ : St) (H : Hp) (o i : V) (ov iv : Value) (Q : VK), Inv X pins σ H s → RelV o ov → RelV i iv → t o i H Q →
    wpAny (model X.prog X.w) X.A (getItem ov iv) (EP X pins σ Q) X.xe s
theorem ps_augS {o i e : Expr} {to ti te : TE} {tget : V → V → Hp → VK → Prop} {tip : TIp} {tset : TSet} {op : Operator} {tpos : Pos} (ho : PE X o to) (hi : PE X i ti) (hg : PGet X tget) (he : PE X e te) (hp : PIp X op tip) (hs : PSet X tset)
    (ha : ∀ ov iv new, augStore i ov iv new = (do holding [new, ov, iv] (setItem ov iv new); release [new, ov, iv] []; pure .next) := by intros; rfl) : PS X (.AugAssign (.Subscript o i tpos) op e pos) (tAugS to ti te tget tip tset) := by
  intro pins s σ H D I h
  refine wpAny_AugAssign_SubscriptAny (thn (ho pins s σ H _ I h) fun ov s1 ⟨x1, H1, I1, r1, q1⟩ => ?_) ha
  refine thn (hi pins s1 σ H1 _ I1 q1) fun iv s2 ⟨x2, H2, I2, r2, q2⟩ => ?_
  refine thn (hg pins s2 σ H2 x1 x2 ov iv _ I2 r1 r2 q2) fun old s3 ⟨x3, H3, I3, r3, q3⟩ => ?_
  refine thn (he pins s3 σ H3 _ I3 q3) fun v s4 ⟨x4, H4, I4, r4, q4⟩ => ?_
  refine thn (hp pins s4 σ H4 x3 x4 old v _ I4 r3 r4 q4) fun new s5 ⟨x5, H5, I5, r5, q5⟩ => ?_
  exact thn (hs pins s5 σ H5 x1 x2 x5 ov iv new _ I5 r1 r2 r5 q5) fun _ s6 ⟨H6, I6, q6⟩ => ⟨σ, H6, I6, q6⟩
/-- ints -/
def ipI (f : Int → Int → Int) : TIp := fun x y H Q => ∃ i j, x = .int i ∧ y = .int j ∧ Q (.int (f i j)) H
theorem ip_add : PIp X .Add (ipI fun i j => i + j) := by
  intro pins s σ H x y v u Q I r1 r2 h
  obtain ⟨i, j, e1, e2, q⟩ := h
  subst e1; subst e2
  obtain ⟨t, rfl⟩ := r1
  obtain ⟨t', rfl⟩ := r2
  exact iadd_int ⟨.int _, H, I.tok _, ⟨_, rfl⟩, q⟩
theorem ip_sub : PIp X .Sub (ipI fun i j => i - j) := by
  intro pins s σ H x y v u Q I r1 r2 h
  obtain ⟨i, j, e1, e2, q⟩ := h
  subst e1; subst e2
  obtain ⟨t, rfl⟩ := r1
  obtain ⟨t', rfl⟩ := r2
  exact isub_int ⟨.int _, H, I.tok _, ⟨_, rfl⟩, q⟩
end

/-! ### while -/
section
variable {X : Cx} {pos : Pos}
/-- the invariant W with its measure -/
def tWhile (c : TT) (tb : TS) : TS := fun D σ H => ∃ W : Nat → St → Hp → Prop, (∃ m, W m σ H) ∧ ∀ m σ H, W m σ H →
  c σ H fun b H1 => if b = true then ∃ N : St → Hp → Prop, (∀ σ' H', N σ' H' → ∃ m', m' < m ∧ W m' σ' H') ∧ tb { D with nx := N, ct := N, bk := D.nx } σ H1 else D.nx σ H1
theorem ps_while {c : Expr} {body : List Stmt} {tc : TT} {tb : TS} (hp : PassesOwn (model X.prog X.w) X.A X.env X.xe) (hc : PT X c tc) (hb : PSs X body tb) : PS X (.While c body [] pos) (tWhile tc tb) := by
  intro pins s σ H D I h
  obtain ⟨W, ⟨m0, w0⟩, turn⟩ := h
  refine wpAny_While (codeAny_whileLoop (fun n s' => ∃ σ' H', Inv X pins σ' H' s' ∧ W n σ' H') ?_ m0 ⟨σ, H, I, w0⟩)
  rintro n s1 ⟨σ1, H1, I1, w1⟩
  refine wpAny_passesOwn hp (thn (hc pins s1 σ1 H1 _ I1 (turn n σ1 H1 w1)) fun b s2 ⟨H2, I2, q2⟩ => ?_)
  cases b with
  | true =>
    obtain ⟨N, hN, q2⟩ := q2
    rw [if_pos rfl]
    refine wpAny_passesOwn hp (thn (hb pins s2 σ1 H2 _ I2 q2) fun f s3 q3 => ?_)
    cases f with
    | next =>
      obtain ⟨σ3, H3, I3, n3⟩ := q3
      obtain ⟨m', hm, w3⟩ := hN σ3 H3 n3
      exact ⟨m', hm, σ3, H3, I3, w3⟩
    | cont =>
      obtain ⟨σ3, H3, I3, n3⟩ := q3
      obtain ⟨m', hm, w3⟩ := hN σ3 H3 n3
      exact ⟨m', hm, σ3, H3, I3, w3⟩
    | brk => exact q3
    | ret v => exact q3
  | false =>
    rw [if_neg Bool.false_ne_true]
    exact wpAny_execs_nil ⟨σ1, H2, I2, q2⟩
end

/-! ### what a loop or a comprehension walks -/
/-- at turn i: it yields x (the heap may grow), or it stops -/
structure It where
  go : Nat → Hp → Prop
  yld : Nat → Hp → V → Hp → Prop
  stop : Nat → Hp → Prop
/-- the iterator's own objects may turn: they are not the frame's, not pinned, younger than the entry (or a comprehension's own) -/
def FpOk (X : Cx) (pins : List (Addr × Obj)) (H : Hp) (b : Addr) : Prop :=
  H b = none ∧ b ≠ X.env.locals ∧ b ∉ X.fs ∧ (b ∈ X.ex ∨ X.s₀.heap.objs.size ≤ b) ∧ (∀ x c, X.env.cells.lookup x = some c → c ≠ b) ∧ ∀ p ∈ X.pn ++ pins, p.1 ≠ b
theorem Inv.fpOk {X : Cx} {pins : List (Addr × Obj)} {σ : St} {H H' : Hp} {s : Shared} {b : Addr} (I : Inv X pins σ H s) (hb : s.heap.objs.size ≤ b) (hn : H' b = none) : FpOk X pins H' b := by
  refine ⟨hn, Nat.ne_of_gt (Nat.lt_of_lt_of_le I.lt hb), I.nofs hb, .inr (Nat.le_trans I.sz hb), fun x c e z => ?_, fun p hp z => ?_⟩
  · obtain ⟨v, q⟩ := I.cell x c e
    exact absurd (Nat.lt_of_lt_of_le q.lt (by rw [z]; exact hb)) (Nat.lt_irrefl _)
  · exact absurd (Nat.lt_of_lt_of_le (Heap.lt_size (I.pin p hp).1) (by rw [z]; exact hb)) (Nat.lt_irrefl _)
structure Turn (P : Program) (w : World) (K : PySem.W.Frag) (tg : Expr) (J : It) (fp : List Addr) (it : Addr) (tn : Nat → Heap → Prop) : Prop where
  mem : it ∈ fp
  obj : ∀ i h, tn i h → ∀ b ∈ fp, ∃ o, h.get? b = some o ∧ ∀ v, o.data ≠ .cell v
  keep : ∀ i h h', tn i h → (∀ b ∈ fp, ∀ o, h.get? b = some o → h'.get? b = some o) → tn i h'
  item : ∀ (X : Cx), X.prog = P → X.w = w → X.K = K → X.calm = true → ∀ (i : Nat) (pins : List (Addr × Obj)) (s : Shared) (σ : St) (H : Hp) (E : Value → Shared → Prop), Inv X pins σ H s → (∀ b ∈ fp, FpOk X pins H b) → tn i s.heap → J.go i H →
    wpAny (model P w) X.A (pyNext (.ref it)) (fun r s1 => ∃ u, r = some u ∧
      wpAny (model P w) X.A (letOwnedTupleGo tg (.ref it) u) (fun _ s2 => ∃ x H', Inv X pins σ H' s2 ∧ RelV x u ∧ J.yld i H x H' ∧ tn (i + 1) s2.heap ∧ ∀ b ∈ fp, H' b = none) E s1) E s
  done : ∀ (X : Cx), X.prog = P → X.w = w → X.K = K → X.calm = true → ∀ (i : Nat) (pins : List (Addr × Obj)) (s : Shared) (σ : St) (H : Hp) (E : Value → Shared → Prop), Inv X pins σ H s → (∀ b ∈ fp, FpOk X pins H b) → tn i s.heap → J.stop i H →
    wpAny (model P w) X.A (pyNext (.ref it)) (fun r s1 => r = none ∧ Inv X pins σ H s1) E s
  self : ∀ (A : Around) (i : Nat) (s : Shared) (Q : Value → Shared → Prop) (E : Value → Shared → Prop), tn i s.heap → Q (.ref it) s → wpAny (model P w) A (pyIter (.ref it)) Q E s
abbrev TI := St → Hp → (It → Hp → Prop) → Prop
/-- an iterator has come -/
def PIE (X : Cx) (pins : List (Addr × Obj)) (σ : St) (tg : Expr) (R : It → Hp → Prop) (itv : Value) (s2 : Shared) : Prop :=
  ∃ (it : Addr) (fp : List Addr) (tn : Nat → Heap → Prop) (J : It) (H' : Hp), itv = .ref it ∧ Inv X pins σ H' s2 ∧ Turn X.prog X.w X.K tg J fp it tn ∧ tn 0 s2.heap ∧ (∀ b ∈ fp, FpOk X pins H' b) ∧ R J H'
def PI (X : Cx) (tg iter : Expr) (wi : TI) : Prop :=
  ∀ (pins : List (Addr × Obj)) (s : Shared) (σ : St) (H : Hp) (R : It → Hp → Prop), Inv X pins σ H s → wi σ H R →
    wpAny (model X.prog X.w) X.A (eval iter X.env) (fun v s1 => wpAny (model X.prog X.w) X.A (pyIter v) (PIE X pins σ tg R) X.xe s1) X.xe s

/-- the step ahead of the store is nothing for an iterator that keeps no tuple -/
theorem go_of {M : Model} {A : Around} {E : Value → Shared → Prop} {s : Shared} {tg : Expr} {it : Addr} {u : Value} {o : Obj} {n : String} {vs : Array Value} {Q : Unit → Shared → Prop} (ho : s.heap.get? it = some o) (hc : o.cls = .type n) (hd : o.data = .fields vs)
    (hn : ["enumerate", "zip", "dict_itemiterator", "dict_reverseitemiterator", "odict_iterator", "itertools.zip_longest", "itertools.pairwise"].contains n = false) (hQ : Q () s) : wpAny M A (letOwnedTupleGo tg (.ref it) u) Q E s := by
  unfold letOwnedTupleGo
  cases tg <;> first
    | exact wpAny_pure hQ
    | (cases u <;> first
        | exact wpAny_pure hQ
        | (refine wpAny_bind (wpAny_load ho ?_)
           rw [hc, hd]
           show wpAny M A (if (["enumerate", "zip", "dict_itemiterator", "dict_reverseitemiterator", "odict_iterator", "itertools.zip_longest", "itertools.pairwise"].contains n && vs[0]? == some (rawInt _)) = true then _ else _) Q E s
           rw [if_neg (by intro h; rw [hn, Bool.false_and] at h; cases h)]
           exact wpAny_pure hQ))

/-- the list at a, as it stands at each turn (a loop may append to it) -/
def Itl (K : PySem.W.Frag) (a : Addr) : It :=
  ⟨fun i H => ∃ xs x, SqL K H a xs ∧ xs[i]? = some x, fun i H x H' => H' = H ∧ ∀ xs, SqL K H a xs → xs[i]? = some x, fun i H => ∃ xs, SqL K H a xs ∧ xs.length ≤ i⟩
def Itt (K : PySem.W.Frag) (a : Addr) : It :=
  ⟨fun i H => ∃ xs x, SqT K H a xs ∧ xs[i]? = some x, fun i H x H' => H' = H ∧ ∀ xs, SqT K H a xs → xs[i]? = some x, fun i H => ∃ xs, SqT K H a xs ∧ xs.length ≤ i⟩
/-- lo, lo + 1, .. (n of them) -/
def Itr (lo : Int) (n : Nat) : It := ⟨fun i _ => i < n, fun i H x H' => H' = H ∧ x = .int (lo + i), fun i _ => n ≤ i⟩
theorem turn_list {P : Program} {w : World} {K : PySem.W.Frag} {tg : Expr} (a it : Addr) : Turn P w K tg (Itl K a) [it] it (fun i h => h.IsListIter it a i) where
  mem := by simp
  obj := fun i h st b hb => by
    have e : b = it := by simpa using hb
    subst e
    obtain ⟨o, e, c, d⟩ := st
    exact ⟨o, e, fun v z => by rw [d] at z; cases z⟩
  keep := fun i h h' st k => st.at fun o e => k it (by simp) o e
  item := by
    intro X hP hw hK hc i pins s σ H E I hf st hg
    subst hP hw hK
    obtain ⟨xs, x, hq, hx⟩ := hg
    obtain ⟨its, rv, p, hz⟩ := I.list hq
    obtain ⟨u, hu, ru⟩ := rv.get hx
    obtain ⟨f0, f1, f2, f3, f4, f5⟩ := hf it (by simp)
    refine wpAny_pyNext_list_item st p.isList (x := u) (by simpa using hu) fun h' st' sb => ?_
    have I1 : Inv X pins σ H { s with heap := h' } := I.turned (t' := s.toks) (fun b o hb e => (sb.2 b hb).trans e) f0 f1 f3 f4 f5
    obtain ⟨o, e, c, d⟩ := id st'
    exact ⟨u, rfl, go_of (s := { s with heap := h' }) e c d (by decide) ⟨x, H, I1, ru, ⟨rfl, fun ys hy => by rw [I.list_inj hy hq]; exact hx⟩, st', fun b hb => (hf b hb).1⟩⟩
  done := by
    intro X hP hw hK hc i pins s σ H E I hf st hg
    subst hP hw hK
    obtain ⟨xs, hq, hx⟩ := hg
    obtain ⟨its, rv, p, hz⟩ := I.list hq
    obtain ⟨f0, f1, f2, f3, f4, f5⟩ := hf it (by simp)
    have hl := rv.length
    exact wpAny_pyNext_list_end (I.ok.hd hc) st p.isList (by simp; omega) fun h' eb => ⟨rfl, I.turned (t' := s.toks) (fun b o hb e => eb b o hb e) f0 f1 f3 f4 f5⟩
  self := fun _ _ _ _ _ st h => wpAny_pyIter_listiter st h
theorem turn_tuple {P : Program} {w : World} {K : PySem.W.Frag} {tg : Expr} (a it : Addr) : Turn P w K tg (Itt K a) [it] it (fun i h => h.IsTupleIter it a i) where
  mem := by simp
  obj := fun i h st b hb => by
    have e : b = it := by simpa using hb
    subst e
    obtain ⟨o, e, c, d⟩ := st
    exact ⟨o, e, fun v z => by rw [d] at z; cases z⟩
  keep := fun i h h' st k => st.at fun o e => k it (by simp) o e
  item := by
    intro X hP hw hK hc i pins s σ H E I hf st hg
    subst hP hw hK
    obtain ⟨xs, x, hq, hx⟩ := hg
    obtain ⟨its, rv, p, hz⟩ := I.tuple hq
    obtain ⟨u, hu, ru⟩ := rv.get hx
    obtain ⟨f0, f1, f2, f3, f4, f5⟩ := hf it (by simp)
    refine wpAny_pyNext_tuple_item st (show s.heap.IsTuple a its.toArray from p) (x := u) (by simpa using hu) fun h' st' sb => ?_
    have I1 : Inv X pins σ H { s with heap := h' } := I.turned (t' := s.toks) (fun b o hb e => (sb.2 b hb).trans e) f0 f1 f3 f4 f5
    obtain ⟨o, e, c, d⟩ := id st'
    exact ⟨u, rfl, go_of (s := { s with heap := h' }) e c d (by decide) ⟨x, H, I1, ru, ⟨rfl, fun ys hy => by rw [I.tuple_inj hy hq]; exact hx⟩, st', fun b hb => (hf b hb).1⟩⟩
  done := by
    intro X hP hw hK hc i pins s σ H E I hf st hg
    subst hP hw hK
    obtain ⟨xs, hq, hx⟩ := hg
    obtain ⟨its, rv, p, hz⟩ := I.tuple hq
    obtain ⟨f0, f1, f2, f3, f4, f5⟩ := hf it (by simp)
    have hl := rv.length
    exact wpAny_pyNext_tuple_end (I.ok.hd hc) st (show s.heap.IsTuple a its.toArray from p) (by simp; omega) fun h' eb => ⟨rfl, I.turned (t' := s.toks) (fun b o hb e => eb b o hb e) f0 f1 f3 f4 f5⟩
  self := fun _ _ _ _ _ st h => wpAny_pyIter_tupleiter st h
theorem turn_range {P : Program} {w : World} {K : PySem.W.Frag} {tg : Expr} (it : Addr) (lo : Int) (n : Nat) : Turn P w K tg (Itr lo n) [it] it (fun i h => IsRangeIter h it (lo + (i : Nat) * 1) ((n : Int) - (i : Nat)) 1) where
  mem := by simp
  obj := fun i h st b hb => by
    have e : b = it := by simpa using hb
    subst e
    exact ⟨_, st, fun v z => by
      have z' : Data.fields _ = Data.cell v := z
      cases z'⟩
  keep := fun i h h' st k => k it (by simp) _ st
  item := by
    intro X hP hw hK hc i pins s σ H E I hf st hg
    subst hP hw hK
    obtain ⟨f0, f1, f2, f3, f4, f5⟩ := hf it (by simp)
    have W := Walks.range (prog := X.prog) (w := X.w) (I.ok.hd hc) it lo 1 n
    refine W.item i s _ _ hg st fun v h' tk hv st' kk => ?_
    obtain ⟨t, rfl⟩ := hv
    have I1 : Inv X pins σ H { s with heap := h', toks := tk } := I.turned (fun b o hb e => kk b o (by simpa using hb) e) f0 f1 f3 f4 f5
    refine ⟨_, rfl, go_of (s := { s with heap := h', toks := tk }) (n := "range_iterator") st' rfl rfl (by decide) ⟨.int (lo + i), H, I1, ⟨t, ?_⟩, ⟨rfl, rfl⟩, st', fun b hb => (hf b hb).1⟩⟩
    rw [Int.mul_one]
  done := by
    intro X hP hw hK hc i pins s σ H E I hf st hg
    subst hP hw hK
    obtain ⟨f0, f1, f2, f3, f4, f5⟩ := hf it (by simp)
    exact wpAny_pyNext_range_end (I.ok.hd hc) st (by have : n ≤ i := hg; omega) fun h' eb => ⟨rfl, I.turned (t' := s.toks) (fun b o hb e => eb b o hb e) f0 f1 f3 f4 f5⟩
  self := fun _ _ _ _ _ st h => wpAny_pyIter_rangeiter st h
end L2

namespace L2
open PySem PySem.Spec PyProof.Rows
section
variable {X : Cx} {tg : Expr}
def iList (K : PySem.W.Frag) (tl : TE) : TI := fun σ H R => tl σ H fun x H1 => ∃ a, x = .ref a ∧ (∃ xs, SqL K H1 a xs) ∧ R (Itl K a) H1
def iTup (K : PySem.W.Frag) (tl : TE) : TI := fun σ H R => tl σ H fun x H1 => ∃ a, x = .ref a ∧ (∃ xs, SqT K H1 a xs) ∧ R (Itt K a) H1
theorem pi_list {l : Expr} {tl : TE} (hl : PE X l tl) : PI X tg l (iList X.K tl) := by
  intro pins s σ H R I h
  refine thn (hl pins s σ H _ I h) fun v s1 ⟨x, H1, I1, r1, q1⟩ => ?_
  obtain ⟨a, e, ⟨xs, hq⟩, q⟩ := q1
  subst e
  cases r1
  obtain ⟨its, rv, p, hz⟩ := I1.list hq
  refine wpAny_pyIter_list p.isList ?_
  refine ⟨s1.heap.objs.size, [s1.heap.objs.size], _, _, H1, rfl, I1.kept (t' := s1.toks) fun b o e => Heap.get?_push_of_some _ e, turn_list a _, ⟨_, Heap.get?_push_size _ rfl, rfl, rfl⟩, fun b hb => ?_, q⟩
  have e : b = s1.heap.objs.size := by simpa using hb
  subst e
  exact I1.fpOk (Nat.le_refl _) (I1.hok.fresh (Nat.le_refl _))
theorem pi_tup {l : Expr} {tl : TE} (hl : PE X l tl) : PI X tg l (iTup X.K tl) := by
  intro pins s σ H R I h
  refine thn (hl pins s σ H _ I h) fun v s1 ⟨x, H1, I1, r1, q1⟩ => ?_
  obtain ⟨a, e, ⟨xs, hq⟩, q⟩ := q1
  subst e
  cases r1
  obtain ⟨its, rv, p, hz⟩ := I1.tuple hq
  refine wpAny_pyIter_tuple (show s1.heap.IsTuple a its.toArray from p) ?_
  refine ⟨s1.heap.objs.size, [s1.heap.objs.size], _, _, H1, rfl, I1.kept (t' := s1.toks) fun b o e => Heap.get?_push_of_some _ e, turn_tuple a _, ⟨_, Heap.get?_push_size _ rfl, rfl, rfl⟩, fun b hb => ?_, q⟩
  have e : b = s1.heap.objs.size := by simpa using hb
  subst e
  exact I1.fpOk (Nat.le_refl _) (I1.hok.fresh (Nat.le_refl _))
/-- a range object just made, walked -/
theorem range_it {pins : List (Addr × Obj)} {σ : St} {H : Hp} {s : Shared} {R : It → Hp → Prop} {E : Value → Shared → Prop} {lo hi : Int} {t u v : Tok} {tk : Nat} (I : Inv X pins σ H s) (h1 : -(2 ^ 62) ≤ lo) (h2 : lo < 2 ^ 62) (h3 : -(2 ^ 62) ≤ hi) (h4 : hi < 2 ^ 62)
    (q : R (Itr lo (hi - lo).toNat) H) : wpAny (model X.prog X.w) X.A (pyIter (.ref s.heap.objs.size)) (PIE X pins σ tg R) E { s with heap := s.heap.push { cls := .type "range", data := .fields #[.int lo t, .int hi u, .int 1 v] }, toks := tk } := by
  refine wpAny_pyIter_range (IsRange.new ..) (small_one h1 h2 h3 h4) ?_
  have I1 : Inv X pins σ H { s with heap := s.heap.push { cls := .type "range", data := .fields #[.int lo t, .int hi u, .int 1 v] }, toks := tk } := I.kept fun b o e => Heap.get?_push_of_some _ e
  refine ⟨(s.heap.push { cls := .type "range", data := .fields #[.int lo t, .int hi u, .int 1 v] }).objs.size, [(s.heap.push { cls := .type "range", data := .fields #[.int lo t, .int hi u, .int 1 v] }).objs.size], _, _, H, rfl,
    I1.kept (t' := tk) fun b o e => Heap.get?_push_of_some _ e, turn_range _ lo (hi - lo).toNat, ?_, fun b hb => ?_, q⟩
  · have e1 : lo + ((0 : Nat) : Int) * 1 = lo := by simp
    have e2 : (((hi - lo).toNat : Nat) : Int) - ((0 : Nat) : Int) = Builtin.Range.rangeSize lo hi 1 := by rw [rangeSize_one]; split <;> omega
    show IsRangeIter _ _ (lo + ((0 : Nat) : Int) * 1) ((((hi - lo).toNat : Nat) : Int) - ((0 : Nat) : Int)) 1
    rw [e1, e2]
    exact Heap.get?_push_size _ rfl
  · have e : b = (s.heap.push { cls := .type "range", data := .fields #[.int lo t, .int hi u, .int 1 v] }).objs.size := by simpa using hb
    subst e
    exact I1.fpOk (Nat.le_refl _) (I1.hok.fresh (Nat.le_refl _))
def iRng1 (ta : TA) : TI := fun σ H R => ta σ H fun vs H1 => ∃ j : Int, vs = [.int j] ∧ -(2 ^ 62) ≤ j ∧ j < 2 ^ 62 ∧ R (Itr 0 j.toNat) H1
def iRng2 (ta : TA) : TI := fun σ H R => ta σ H fun vs H1 => ∃ i j : Int, vs = [.int i, .int j] ∧ (-(2 ^ 62) ≤ i ∧ i < 2 ^ 62 ∧ -(2 ^ 62) ≤ j ∧ j < 2 ^ 62) ∧ R (Itr i (j - i).toNat) H1
theorem pi_range1 {a : Expr} {ta : TA} {p pos : Pos} (hg : Gl X "range") (hm : X.mg "range" = none) (ha : PA X [a] ta) (hs : starEach [a] X.env = [(false, eval a X.env)] := by rfl) : PI X tg (.Call (.Name "range" p) [a] [] pos) (iRng1 ta) := by
  intro pins s σ H R I h
  refine Call_ (ld_blt I hg hm boot_range (PyProof.Rows.callWith_type1 (thn (ha pos pins s σ H _ I h) fun us s1 ⟨vs, H1, I1, r1, q1⟩ => ?_) hs rfl))
  obtain ⟨j, e, q1, q2, q⟩ := q1
  subst e
  cases r1 with
  | cons r rr =>
    cases rr
    obtain ⟨t, rfl⟩ := r
    exact call_range_1 (range_it I1 (by omega) (by omega) q1 q2 (by simpa using q))
theorem pi_range2 {a b : Expr} {ta : TA} {p pos : Pos} (hg : Gl X "range") (hm : X.mg "range" = none) (ha : PA X [a, b] ta) (hs : starEach [a, b] X.env = [(false, eval a X.env), (false, eval b X.env)] := by rfl) (hs2 : starEach [b] X.env = [(false, eval b X.env)] := by rfl) :
    PI X tg (.Call (.Name "range" p) [a, b] [] pos) (iRng2 ta) := by
  intro pins s σ H R I h
  refine Call_ (ld_blt I hg hm boot_range (PyProof.Rows.callWith_type1 (thn (ha pos pins s σ H _ I h) fun us s1 ⟨vs, H1, I1, r1, q1⟩ => ?_) (by rw [hs, hs2]) (by rw [hs2]; rfl)))
  obtain ⟨i, j, e, ⟨q1, q2, q3, q4⟩, q⟩ := q1
  subst e
  cases r1 with
  | cons r rr =>
    cases rr with
    | cons r' rr =>
      cases rr
      obtain ⟨t, rfl⟩ := r
      obtain ⟨t', rfl⟩ := r'
      exact call_range_2 (range_it I1 q1 q2 q3 q4 q)

/-! ### for -/
/-- W: the invariant by the turn and a measure; N: what the body is to reach -/
def tFor (wi : TI) (g : TG) (tb : TS) : TS := fun D σ H => wi σ H fun J H1 => ∃ W : Nat → Nat → St → Hp → Prop, (∃ m, W 0 m σ H1) ∧ ∀ i m σ H, W i m σ H →
  (J.stop i H ∧ D.nx σ H) ∨ (J.go i H ∧ ∃ N : St → Hp → Prop, (∀ σ' H', N σ' H' → ∃ m', m' < m ∧ W (i + 1) m' σ' H') ∧ ∀ x H', J.yld i H x H' → g x σ H' fun σ2 H2 => tb { D with nx := N, ct := N, bk := D.nx } σ2 H2)
/-- the records at fp as they stand -/
def pinsAt (fp : List Addr) (h : Heap) : List (Addr × Obj) := fp.filterMap fun b => (h.get? b).map fun o => (b, o)
theorem mem_pinsAt {fp : List Addr} {h : Heap} {b : Addr} {o : Obj} (hb : b ∈ fp) (e : h.get? b = some o) : (b, o) ∈ pinsAt fp h := List.mem_filterMap.mpr ⟨b, hb, by rw [e]; rfl⟩
theorem of_pinsAt {fp : List Addr} {h : Heap} {p : Addr × Obj} (hp : p ∈ pinsAt fp h) : p.1 ∈ fp ∧ h.get? p.1 = some p.2 := by
  obtain ⟨b, hb, e⟩ := List.mem_filterMap.mp hp
  cases q : h.get? b with
  | none => rw [q] at e; cases e
  | some o =>
    rw [q] at e
    have e' : (b, o) = p := Option.some.inj e
    subst e'
    exact ⟨hb, q⟩
theorem Inv.pinned {pins : List (Addr × Obj)} {σ : St} {H : Hp} {s : Shared} {fp : List Addr} (I : Inv X pins σ H s) (hf : ∀ b ∈ fp, FpOk X pins H b) (ho : ∀ b ∈ fp, ∃ o, s.heap.get? b = some o ∧ ∀ v, o.data ≠ .cell v) : Inv X (pins ++ pinsAt fp s.heap) σ H s :=
  I.pins_of fun p hp => (List.mem_append.mp hp).elim (fun z => I.pin p (List.mem_append_right _ z)) fun z => by
    obtain ⟨hb, e⟩ := of_pinsAt z
    obtain ⟨f0, f1, f2, _⟩ := hf p.1 hb
    obtain ⟨o, e', d⟩ := ho p.1 hb
    rw [e] at e'; cases e'
    exact ⟨e, f0, f1, f2, d⟩
theorem Inv.unpinned {pins pl : List (Addr × Obj)} {σ : St} {H : Hp} {s : Shared} (I : Inv X (pins ++ pl) σ H s) : Inv X pins σ H s := I.pins_of fun p hp => I.pin p (List.mem_append_right _ (List.mem_append_left _ hp))
theorem ps_for {iter : Expr} {body : List Stmt} {wi : TI} {g : TG} {tb : TS} {pos : Pos} (hp : PassesOwn (model X.prog X.w) X.A X.env X.xe) (hc : X.calm = true) (hi : PI X tg iter wi) (hg : PG X tg g) (hb : PSs X body tb)
    (hs : ∀ x, foldedSetIterable iter X.env x = pure x := by intro _; rfl) : PS X (.For tg iter body [] pos) (tFor wi g tb) := by
  intro pins s σ H D I h
  refine wpAny_For (thn (hi pins s σ H _ I h) fun v s1 h1 => thn h1 fun itv s2 h2 => ?_) hs
  obtain ⟨it, fp, tn, J, H2, e, I2, T, st2, f2, W, ⟨m0, w0⟩, turn⟩ := h2
  subst e
  -- what stays true of the iterator's objects through the loop
  have stat : ∀ {H' : Hp}, (∀ b ∈ fp, H' b = none) → ∀ b ∈ fp, FpOk X pins H' b := fun hn b hb => ⟨hn b hb, (f2 b hb).2⟩
  refine codeAny_forLoop_any (fun n s' => ∃ i σ' H', Inv X pins σ' H' s' ∧ tn i s'.heap ∧ (∀ b ∈ fp, H' b = none) ∧ W i n σ' H') ?_ m0 ⟨0, σ, H2, I2, st2, fun b hb => (f2 b hb).1, w0⟩
  rintro n s3 ⟨i, σ3, H3, I3, st3, fr3, w3⟩
  rcases turn i n σ3 H3 w3 with ⟨stop, qn⟩ | ⟨go, N, hN, step⟩
  · refine wpAny_passesOwn hp (thn (T.done X rfl rfl rfl hc i pins s3 σ3 H3 X.xe I3 (stat fr3) st3 stop) fun r s4 ⟨hr, I4⟩ => ?_)
    subst hr
    exact wpAny_execs_nil ⟨σ3, H3, I4, qn⟩
  · refine wpAny_passesOwn hp (thn (T.item X rfl rfl rfl hc i pins s3 σ3 H3 X.xe I3 (stat fr3) st3 go) fun r s4 ⟨u, hr, h4⟩ => ?_)
    subst hr
    refine wpAny_passesOwn hp (thn h4 fun _ s5 ⟨x, H5, I5, r5, y5, st5, fr5⟩ => ?_)
    have I5' := I5.pinned (stat fr5) (T.obj _ _ st5)
    refine wpAny_passesOwn hp (thn (hg _ s5 σ3 H5 x u _ I5' r5 (step x H5 y5)) fun _ s6 ⟨σ6, H6, I6, q6⟩ => ?_)
    refine wpAny_passesOwn hp (thn (hb _ s6 σ6 H6 _ I6 q6) fun f s7 q7 => ?_)
    have again : ∀ {σ7 : St} {H7 : Hp}, Inv X (pins ++ pinsAt fp s5.heap) σ7 H7 s7 → N σ7 H7 → ∃ m, m < n ∧ ∃ i σ' H', Inv X pins σ' H' s7 ∧ tn i s7.heap ∧ (∀ b ∈ fp, H' b = none) ∧ W i m σ' H' := fun {σ7 H7} I7 n7 => by
      obtain ⟨m', hm, w7⟩ := hN σ7 H7 n7
      refine ⟨m', hm, i + 1, σ7, H7, I7.unpinned, T.keep _ _ _ st5 fun b hb o e => (I7.pin (b, o) (List.mem_append_right _ (List.mem_append_right _ (mem_pinsAt hb e)))).1, fun b hb => ?_, w7⟩
      obtain ⟨o, e, d⟩ := T.obj _ _ st5 b hb
      exact (I7.pin (b, o) (List.mem_append_right _ (List.mem_append_right _ (mem_pinsAt hb e)))).2.1
    cases f with
    | next => obtain ⟨σ7, H7, I7, n7⟩ := q7; exact again I7 n7
    | cont => obtain ⟨σ7, H7, I7, n7⟩ := q7; exact again I7 n7
    | brk => obtain ⟨σ7, H7, I7, q7⟩ := q7; exact ⟨σ7, H7, I7.unpinned, q7⟩
    | ret v => obtain ⟨x7, σ7, H7, I7, r7, q7⟩ := q7; exact ⟨x7, σ7, H7, I7.unpinned, r7, q7⟩
end

/-! ### the forms one uses -/
/-- over a list that the body leaves as it is -/
theorem for_list {K : PySem.W.Frag} {a : Addr} {xs : List V} {g : TG} {tb : TS} {D : Ends} {σ : St} {H : Hp} (Pv : Nat → St → Hp → Prop) (h0 : Pv 0 σ H) (hl : ∀ i σ H, i ≤ xs.length → Pv i σ H → SqL K H a xs)
    (hs : ∀ i x σ H, xs[i]? = some x → Pv i σ H → g x σ H fun σ2 H2 => tb { D with nx := Pv (i + 1), ct := Pv (i + 1), bk := D.nx } σ2 H2) (hd : ∀ σ H, Pv xs.length σ H → D.nx σ H) :
    ∃ W : Nat → Nat → St → Hp → Prop, (∃ m, W 0 m σ H) ∧ ∀ i m σ H, W i m σ H →
      ((Itl K a).stop i H ∧ D.nx σ H) ∨ ((Itl K a).go i H ∧ ∃ N : St → Hp → Prop, (∀ σ' H', N σ' H' → ∃ m', m' < m ∧ W (i + 1) m' σ' H') ∧ ∀ x H', (Itl K a).yld i H x H' → g x σ H' fun σ2 H2 => tb { D with nx := N, ct := N, bk := D.nx } σ2 H2) := by
  refine ⟨fun i m σ H => m = xs.length - i ∧ i ≤ xs.length ∧ Pv i σ H, ⟨xs.length, by simp, Nat.zero_le _, h0⟩, ?_⟩
  rintro i m σ H ⟨rfl, hi, p⟩
  have q := hl i σ H hi p
  by_cases hlt : i < xs.length
  · refine .inr ⟨⟨xs, xs[i], q, by simp [hlt]⟩, Pv (i + 1), fun σ' H' p' => ⟨xs.length - (i + 1), by omega, rfl, hlt, p'⟩, fun x H' y => ?_⟩
    obtain ⟨e, y⟩ := y
    subst e
    exact hs i x σ _ (y xs q) p
  · have e : i = xs.length := by omega
    subst e
    exact .inl ⟨⟨xs, q, Nat.le_refl _⟩, hd σ H p⟩
theorem for_tup {K : PySem.W.Frag} {a : Addr} {xs : List V} {g : TG} {tb : TS} {D : Ends} {σ : St} {H : Hp} (Pv : Nat → St → Hp → Prop) (h0 : Pv 0 σ H) (hl : ∀ i σ H, i ≤ xs.length → Pv i σ H → SqT K H a xs)
    (hs : ∀ i x σ H, xs[i]? = some x → Pv i σ H → g x σ H fun σ2 H2 => tb { D with nx := Pv (i + 1), ct := Pv (i + 1), bk := D.nx } σ2 H2) (hd : ∀ σ H, Pv xs.length σ H → D.nx σ H) :
    ∃ W : Nat → Nat → St → Hp → Prop, (∃ m, W 0 m σ H) ∧ ∀ i m σ H, W i m σ H →
      ((Itt K a).stop i H ∧ D.nx σ H) ∨ ((Itt K a).go i H ∧ ∃ N : St → Hp → Prop, (∀ σ' H', N σ' H' → ∃ m', m' < m ∧ W (i + 1) m' σ' H') ∧ ∀ x H', (Itt K a).yld i H x H' → g x σ H' fun σ2 H2 => tb { D with nx := N, ct := N, bk := D.nx } σ2 H2) := by
  refine ⟨fun i m σ H => m = xs.length - i ∧ i ≤ xs.length ∧ Pv i σ H, ⟨xs.length, by simp, Nat.zero_le _, h0⟩, ?_⟩
  rintro i m σ H ⟨rfl, hi, p⟩
  have q := hl i σ H hi p
  by_cases hlt : i < xs.length
  · refine .inr ⟨⟨xs, xs[i], q, by simp [hlt]⟩, Pv (i + 1), fun σ' H' p' => ⟨xs.length - (i + 1), by omega, rfl, hlt, p'⟩, fun x H' y => ?_⟩
    obtain ⟨e, y⟩ := y
    subst e
    exact hs i x σ _ (y xs q) p
  · have e : i = xs.length := by omega
    subst e
    exact .inl ⟨⟨xs, q, Nat.le_refl _⟩, hd σ H p⟩
theorem for_range {lo : Int} {n : Nat} {g : TG} {tb : TS} {D : Ends} {σ : St} {H : Hp} (Pv : Nat → St → Hp → Prop) (h0 : Pv 0 σ H)
    (hs : ∀ i σ H, i < n → Pv i σ H → g (.int (lo + i)) σ H fun σ2 H2 => tb { D with nx := Pv (i + 1), ct := Pv (i + 1), bk := D.nx } σ2 H2) (hd : ∀ σ H, Pv n σ H → D.nx σ H) :
    ∃ W : Nat → Nat → St → Hp → Prop, (∃ m, W 0 m σ H) ∧ ∀ i m σ H, W i m σ H →
      ((Itr lo n).stop i H ∧ D.nx σ H) ∨ ((Itr lo n).go i H ∧ ∃ N : St → Hp → Prop, (∀ σ' H', N σ' H' → ∃ m', m' < m ∧ W (i + 1) m' σ' H') ∧ ∀ x H', (Itr lo n).yld i H x H' → g x σ H' fun σ2 H2 => tb { D with nx := N, ct := N, bk := D.nx } σ2 H2) := by
  refine ⟨fun i m σ H => m = n - i ∧ i ≤ n ∧ Pv i σ H, ⟨n, by simp, Nat.zero_le _, h0⟩, ?_⟩
  rintro i m σ H ⟨rfl, hi, p⟩
  by_cases hlt : i < n
  · refine .inr ⟨hlt, Pv (i + 1), fun σ' H' p' => ⟨n - (i + 1), by omega, rfl, hlt, p'⟩, fun x H' y => ?_⟩
    obtain ⟨e, y⟩ := y
    subst e y
    exact hs i σ _ hlt p
  · have e : i = n := by omega
    subst e
    exact .inl ⟨Nat.le_refl _, hd σ H p⟩
/-- while, by a word and a measure of the state -/
theorem while_by {c : TT} {tb : TS} {D : Ends} {σ : St} {H : Hp} (Pv : St → Hp → Prop) (μ : St → Hp → Nat) (h0 : Pv σ H)
    (hs : ∀ σ H, Pv σ H → c σ H fun b H1 => if b = true then tb { D with nx := fun σ' H' => Pv σ' H' ∧ μ σ' H' < μ σ H, ct := fun σ' H' => Pv σ' H' ∧ μ σ' H' < μ σ H, bk := D.nx } σ H1 else D.nx σ H1)
    (mono : ∀ σ H Q Q', (∀ b H1, Q b H1 → Q' b H1) → c σ H Q → c σ H Q') : tWhile c tb D σ H := by
  refine ⟨fun m σ H => m = μ σ H ∧ Pv σ H, ⟨_, rfl, h0⟩, ?_⟩
  rintro m σ H ⟨rfl, p⟩
  refine mono σ H _ _ (fun b H1 q => ?_) (hs σ H p)
  cases b with
  | true => exact ⟨_, fun σ' H' ⟨p', l⟩ => ⟨_, l, rfl, p'⟩, q⟩
  | false => exact q
end L2

namespace L2
open PySem PySem.Spec PyProof.Rows

abbrev R2 := V → V → Hp → VK → Prop
/-- a two-place operation on values: f is binaryOp op, inplaceOp op or compareOp op -/
def OpR (X : Cx) (f : Value → Value → Sem Value) (r : R2) : Prop :=
  ∀ (pins : List (Addr × Obj)) (s : Shared) (σ : St) (H : Hp) (x y : V) (v u : Value) (Q : VK), Inv X pins σ H s → RelV x v → RelV y u → r x y H Q →
    wpAny (model X.prog X.w) X.A (f v u) (EP X pins σ Q) X.xe s
/-- a one-place operation -/
def UnR (X : Cx) (f : Value → Sem Value) (r : V → Hp → VK → Prop) : Prop :=
  ∀ (pins : List (Addr × Obj)) (s : Shared) (σ : St) (H : Hp) (x : V) (v : Value) (Q : VK), Inv X pins σ H s → RelV x v → r x H Q →
    wpAny (model X.prog X.w) X.A (f v) (EP X pins σ Q) X.xe s
/-- a call of a value that is known (a builtin, a type) with values -/
def CallR (X : Cx) (f : Value) (r : List V → Hp → VK → Prop) : Prop :=
  ∀ (pins : List (Addr × Obj)) (s : Shared) (σ : St) (H : Hp) (xs : List V) (us : List Value) (Q : VK), Inv X pins σ H s → Vals xs us → r xs H Q →
    wpAny (model X.prog X.w) X.A (call f us) (EP X pins σ Q) X.xe s
/-- a value's truth -/
def TruR (X : Cx) (r : V → Hp → (Bool → Hp → Prop) → Prop) : Prop :=
  ∀ (pins : List (Addr × Obj)) (s : Shared) (σ : St) (H : Hp) (x : V) (v : Value) (Q : Bool → Hp → Prop), Inv X pins σ H s → RelV x v → r x H Q →
    wpAny (model X.prog X.w) X.A (truthy v) (TP X pins σ Q) X.xe s

def tOp (r : R2) (ta tb : TE) : TE := fun σ H Q => ta σ H fun x H1 => tb σ H1 fun y H2 => r x y H2 Q
def tUn (r : V → Hp → VK → Prop) (ta : TE) : TE := fun σ H Q => ta σ H fun x H1 => r x H1 Q
/-- ints in, under C, and a value out -/
def rI (C : Int → Int → Prop) (g : Int → Int → V) : R2 := fun x y H Q => ∃ i j, x = .int i ∧ y = .int j ∧ C i j ∧ Q (g i j) H
def rI0 (g : Int → Int → V) : R2 := fun x y H Q => ∃ i j, x = .int i ∧ y = .int j ∧ Q (g i j) H
def rU (g : Int → V) : V → Hp → VK → Prop := fun x H Q => ∃ i, x = .int i ∧ Q (g i) H

section
variable {X : Cx} {a b c : Expr} {ta tb tc : TE} {pos : Pos}

theorem binT (ha : PE X a ta) (hb : PE X b tb) {pins : List (Addr × Obj)} {s : Shared} {σ : St} {H : Hp} {R : V → V → Hp → Prop} (I : Inv X pins σ H s)
    (h : ta σ H fun x H1 => tb σ H1 fun y H2 => R x y H2) {Q : Value → Shared → Prop} {f : Value → Value → Sem Value}
    (hf : ∀ v u s2 x y H2, Inv X pins σ H2 s2 → RelV x v → RelV y u → R x y H2 → wpAny (model X.prog X.w) X.A (f v u) Q X.xe s2) :
    wpAny (model X.prog X.w) X.A (eval a X.env) (fun v s₁ => wpAny (model X.prog X.w) X.A (eval b X.env) (fun u s₂ => wpAny (model X.prog X.w) X.A (f v u) Q X.xe s₂) X.xe s₁) X.xe s := by
  refine thn (ha pins s σ H _ I h) fun v s1 ⟨x, H1, I1, r1, q1⟩ => ?_
  refine thn (hb pins s1 σ H1 _ I1 q1) fun u s2 ⟨y, H2, I2, r2, q2⟩ => ?_
  exact hf v u s2 x y H2 I2 r1 r2 q2

theorem pe_op {op : Operator} {r : R2} (ho : OpR X (binaryOp op) r) (ha : PE X a ta) (hb : PE X b tb) : PE X (.BinOp a op b pos) (tOp r ta tb) := by
  intro pins s σ H Q I h
  exact wpAny_BinOp (binT ha hb I h fun v u s2 x y H2 I2 rx ry q => ho pins s2 σ H2 x y v u Q I2 rx ry q)
theorem pe_un {op : UnaryOp} {r : V → Hp → VK → Prop} (ho : UnR X (unaryOp op) r) (ha : PE X a ta) : PE X (.UnaryOp op a pos) (tUn r ta) := by
  intro pins s σ H Q I h
  exact UnaryOp_ (thn (ha pins s σ H _ I h) fun v s1 ⟨x, H1, I1, r1, q1⟩ => ho pins s1 σ H1 x v Q I1 r1 q1)
/-- a op= e at a name: the name's slot i -/
theorem augR {op : Operator} {r : R2} (ho : OpR X (inplaceOp op) r) {pins : List (Addr × Obj)} {s : Shared} {σ : St} {H : Hp} {x y : V} {v u : Value} {Q : VK} (I : Inv X pins σ H s)
    (rx : RelV x v) (ry : RelV y u) (q : r x y H Q) : wpAny (model X.prog X.w) X.A (inplaceOp op v u) (EP X pins σ Q) X.xe s := ho pins s σ H x y v u Q I rx ry q

/-! ### ints -/
theorem opI {f : Value → Value → Sem Value} {C : Int → Int → Prop} {g : Int → Int → Int}
    (rule : ∀ (i j : Int) (t u : Tok) (s : Shared) (Q : Value → Shared → Prop) (E : Value → Shared → Prop), C i j → Q (.int (g i j) s.toks) { s with toks := s.toks + 1 } → wpAny (model X.prog X.w) X.A (f (.int i t) (.int j u)) Q E s) :
    OpR X f (rI C fun i j => .int (g i j)) := by
  intro pins s σ H x y v u Q I rx ry h
  obtain ⟨i, j, rfl, rfl, hc, q⟩ := h
  obtain ⟨t, rfl⟩ := rx
  obtain ⟨t', rfl⟩ := ry
  exact rule i j t t' s _ _ hc ⟨.int (g i j), H, I.tok _, ⟨_, rfl⟩, q⟩
theorem opI0 {f : Value → Value → Sem Value} {g : Int → Int → Int}
    (rule : ∀ (i j : Int) (t u : Tok) (s : Shared) (Q : Value → Shared → Prop) (E : Value → Shared → Prop), Q (.int (g i j) s.toks) { s with toks := s.toks + 1 } → wpAny (model X.prog X.w) X.A (f (.int i t) (.int j u)) Q E s) :
    OpR X f (rI0 fun i j => .int (g i j)) := by
  intro pins s σ H x y v u Q I rx ry h
  obtain ⟨i, j, rfl, rfl, q⟩ := h
  obtain ⟨t, rfl⟩ := rx
  obtain ⟨t', rfl⟩ := ry
  exact rule i j t t' s _ _ ⟨.int (g i j), H, I.tok _, ⟨_, rfl⟩, q⟩
theorem opB0 {f : Value → Value → Sem Value} {g : Int → Int → Bool}
    (rule : ∀ (i j : Int) (t u : Tok) (s : Shared) (Q : Value → Shared → Prop) (E : Value → Shared → Prop), Q (.bool (g i j)) s → wpAny (model X.prog X.w) X.A (f (.int i t) (.int j u)) Q E s) :
    OpR X f (rI0 fun i j => .bl (g i j)) := by
  intro pins s σ H x y v u Q I rx ry h
  obtain ⟨i, j, rfl, rfl, q⟩ := h
  obtain ⟨t, rfl⟩ := rx
  obtain ⟨t', rfl⟩ := ry
  exact rule i j t t' s _ _ ⟨.bl (g i j), H, I, rfl, q⟩

def CDiv (i j : Int) : Prop := 0 < j ∧ j < 1073741824
def CDivN (i j : Int) : Prop := j ≠ 0 ∧ j.natAbs < 1073741824
def CPow (i j : Int) : Prop := 0 ≤ j ∧ j ≤ 1000000 ∧ i.natAbs < 2 ^ 64
def CMul (i j : Int) : Prop := (-(2 ^ 64) < i ∧ i < 2 ^ 64) ∨ (-(2 ^ 64) < j ∧ j < 2 ^ 64)
theorem CMul.ok {i j : Int} (h : CMul i j) : IntMulOk i j := by
  rcases h with ⟨h1, h2⟩ | ⟨h1, h2⟩
  · exact .of_left (intBits_le_64 h1 h2)
  · exact .of_right (intBits_le_64 h1 h2)
theorem two_pow_nn (k : Nat) : (0 : Int) ≤ 2 ^ k := by
  rw [two_pow_cast]
  exact Int.natCast_nonneg _

theorem op_add : OpR X (binaryOp .Add) (rI0 fun i j => .int (i + j)) := opI0 fun _ _ _ _ _ _ _ q => add_int q
theorem op_sub : OpR X (binaryOp .Sub) (rI0 fun i j => .int (i - j)) := opI0 fun _ _ _ _ _ _ _ q => sub_int q
theorem op_mul : OpR X (binaryOp .Mult) (rI CMul fun i j => .int (i * j)) := opI fun _ _ _ _ _ _ _ hc q => mul_int q hc.ok
/-- // by a positive divisor -/
theorem op_fdiv : OpR X (binaryOp .FloorDiv) (rI CDiv fun i j => .int (i / j)) := opI fun i j _ _ _ _ _ hc q => by
  have h1 : (0 : Int) < j := hc.1
  have h2 : j < 1073741824 := hc.2
  exact floordiv_int (by omega) (by rw [Int.fdiv_eq_ediv_of_nonneg i (by omega)]; exact q) (.inl (PyProof.noPylong_small (by omega)))
theorem op_fdivN : OpR X (binaryOp .FloorDiv) (rI CDivN fun i j => .int (i.fdiv j)) := opI fun _ _ _ _ _ _ _ hc q => floordiv_int hc.1 q (.inl (PyProof.noPylong_small hc.2))
/-- % by a positive divisor of any size -/
theorem op_mod : OpR X (binaryOp .Mod) (rI (fun _ j => 0 < j) fun i j => .int (i % j)) := opI fun i j _ _ _ _ _ hc q => by
  have h1 : (0 : Int) < j := hc
  exact mod_int' (by omega) (by rw [Int.fmod_eq_emod_of_nonneg i (by omega)]; exact q)
theorem op_modN : OpR X (binaryOp .Mod) (rI (fun _ j => j ≠ 0) fun i j => .int (i.fmod j)) := opI fun _ _ _ _ _ _ _ hc q => mod_int' hc q
theorem op_pow : OpR X (binaryOp .Pow) (rI CPow fun i j => .int (i ^ j.toNat)) := opI fun _ _ _ _ _ _ _ hc q => pow_int_small hc.1 hc.2.1 hc.2.2 q
theorem op_shl : OpR X (binaryOp .LShift) (rI CPow fun i j => .int (i * 2 ^ j.toNat)) := opI fun _ _ _ _ _ _ _ hc q => lshift_int_small hc.1 hc.2.1 hc.2.2 q
theorem op_shr : OpR X (binaryOp .RShift) (rI (fun _ j => 0 ≤ j) fun i j => .int (i / 2 ^ j.toNat)) := opI fun i j _ _ _ _ _ hc q =>
  rshift_int hc (by rw [Int.fdiv_eq_ediv_of_nonneg i (two_pow_nn _)]; exact q)
theorem op_and : OpR X (binaryOp .BitAnd) (rI0 fun i j => .int (Builtin.bitAnd i j)) := opI0 fun _ _ _ _ _ _ _ q => and_int q
theorem op_or : OpR X (binaryOp .BitOr) (rI0 fun i j => .int (Builtin.bitOr i j)) := opI0 fun _ _ _ _ _ _ _ q => or_int q
theorem op_xor : OpR X (binaryOp .BitXor) (rI0 fun i j => .int (Builtin.bitXor i j)) := opI0 fun _ _ _ _ _ _ _ q => xor_int q

theorem iop_add : OpR X (inplaceOp .Add) (rI0 fun i j => .int (i + j)) := opI0 fun _ _ _ _ _ _ _ q => iadd_int q
theorem iop_sub : OpR X (inplaceOp .Sub) (rI0 fun i j => .int (i - j)) := opI0 fun _ _ _ _ _ _ _ q => isub_int q
theorem iop_mul : OpR X (inplaceOp .Mult) (rI CMul fun i j => .int (i * j)) := opI fun _ _ _ _ _ _ _ hc q => imul_int q hc.ok
theorem iop_fdiv : OpR X (inplaceOp .FloorDiv) (rI CDiv fun i j => .int (i / j)) := opI fun i j _ _ _ _ _ hc q => by
  have h1 : (0 : Int) < j := hc.1
  have h2 : j < 1073741824 := hc.2
  exact ifloordiv_int (by omega) (by rw [Int.fdiv_eq_ediv_of_nonneg i (by omega)]; exact q) (.inl (PyProof.noPylong_small (by omega)))
theorem iop_mod : OpR X (inplaceOp .Mod) (rI (fun _ j => 0 < j) fun i j => .int (i % j)) := opI fun i j _ _ _ _ _ hc q => by
  have h1 : (0 : Int) < j := hc
  exact imod_int (by omega) (by rw [Int.fmod_eq_emod_of_nonneg i (by omega)]; exact q)
theorem iop_shl : OpR X (inplaceOp .LShift) (rI CPow fun i j => .int (i * 2 ^ j.toNat)) := opI fun _ _ _ _ _ _ _ hc q => ilshift_int_small hc.1 hc.2.1 hc.2.2 q
theorem iop_shr : OpR X (inplaceOp .RShift) (rI (fun _ j => 0 ≤ j) fun i j => .int (i / 2 ^ j.toNat)) := opI fun i j _ _ _ _ _ hc q =>
  irshift_int hc (by rw [Int.fdiv_eq_ediv_of_nonneg i (two_pow_nn _)]; exact q)
theorem iop_and : OpR X (inplaceOp .BitAnd) (rI0 fun i j => .int (Builtin.bitAnd i j)) := opI0 fun _ _ _ _ _ _ _ q => iand_int q
theorem iop_or : OpR X (inplaceOp .BitOr) (rI0 fun i j => .int (Builtin.bitOr i j)) := opI0 fun _ _ _ _ _ _ _ q => ior_int q
theorem iop_xor : OpR X (inplaceOp .BitXor) (rI0 fun i j => .int (Builtin.bitXor i j)) := opI0 fun _ _ _ _ _ _ _ q => ixor_int q

theorem unI {f : Value → Sem Value} {g : Int → Int}
    (rule : ∀ (i : Int) (t : Tok) (s : Shared) (Q : Value → Shared → Prop) (E : Value → Shared → Prop), Q (.int (g i) s.toks) { s with toks := s.toks + 1 } → wpAny (model X.prog X.w) X.A (f (.int i t)) Q E s) :
    UnR X f (rU fun i => .int (g i)) := by
  intro pins s σ H x v Q I rx h
  obtain ⟨i, rfl, q⟩ := h
  obtain ⟨t, rfl⟩ := rx
  exact rule i t s _ _ ⟨.int (g i), H, I.tok _, ⟨_, rfl⟩, q⟩
theorem un_neg : UnR X (unaryOp .USub) (rU fun i => .int (-i)) := unI fun _ _ _ _ _ q => neg_int q
theorem un_inv : UnR X (unaryOp .Invert) (rU fun i => .int (Builtin.bitNot i)) := unI fun _ _ _ _ _ q => invert_int q

/-! ### bools among ints: n += (a < b) -/
theorem op_add_ib : OpR X (binaryOp .Add) (fun x y H Q => ∃ i k, x = .int i ∧ y = .bl k ∧ Q (.int (i + b2i k)) H) := by
  intro pins s σ H x y v u Q I rx ry h
  obtain ⟨i, k, rfl, rfl, q⟩ := h
  obtain ⟨t, rfl⟩ := rx
  cases ry
  exact add_int_bool ⟨.int (i + b2i k), H, I.tok _, ⟨_, rfl⟩, q⟩
end

/-! ### comparisons -/
/-- the scalars that == tells apart as data does -/
def scal : V → V → Bool
  | .non, .non => true | .non, .int _ => true | .int _, .non => true | .non, .bl _ => true | .bl _, .non => true | .non, .str _ => true | .str _, .non => true
  | .int _, .int _ => true | .bl _, .bl _ => true | .str _, .str _ => true | .byt _, .byt _ => true
  | .int _, .str _ => true | .str _, .int _ => true | .bl _, .str _ => true | .str _, .bl _ => true
  | _, _ => false
def rEq : R2 := fun x y H Q => scal x y = true ∧ Q (.bl (decide (x = y))) H
def rNe : R2 := fun x y H Q => scal x y = true ∧ Q (.bl (!decide (x = y))) H

theorem dec_int {i j : Int} : decide (V.int i = V.int j) = (i == j) := by
  rw [Bool.eq_iff_iff]
  simp
theorem dec_bl {i j : Bool} : decide (V.bl i = V.bl j) = (i == j) := by
  rw [Bool.eq_iff_iff]
  simp
theorem dec_str {i j : Str} : decide (V.str i = V.str j) = (i == j) := by
  rw [Bool.eq_iff_iff]
  simp
theorem dec_byt {i j : Array UInt8} : decide (V.byt i = V.byt j) = (i.toList == j.toList) := by
  rw [Bool.eq_iff_iff]
  cases i
  cases j
  simp

section
variable {X : Cx} {a b c : Expr} {ta tb tc : TE} {pos : Pos}
theorem fin_bl {pins : List (Addr × Obj)} {σ : St} {H : Hp} {s : Shared} {Q : VK} {k k' : Bool} (I : Inv X pins σ H s) (q : Q (.bl k) H) (e : k = k') : EP X pins σ Q (.bool k') s := by
  subst e
  exact ⟨.bl k, H, I, rfl, q⟩
theorem op_eq : OpR X (compareOp .Eq) rEq := by
  intro pins s σ H x y v u Q I rx ry h
  obtain ⟨hs, q⟩ := h
  cases x with
  | non =>
    cases rx
    cases y with
    | non => cases ry; exact PySem.EqNone.eq_none_none (fin_bl I q (by simp))
    | bl j => cases ry; exact PySem.EqNone.eq_none_bool (fin_bl I q (by simp))
    | int j => obtain ⟨t', rfl⟩ := ry; exact PySem.EqNone.eq_none_int (fin_bl I q (by simp))
    | str j => obtain ⟨t', rfl⟩ := ry; exact PySem.EqNone.eq_none_str (fin_bl I q (by simp))
    | _ => exact absurd (show false = true from hs) Bool.false_ne_true
  | bl i =>
    cases rx
    cases y with
    | non => cases ry; exact PySem.EqNone.eq_bool_none (fin_bl I q (by simp))
    | bl j => cases ry; exact eq_bool (fin_bl I q dec_bl)
    | str j => obtain ⟨t', rfl⟩ := ry; exact PySem.EqMixed.eq_bool_str (fin_bl I q (by simp))
    | _ => exact absurd (show false = true from hs) Bool.false_ne_true
  | int i =>
    obtain ⟨t, rfl⟩ := rx
    cases y with
    | non => cases ry; exact PySem.EqNone.eq_int_none (fin_bl I q (by simp))
    | int j => obtain ⟨t', rfl⟩ := ry; exact eq_int (fin_bl I q dec_int)
    | str j => obtain ⟨t', rfl⟩ := ry; exact PySem.EqMixed.eq_int_str (fin_bl I q (by simp))
    | _ => exact absurd (show false = true from hs) Bool.false_ne_true
  | str i =>
    obtain ⟨t, rfl⟩ := rx
    cases y with
    | non => cases ry; exact PySem.EqNone.eq_str_none (fin_bl I q (by simp))
    | bl j => cases ry; exact PySem.EqMixed.eq_str_bool (fin_bl I q (by simp))
    | int j => obtain ⟨t', rfl⟩ := ry; exact PySem.EqMixed.eq_str_int (fin_bl I q (by simp))
    | str j => obtain ⟨t', rfl⟩ := ry; exact eq_str (fin_bl I q dec_str)
    | _ => exact absurd (show false = true from hs) Bool.false_ne_true
  | byt i =>
    obtain ⟨t, rfl⟩ := rx
    cases y with
    | byt j => obtain ⟨t', rfl⟩ := ry; exact PySem.W.eq_bytes (fin_bl I q dec_byt)
    | _ => exact absurd (show false = true from hs) Bool.false_ne_true
  | _ => cases y <;> exact absurd (show false = true from hs) Bool.false_ne_true
theorem op_ne : OpR X (compareOp .NotEq) rNe := by
  intro pins s σ H x y v u Q I rx ry h
  obtain ⟨hs, q⟩ := h
  cases x with
  | non =>
    cases rx
    cases y with
    | non => cases ry; exact PySem.EqNone.ne_none_none (fin_bl I q (by simp))
    | bl j => cases ry; exact PySem.EqNone.ne_none_bool (fin_bl I q (by simp))
    | int j => obtain ⟨t', rfl⟩ := ry; exact PySem.EqNone.ne_none_int (fin_bl I q (by simp))
    | str j => obtain ⟨t', rfl⟩ := ry; exact PySem.EqNone.ne_none_str (fin_bl I q (by simp))
    | _ => exact absurd (show false = true from hs) Bool.false_ne_true
  | bl i =>
    cases rx
    cases y with
    | non => cases ry; exact PySem.EqNone.ne_bool_none (fin_bl I q (by simp))
    | bl j => cases ry; exact ne_bool (fin_bl I q (congrArg not dec_bl))
    | str j => obtain ⟨t', rfl⟩ := ry; exact PySem.EqMixed.ne_bool_str (fin_bl I q (by simp))
    | _ => exact absurd (show false = true from hs) Bool.false_ne_true
  | int i =>
    obtain ⟨t, rfl⟩ := rx
    cases y with
    | non => cases ry; exact PySem.EqNone.ne_int_none (fin_bl I q (by simp))
    | int j => obtain ⟨t', rfl⟩ := ry; exact ne_int (fin_bl I q (congrArg not dec_int))
    | str j => obtain ⟨t', rfl⟩ := ry; exact PySem.EqMixed.ne_int_str (fin_bl I q (by simp))
    | _ => exact absurd (show false = true from hs) Bool.false_ne_true
  | str i =>
    obtain ⟨t, rfl⟩ := rx
    cases y with
    | non => cases ry; exact PySem.EqNone.ne_str_none (fin_bl I q (by simp))
    | bl j => cases ry; exact PySem.EqMixed.ne_str_bool (fin_bl I q (by simp))
    | int j => obtain ⟨t', rfl⟩ := ry; exact PySem.EqMixed.ne_str_int (fin_bl I q (by simp))
    | str j => obtain ⟨t', rfl⟩ := ry; exact ne_str (fin_bl I q (congrArg not dec_str))
    | _ => exact absurd (show false = true from hs) Bool.false_ne_true
  | byt i =>
    obtain ⟨t, rfl⟩ := rx
    cases y with
    | byt j => obtain ⟨t', rfl⟩ := ry; exact PySem.W.ne_bytes (fin_bl I q (congrArg not dec_byt))
    | _ => exact absurd (show false = true from hs) Bool.false_ne_true
  | _ => cases y <;> exact absurd (show false = true from hs) Bool.false_ne_true

theorem op_lt : OpR X (compareOp .Lt) (rI0 fun i j => .bl (decide (i < j))) := opB0 fun _ _ _ _ _ _ _ q => lt_int q
theorem op_le : OpR X (compareOp .LtE) (rI0 fun i j => .bl (decide (i ≤ j))) := opB0 fun _ _ _ _ _ _ _ q => le_int q
theorem op_gt : OpR X (compareOp .Gt) (rI0 fun i j => .bl (decide (j < i))) := opB0 fun _ _ _ _ _ _ _ q => gt_int q
theorem op_ge : OpR X (compareOp .GtE) (rI0 fun i j => .bl (decide (j ≤ i))) := opB0 fun _ _ _ _ _ _ _ q => ge_int q
theorem op_lt_str : OpR X (compareOp .Lt) (fun x y H Q => ∃ i j, x = .str i ∧ y = .str j ∧ Q (.bl (decide (i.cps.toList < j.cps.toList))) H) := by
  intro pins s σ H x y v u Q I rx ry h
  obtain ⟨i, j, rfl, rfl, q⟩ := h
  obtain ⟨t, rfl⟩ := rx
  obtain ⟨t', rfl⟩ := ry
  exact lt_str (fin_bl I q rfl)
/-- the one string within the other -/
theorem op_in_str : OpR X (compareOp .In) (fun x y H Q => ∃ i j, x = .str i ∧ y = .str j ∧ Q (.bl (!(Builtin.Str.occurrences j i 0 j.length 1).isEmpty)) H) := by
  intro pins s σ H x y v u Q I rx ry h
  obtain ⟨i, j, rfl, rfl, q⟩ := h
  obtain ⟨t, rfl⟩ := rx
  obtain ⟨t', rfl⟩ := ry
  exact in_str (fin_bl I q rfl)

/-- is None, is not None: the right side a value none -/
theorem op_isN : OpR X (compareOp .Is) (fun x y H Q => y = .non ∧ Q (.bl (decide (x = .non))) H) := by
  intro pins s σ H x y v u Q I rx ry h
  obtain ⟨rfl, q⟩ := h
  cases ry
  refine is_none_gen (fin_bl I q ?_)
  cases x <;> first
    | (cases rx; rfl)
    | (obtain ⟨t, rfl⟩ := rx; rfl)
theorem op_notN : OpR X (compareOp .IsNot) (fun x y H Q => y = .non ∧ Q (.bl (!decide (x = .non))) H) := by
  intro pins s σ H x y v u Q I rx ry h
  obtain ⟨rfl, q⟩ := h
  cases ry
  refine isnot_none_gen (fin_bl I q ?_)
  cases x <;> first
    | (cases rx; rfl)
    | (obtain ⟨t, rfl⟩ := rx; rfl)

theorem op_notin_str : OpR X (compareOp .NotIn) (fun x y H Q => ∃ i j, x = .str i ∧ y = .str j ∧ Q (.bl (!(!(Builtin.Str.occurrences j i 0 j.length 1).isEmpty))) H) := by
  intro pins s σ H x y v u Q I rx ry h
  obtain ⟨i, j, rfl, rfl, q⟩ := h
  obtain ⟨t, rfl⟩ := rx
  obtain ⟨t', rfl⟩ := ry
  exact notIn_str (fin_bl I q rfl)
/-- is, is not of two objects that are tracked lists or instances -/
def isObj : HO → Bool
  | .lst _ => true
  | .ins _ _ _ => true
  | _ => false
theorem obj_there {pins : List (Addr × Obj)} {s : Shared} {σ : St} {H : Hp} {a : Addr} {o : HO} (I : Inv X pins σ H s) (h : H a = some o) (p : isObj o = true) : ∃ ob, s.heap.get? a = some ob ∧ ob.cls ≠ .type "tuple" := by
  cases o with
  | lst xs =>
    obtain ⟨_, its, n, _, e⟩ : xs.length ≤ sizeLine ∧ ∃ (its : List Value) (n : Nat), Vals xs its ∧ s.heap.get? a = some { cls := .type "list", data := .seq its.toArray n } := I.hok a _ h
    exact ⟨_, e, (by show Value.type "list" ≠ .type "tuple"; decide +kernel)⟩
  | ins C dx fs =>
    have x := I.hok a _ h
    obtain ⟨_, _, _, e, _⟩ := x
    exact ⟨_, e, (by show Value.ref C ≠ .type "tuple"; exact fun z => by cases z)⟩
  | _ => exact absurd (show false = true from p) Bool.false_ne_true
theorem op_is_ref : OpR X (compareOp .Is) (fun x y H Q => ∃ a b oa ob, x = .ref a ∧ y = .ref b ∧ H a = some oa ∧ isObj oa = true ∧ H b = some ob ∧ isObj ob = true ∧ Q (.bl (decide (a = b))) H) := by
  intro pins s σ H x y v u Q I rx ry h
  obtain ⟨a, b, oa, ob, rfl, rfl, ha, pa, hb, pb, q⟩ := h
  cases rx
  cases ry
  obtain ⟨o1, e1, n1⟩ := obj_there I ha pa
  obtain ⟨o2, e2, _⟩ := obj_there I hb pb
  by_cases z : a = b
  · subst z
    exact wpAny_is_ref_self (fin_bl I q (by simp))
  · exact wpAny_is_ref_other z e1 e2 n1 (fin_bl I q (by simp [z]))
theorem op_isnot_ref : OpR X (compareOp .IsNot) (fun x y H Q => ∃ a b oa ob, x = .ref a ∧ y = .ref b ∧ H a = some oa ∧ isObj oa = true ∧ H b = some ob ∧ isObj ob = true ∧ Q (.bl (!decide (a = b))) H) := by
  intro pins s σ H x y v u Q I rx ry h
  obtain ⟨a, b, oa, ob, rfl, rfl, ha, pa, hb, pb, q⟩ := h
  cases rx
  cases ry
  obtain ⟨o1, e1, n1⟩ := obj_there I ha pa
  obtain ⟨o2, e2, _⟩ := obj_there I hb pb
  by_cases z : a = b
  · subst z
    exact wpAny_isNot_ref_self (fin_bl I q (by simp))
  · exact wpAny_isNot_ref_other z e1 e2 n1 (fin_bl I q (by simp [z]))

/-- two rules for one operation: by cases -/
theorem OpR.or {f : Value → Value → Sem Value} {r r' : R2} (h : OpR X f r) (h' : OpR X f r') : OpR X f (fun x y H Q => r x y H Q ∨ r' x y H Q) := by
  intro pins s σ H x y v u Q I rx ry q
  rcases q with q | q
  · exact h pins s σ H x y v u Q I rx ry q
  · exact h' pins s σ H x y v u Q I rx ry q

theorem nomark (b : Expr) {op : CmpOp} (h : op ≠ .In := by decide) (h2 : op ≠ .NotIn := by decide) : behindInMarks op b = false := by
  have e1 : (op == CmpOp.In) = false := by cases op <;> first | rfl | exact absurd rfl h
  have e2 : (op == CmpOp.NotIn) = false := by cases op <;> first | rfl | exact absurd rfl h2
  cases b <;> simp [behindInMarks, e1, e2]
/-- a comparison as a value; hm: nomark b, or (for in, not in) by with_unfolding_all rfl -/
theorem pe_cmpR {op : CmpOp} {r : R2} (ho : OpR X (compareOp op) r) (ha : PE X a ta) (hb : PE X b tb) (hm : behindInMarks op b = false) : PE X (.Compare a [op] [b] pos) (tOp r ta tb) := by
  intro pins s σ H Q I h
  exact wpAny_Compare1 (binT ha hb I h fun v u s2 x y H2 I2 rx ry q => ho pins s2 σ H2 x y v u Q I2 rx ry q) hm
/-- a reading of a value as a test -/
def tTest (t : TE) : TT := fun σ H Q => t σ H fun x H' => ∃ k, x = .bl k ∧ Q k H'
theorem pt_cmpR {op : CmpOp} {r : R2} (ho : OpR X (compareOp op) r) (ha : PE X a ta) (hb : PE X b tb) (hm : behindInMarks op b = false) : PT X (.Compare a [op] [b] pos) (tTest (tOp r ta tb)) := by
  intro pins s σ H Q I h
  refine wpAny_isTrue_Compare1 (thn (ha pins s σ H _ I h) fun v s1 ⟨x, H1, I1, r1, q1⟩ => thn (hb pins s1 σ H1 _ I1 q1) fun u s2 ⟨y, H2, I2, r2, q2⟩ =>
    thn (ho pins s2 σ H2 x y v u _ I2 r1 r2 q2) fun c s3 ⟨z, H3, I3, r3, k, e, q3⟩ => ?_) hm
  subst e
  cases r3
  exact wpAny_truthy_bool ⟨H3, I3, q3⟩
/-- a op1 b op2 c -/
def tChain (r r' : R2) (ta tb tc : TE) : TE := fun σ H Q => ta σ H fun x H1 => tb σ H1 fun y H2 => r x y H2 fun z H3 => ∃ k, z = .bl k ∧
  (if k = true then tc σ H3 fun w' H4 => r' y w' H4 Q else Q (.bl false) H3)
theorem pe_chain {op op' : CmpOp} {r r' : R2} (ho : OpR X (compareOp op) r) (ho' : OpR X (compareOp op') r') (ha : PE X a ta) (hb : PE X b tb) (hc : PE X c tc)
    (hm : lastMarks [op, op'] [b, c] = false := by with_unfolding_all rfl) : PE X (.Compare a [op, op'] [b, c] pos) (tChain r r' ta tb tc) := by
  intro pins s σ H Q I h
  refine Compare_chain (thn (ha pins s σ H _ I h) fun v s1 ⟨x, H1, I1, r1, q1⟩ => chain_link (thn (hb pins s1 σ H1 _ I1 q1) fun u s2 ⟨y, H2, I2, r2, q2⟩ =>
    thn (ho pins s2 σ H2 x y v u _ I2 r1 r2 q2) fun d s3 ⟨z, H3, I3, r3, k, e, q3⟩ => ?_)) hm
  subst e
  cases r3
  refine wpAny_truthy_bool ?_
  cases k with
  | false => exact ite_ff ⟨.bl false, H3, I3, rfl, q3⟩
  | true => exact ite_tt (chain_last (thn (hc pins s3 σ H3 _ I3 q3) fun w' s4 ⟨z', H4, I4, r4, q4⟩ => ho' pins s4 σ H4 y z' u w' Q I4 r2 r4 q4))
theorem pt_chain {op op' : CmpOp} {r r' : R2} (ho : OpR X (compareOp op) r) (ho' : OpR X (compareOp op') r') (ha : PE X a ta) (hb : PE X b tb) (hc : PE X c tc)
    (hm : lastMarks [op, op'] [b, c] = false := by with_unfolding_all rfl) : PT X (.Compare a [op, op'] [b, c] pos) (tTest (tChain r r' ta tb tc)) := by
  intro pins s σ H Q I h
  refine isTrue_chain (thn (ha pins s σ H _ I h) fun v s1 ⟨x, H1, I1, r1, q1⟩ => test_link (thn (hb pins s1 σ H1 _ I1 q1) fun u s2 ⟨y, H2, I2, r2, q2⟩ =>
    thn (ho pins s2 σ H2 x y v u _ I2 r1 r2 q2) fun d s3 ⟨z, H3, I3, r3, k, e, q3⟩ => ?_)) hm
  subst e
  cases r3
  refine wpAny_truthy_bool ?_
  cases k with
  | false =>
    obtain ⟨k', e', q'⟩ := q3
    cases e'
    exact ite_ff ⟨H3, I3, q'⟩
  | true =>
    refine ite_tt (test_last (thn (hc pins s3 σ H3 _ I3 q3) fun w' s4 ⟨z', H4, I4, r4, q4⟩ => thn (ho' pins s4 σ H4 y z' u w' _ I4 r2 r4 q4) fun d' s5 ⟨z2, H5, I5, r5, k2, e2, q5⟩ => ?_))
    subst e2
    cases r5
    exact wpAny_truthy_bool ⟨H5, I5, q5⟩

/-! ### truth -/
/-- a value's truth by the abstract heap -/
def TruV (K : PySem.W.Frag) (x : V) (H : Hp) (k : Bool) : Prop :=
  match x with
  | .non => k = false
  | .bl b => k = b
  | .int i => k = (i != 0)
  | .str y => y.length ≤ sizeLine ∧ k = ((y.length : Int) != 0)
  | .byt y => y.size ≤ sizeLine ∧ k = ((y.size : Int) != 0)
  | .ref p => (∃ xs, SqL K H p xs ∧ k = !xs.isEmpty) ∨ (∃ xs, SqT K H p xs ∧ k = !xs.isEmpty) ∨ ∃ kvs, H p = some (.dK kvs) ∧ k = !kvs.isEmpty
  | _ => False
theorem isEmpty_kv {κ : Type} {kvs : List (κ × V)} {vs : List (κ × Value)} (r : KV kvs vs) : (!vs.isEmpty) = !kvs.isEmpty := by
  cases r <;> rfl
theorem isEmpty_of {xs : List V} {its : List Value} (r : Vals xs its) : (!its.toArray.isEmpty) = !xs.isEmpty := by
  cases r <;> simp
theorem line63 : (sizeLine : Nat) < 2 ^ 63 := by rw [sizeLine_eq]; decide
theorem tru_ok : TruR X (fun x H Q => ∃ k, TruV X.K x H k ∧ Q k H) := by
  intro pins s σ H x v Q I rx h
  obtain ⟨k, e, q⟩ := h
  have hl := line63
  have hs : sizeLine = 16777216 := sizeLine_eq
  cases x with
  | non =>
    cases rx
    have e' : k = false := e
    subst e'
    exact truthy_none ⟨H, I, q⟩
  | bl b =>
    cases rx
    have e' : k = b := e
    subst e'
    exact wpAny_truthy_bool ⟨H, I, q⟩
  | int i =>
    obtain ⟨t, rfl⟩ := rx
    have e' : k = (i != 0) := e
    subst e'
    exact PySem.P.truthy_int ⟨H, I, q⟩
  | str y =>
    obtain ⟨t, rfl⟩ := rx
    obtain ⟨hy, e'⟩ : y.length ≤ sizeLine ∧ k = ((y.length : Int) != 0) := e
    subst e'
    exact PySem.P.truthy_str (by omega) ⟨H, I.tok _, q⟩
  | byt y =>
    obtain ⟨t, rfl⟩ := rx
    obtain ⟨hy, e'⟩ : y.size ≤ sizeLine ∧ k = ((y.size : Int) != 0) := e
    subst e'
    exact PySem.W.truthy_bytes (by omega) ⟨H, I.tok _, q⟩
  | ref p =>
    cases rx
    have e' : (∃ xs, SqL X.K H p xs ∧ k = !xs.isEmpty) ∨ (∃ xs, SqT X.K H p xs ∧ k = !xs.isEmpty) ∨ ∃ kvs, H p = some (.dK kvs) ∧ k = !kvs.isEmpty := e
    rcases e' with ⟨xs, hx, e'⟩ | ⟨xs, hx, e'⟩ | ⟨kvs, hx, e'⟩
    · subst e'
      obtain ⟨its, r, pl, hz⟩ := I.list hx
      have hlen := r.length
      exact wpAny_truthy_list pl.isList (by simp only [List.size_toArray]; omega) ⟨H, I.tok _, by rw [isEmpty_of r]; exact q⟩
    · subst e'
      obtain ⟨its, r, pl, hz⟩ := I.tuple hx
      have hlen := r.length
      exact truthy_tuple pl (by simp only [List.size_toArray]; omega) ⟨H, I.tok _, by rw [isEmpty_of r]; exact q⟩
    · subst e'
      obtain ⟨hz, hS, vs, r, m⟩ : kvs.length ≤ sizeLine ∧ (p == sysModules) = false ∧ ∃ vs, KV kvs vs ∧ s.heap.DictOf (mixKind X.prog X.w) p vs := I.hok p _ hx
      have hlen : kvs.length = vs.length := Paired.length r
      exact wpAny_truthy_dict hS m (by omega) ⟨H, I.tok _, by rw [isEmpty_kv r]; exact q⟩
  | _ => exact (show False from e).elim
/-- any expression whose test is its value's truth (a name, a call, a subscript, a field ..: he by fun _ => rfl) -/
theorem pt_truth (ha : PE X a ta) (he : ∀ whole, isTrue a X.env whole = (do let v ← whole; standAt a.pos; holding [v] (truthy v))) :
    PT X a (fun σ H Q => ta σ H fun x H' => ∃ k, TruV X.K x H' k ∧ Q k H') := by
  intro pins s σ H Q I h
  exact isTrue_plain (thn (ha pins s σ H _ I h) fun v s1 ⟨x, H1, I1, r1, q1⟩ => tru_ok pins s1 σ H1 x v Q I1 r1 q1) (he _)

/-! ### strs and bytes -/
theorem pe_byt {x : List UInt8} {k : Nat} : PE X (.Constant (.bytes x) k pos) (fun _ H Q => Q (.byt x.toArray) H) := fun _ _ _ H _ I h => PySem.W.Constant_bytes ⟨.byt x.toArray, H, I.tok _, ⟨_, rfl⟩, h⟩
theorem op_add_str : OpR X (binaryOp .Add) (fun x y H Q => ∃ i j, x = .str i ∧ y = .str j ∧ i.length + j.length ≤ sizeLine ∧ Q (.str (i ++ j)) H) := by
  intro pins s σ H x y v u Q I rx ry h
  obtain ⟨i, j, rfl, rfl, hz, q⟩ := h
  obtain ⟨t, rfl⟩ := rx
  obtain ⟨t', rfl⟩ := ry
  exact add_str (fun t' tk => ⟨.str (i ++ j), H, I.tok _, ⟨_, rfl⟩, q⟩) hz
theorem iop_add_str : OpR X (inplaceOp .Add) (fun x y H Q => ∃ i j, x = .str i ∧ y = .str j ∧ i.length + j.length ≤ sizeLine ∧ Q (.str (i ++ j)) H) := by
  intro pins s σ H x y v u Q I rx ry h
  obtain ⟨i, j, rfl, rfl, hz, q⟩ := h
  obtain ⟨t, rfl⟩ := rx
  obtain ⟨t', rfl⟩ := ry
  exact iadd_str (fun t' tk => ⟨.str (i ++ j), H, I.tok _, ⟨_, rfl⟩, q⟩) hz
theorem op_add_byt : OpR X (binaryOp .Add) (fun x y H Q => ∃ i j, x = .byt i ∧ y = .byt j ∧ i.size + j.size ≤ 16777216 ∧ Q (.byt (i ++ j)) H) := by
  intro pins s σ H x y v u Q I rx ry h
  obtain ⟨i, j, rfl, rfl, hz, q⟩ := h
  obtain ⟨t, rfl⟩ := rx
  obtain ⟨t', rfl⟩ := ry
  exact PySem.W.KBy.add_bytes hz (fun t' tk => ⟨.byt (i ++ j), H, I.tok _, ⟨_, rfl⟩, q⟩)

def PlainIxT (b : Expr) : Prop := ∀ o i, subscripted b false o i = operate [o, i] (getItem o i)
/-- s[i], 0 ≤ i < len -/
theorem pe_item_str (ha : PE X a ta) (hb : PE X b tb) (hs : PlainIxT b) :
    PE X (.Subscript a b pos) (tOp (fun x y H Q => ∃ z i c, x = .str z ∧ y = .int i ∧ 0 ≤ i ∧ i < 2 ^ 63 ∧ i < z.length ∧ z.cps[i.toNat]? = some c ∧ Q (.str ⟨#[c]⟩) H) ta tb) := by
  intro pins s σ H Q I h
  refine Subscript_ (binT ha hb I h fun v u s2 x y H2 I2 rx ry q => ?_)
  obtain ⟨z, i, c, rfl, rfl, h0, h63, h1, hc, q⟩ := q
  obtain ⟨t, rfl⟩ := rx
  obtain ⟨t', rfl⟩ := ry
  have e : seqIndex? i z.length = some i.toNat := PySem.StrLaws.seqIndex_nonneg h0 h1
  exact tail_any (typeIs_str s2 z t) slot_str_getitem.lookup (getItem_str (c := c) (by
    have e1 : decide (i < -(2 ^ 63 : Int)) = false := decide_eq_false (by omega)
    have e2 : decide (i ≥ 2 ^ 63) = false := decide_eq_false (by omega)
    rw [e1, e2] <;> rfl) (by rw [e]; exact hc) ⟨.str ⟨#[c]⟩, H2, I2.tok _, ⟨_, rfl⟩, q⟩) (hs _ _)
/-- b[i], 0 ≤ i < len -/
theorem pe_item_byt (ha : PE X a ta) (hb : PE X b tb) (hs : PlainIxT b) :
    PE X (.Subscript a b pos) (tOp (fun x y H Q => ∃ (z : List UInt8) (i : Int), x = .byt z.toArray ∧ y = .int i ∧ z.length ≤ sizeLine ∧ 0 ≤ i ∧ i < z.length ∧ Q (.int ((z.getD i.toNat 0).toNat : Nat)) H) ta tb) := by
  intro pins s σ H Q I h
  refine Subscript_ (binT ha hb I h fun v u s2 x y H2 I2 rx ry q => ?_)
  obtain ⟨z, i, rfl, rfl, hz, h0, h1, q⟩ := q
  obtain ⟨t, rfl⟩ := rx
  obtain ⟨t', rfl⟩ := ry
  have hl : sizeLine = 16777216 := sizeLine_eq
  exact tail_any (PySem.W.typeIs_bytes s2 z.toArray t) PySem.W.FB.slot_bytes_getitem.lookup (PySem.W.getItem_bytes (by omega) h0 h1 ⟨.int ((z.getD i.toNat 0).toNat : Nat), H2, I2.tok _, ⟨_, rfl⟩, q⟩) (hs _ _)

/-! ### scalar builtins, by CallR -/
theorem vals1 {x : V} {us : List Value} (r : Vals [x] us) : ∃ u, us = [u] ∧ RelV x u := by
  cases r with
  | cons r1 r2 => cases r2; exact ⟨_, rfl, r1⟩
theorem vals2 {x y : V} {us : List Value} (r : Vals [x, y] us) : ∃ u w', us = [u, w'] ∧ RelV x u ∧ RelV y w' := by
  cases r with
  | cons r1 r2 =>
    cases r2 with
    | cons r3 r4 => cases r4; exact ⟨_, _, rfl, r1, r3⟩
theorem call_abs : CallR X (.builtin "abs") (fun xs H Q => ∃ i, xs = [.int i] ∧ Q (.int (if i < 0 then -i else i)) H) := by
  intro pins s σ H xs us Q I r h
  obtain ⟨i, rfl, q⟩ := h
  obtain ⟨u, rfl, t, rfl⟩ := vals1 r
  exact call_abs_int fun u tk => ⟨.int (if i < 0 then -i else i), H, I.tok _, ⟨_, rfl⟩, q⟩
theorem call_max2 (hc : X.calm = true) : CallR X (.builtin "max") (fun xs H Q => ∃ i j, xs = [.int i, .int j] ∧ Q (.int (if j > i then j else i)) H) := by
  intro pins s σ H xs us Q I r h
  obtain ⟨i, j, rfl, q⟩ := h
  obtain ⟨u, w', rfl, ⟨t, rfl⟩, ⟨t', rfl⟩⟩ := vals2 r
  refine max_two_ints (I.ok.hd hc) fun h' tk k => ⟨_, H, I.kept k, ?_, q⟩
  by_cases hj : j > i
  · rw [if_pos hj, if_pos hj]; exact ⟨_, rfl⟩
  · rw [if_neg hj, if_neg hj]; exact ⟨_, rfl⟩
theorem call_min2 (hc : X.calm = true) : CallR X (.builtin "min") (fun xs H Q => ∃ i j, xs = [.int i, .int j] ∧ Q (.int (if j < i then j else i)) H) := by
  intro pins s σ H xs us Q I r h
  obtain ⟨i, j, rfl, q⟩ := h
  obtain ⟨u, w', rfl, ⟨t, rfl⟩, ⟨t', rfl⟩⟩ := vals2 r
  refine min_two_ints (I.ok.hd hc) fun h' tk k => ⟨_, H, I.kept k, ?_, q⟩
  by_cases hj : j < i
  · rw [if_pos hj, if_pos hj]; exact ⟨_, rfl⟩
  · rw [if_neg hj, if_neg hj]; exact ⟨_, rfl⟩
theorem call_int1 : CallR X (.type "int") (fun xs H Q => (∃ i, xs = [.int i] ∧ Q (.int i) H) ∨ ∃ k, xs = [.bl k] ∧ Q (.int (if k then 1 else 0)) H) := by
  intro pins s σ H xs us Q I r h
  rcases h with ⟨i, rfl, q⟩ | ⟨k, rfl, q⟩
  · obtain ⟨u, rfl, t, rfl⟩ := vals1 r
    exact call_int_int ⟨.int i, H, I, ⟨_, rfl⟩, q⟩
  · obtain ⟨u, rfl, r1⟩ := vals1 r
    cases r1
    exact call_int_bool ⟨.int (if k then 1 else 0), H, I.tok _, ⟨_, rfl⟩, q⟩
theorem call_bool1 : CallR X (.type "bool") (fun xs H Q => (∃ i, xs = [.int i] ∧ Q (.bl (i != 0)) H) ∨ ∃ k, xs = [.bl k] ∧ Q (.bl k) H) := by
  intro pins s σ H xs us Q I r h
  rcases h with ⟨i, rfl, q⟩ | ⟨k, rfl, q⟩
  · obtain ⟨u, rfl, t, rfl⟩ := vals1 r
    exact call_bool_int ⟨.bl (i != 0), H, I, rfl, q⟩
  · obtain ⟨u, rfl, r1⟩ := vals1 r
    cases r1
    exact call_bool_bool ⟨.bl k, H, I, rfl, q⟩
theorem call_str_int : CallR X (.type "str") (fun xs H Q => ∃ i, xs = [.int i] ∧ i.natAbs.log2 < 1920 ∧ Q (.str (toString i)) H) := by
  intro pins s σ H xs us Q I r h
  obtain ⟨i, rfl, hz, q⟩ := h
  obtain ⟨u, rfl, t, rfl⟩ := vals1 r
  exact PySem.P.str_of_int hz ⟨.str _, H, I.tok _, ⟨_, rfl⟩, q⟩
theorem call_ord : CallR X (.builtin "ord") (fun xs H Q => ∃ x, xs = [.str x] ∧ x.length = 1 ∧ Q (.int (x.cps.getD 0 0 : Nat)) H) := by
  intro pins s σ H xs us Q I r h
  obtain ⟨x, rfl, hz, q⟩ := h
  obtain ⟨u, rfl, t, rfl⟩ := vals1 r
  exact ord_of_one hz ⟨.int _, H, I.tok _, ⟨_, rfl⟩, q⟩
theorem call_chr : CallR X (.builtin "chr") (fun xs H Q => ∃ i, xs = [.int i] ∧ 0 ≤ i ∧ i ≤ 1114111 ∧ Q (.str ⟨#[i.toNat]⟩) H) := by
  intro pins s σ H xs us Q I r h
  obtain ⟨i, rfl, h0, h1, q⟩ := h
  obtain ⟨u, rfl, t, rfl⟩ := vals1 r
  exact chr_of_range h0 h1 ⟨.str _, H, I.tok _, ⟨_, rfl⟩, q⟩
/-- len of a str, a bytes, a list, a tuple -/
def LenV (K : PySem.W.Frag) (x : V) (H : Hp) (n : Nat) : Prop :=
  match x with
  | .str y => y.length ≤ sizeLine ∧ n = y.length
  | .byt y => y.size ≤ sizeLine ∧ n = y.size
  | .ref p => (∃ xs, SqL K H p xs ∧ n = xs.length) ∨ ∃ xs, SqT K H p xs ∧ n = xs.length
  | _ => False
theorem call_len : CallR X (.builtin "len") (fun xs H Q => ∃ x n, xs = [x] ∧ LenV X.K x H n ∧ Q (.int n) H) := by
  intro pins s σ H xs us Q I r h
  obtain ⟨x, n, rfl, e, q⟩ := h
  obtain ⟨u, rfl, rx⟩ := vals1 r
  have hl := line63
  have hs : sizeLine = 16777216 := sizeLine_eq
  cases x with
  | str y =>
    obtain ⟨t, rfl⟩ := rx
    obtain ⟨hy, e'⟩ : y.length ≤ sizeLine ∧ n = y.length := e
    subst e'
    exact len_str (by omega) ⟨.int _, H, I.tok _, ⟨_, rfl⟩, q⟩
  | byt y =>
    obtain ⟨t, rfl⟩ := rx
    obtain ⟨hy, e'⟩ : y.size ≤ sizeLine ∧ n = y.size := e
    subst e'
    exact PySem.W.len_bytes (by omega) ⟨.int _, H, I.tok _, ⟨_, rfl⟩, q⟩
  | ref p =>
    cases rx
    have e' : (∃ xs, SqL X.K H p xs ∧ n = xs.length) ∨ ∃ xs, SqT X.K H p xs ∧ n = xs.length := e
    rcases e' with ⟨xs, hx, e'⟩ | ⟨xs, hx, e'⟩
    · subst e'
      obtain ⟨its, r', pl, hz⟩ := I.list hx
      have hlen := r'.length
      exact Calls.call_len_list pl.isList (by simp only [List.size_toArray]; omega) ⟨.int xs.length, H, I.tok _, ⟨_, by simp only [List.size_toArray]; rw [hlen]⟩, q⟩
    · subst e'
      obtain ⟨its, r', pl, hz⟩ := I.tuple hx
      have hlen := r'.length
      exact len_tuple pl (by simp only [List.size_toArray]; omega) ⟨.int xs.length, H, I.tok _, ⟨_, by simp only [List.size_toArray]; rw [hlen]⟩, q⟩
  | _ => exact (show False from e).elim
/-- divmod: a new tuple -/
theorem call_divmod : CallR X (.builtin "divmod") (fun xs H Q => ∃ i j, xs = [.int i, .int j] ∧ CDiv i j ∧ ∀ p, H p = none → Q (.ref p) (upd H p (.tup [.int (i / j), .int (i % j)]))) := by
  intro pins s σ H xs us Q I r h
  obtain ⟨i, j, rfl, ⟨h1, h2⟩, q⟩ := h
  obtain ⟨u, w', rfl, ⟨t, rfl⟩, ⟨t', rfl⟩⟩ := vals2 r
  refine divmod_int (by omega) ?_ (.inl (PyProof.noPylong_small (by omega)))
  rw [Int.fdiv_eq_ediv_of_nonneg i (by omega), Int.fmod_eq_emod_of_nonneg i (by omega)]
  have hn : H s.heap.objs.size = none := I.hok.fresh (Nat.le_refl _)
  refine ⟨.ref s.heap.objs.size, _, ?_, rfl, q _ hn⟩
  refine I.laid (fun b o e => Heap.get?_push_of_some _ e) (Nat.le_refl _) ⟨by simp only [List.length_cons, List.length_nil]; rw [sizeLine_eq]; decide, [.int (i / j) s.toks, .int (i % j) (s.toks + 1)], .cons ⟨_, rfl⟩ (.cons ⟨_, rfl⟩ .nil), ?_⟩
  exact ⟨_, Heap.get?_push_size s.heap rfl, rfl, 0, rfl⟩
end
end L2

namespace L2
open PySem PySem.Spec PyProof.Rows

/-! ### an instance, its attributes a map -/
structure ObjM (h : Heap) (x dx C : Addr) (mA : Str → Option Value) : Prop where
  obj : h.get? x = some (PySem.W.instObj C dx)
  ns : h.Ns1 dx mA
  ne : dx ≠ x

theorem lookIn_ns {h : Heap} {dx : Addr} {mA : Str → Option Value} (n : h.Ns1 dx mA) : ∃ od, h.get? dx = some od ∧ ∀ name, PySem.W.lookIn name od = some (mA name) := by
  obtain ⟨o, es, ep, ho, hd, hk, _, hm⟩ := n
  refine ⟨o, ho, fun name => ?_⟩
  have e := hm name
  unfold nsFind findBy at e
  rw [← Array.find?_toList] at e
  unfold PySem.W.lookIn
  rw [hd]
  dsimp only
  split
  · rename_i y q
    rw [q] at e
    exact congrArg some e
  · rename_i q
    rw [q] at e
    have a : es.toList.any (·.refKey) = false := by
      rw [List.any_eq_false]
      intro y hy
      obtain ⟨z, t, hkey⟩ := hk y (Array.mem_toList_iff.mp hy)
      simp [DictEntry.refKey, hkey]
    have a' : ¬ es.toList.any (·.refKey) = true := by rw [a]; exact Bool.false_ne_true
    rw [if_neg a']
    exact congrArg some e

theorem ObjM.look {h : Heap} {x dx C : Addr} {mA : Str → Option Value} (I : ObjM h x dx C mA) : ∃ od, PySem.W.InstAt h x (PySem.W.instObj C dx) C (some od) ∧ ∀ name, PySem.W.lookIn name od = some (mA name) :=
  let ⟨od, ho, hl⟩ := lookIn_ns I.ns
  ⟨od, ⟨I.obj, rfl, rfl, ho⟩, hl⟩

section
variable {prog : Program} {w : World} {A : Around} {E : Value → Shared → Prop} {s : Shared} {K : PySem.W.Frag} {x dx C f : Addr} {mA : Str → Option Value} {name : Str} {v : Value}

theorem get_map {expr : Bool} {Q : Value → Shared → Prop} (X : K.In s.heap) (I : ObjM s.heap x dx C mA) (hg : PySem.W.plainGet K C name = true) (hh : PySem.W.hasDictIn K C = true)
    (ha : PySem.W.findIn K (.ref C) name = some none) (hv : mA name = some v) (hv' : PySem.W.handedIn v = true) (h : Q v { s with toks := s.toks + 1 }) :
    wpAny (model prog w) A (getAttr (.ref x) name expr) Q E s := by
  obtain ⟨od, J, hl⟩ := I.look
  exact PySem.W.get_value X J (PySem.W.plainGet_of hg).1 (PySem.W.findObj_own hh ha rfl (by rw [hl, hv])) hv' h

theorem get_const {expr : Bool} {a : Value} {Q : Value → Shared → Prop} (X : K.In s.heap) (I : ObjM s.heap x dx C mA) (hg : PySem.W.plainGet K C name = true) (hh : PySem.W.hasDictIn K C = true)
    (ha : PySem.W.findIn K (.ref C) name = some (some a)) (hn : PySem.W.specialIn K a "__get__" = some none) (hc : PySem.W.copiedNames.contains name = false) (hv : mA name = none) (hv' : PySem.W.handedIn a = true)
    (h : Q a { s with toks := s.toks + 1 }) : wpAny (model prog w) A (getAttr (.ref x) name expr) Q E s := by
  obtain ⟨od, J, hl⟩ := I.look
  exact PySem.W.get_value X J (PySem.W.plainGet_of hg).1 (PySem.W.findObj_cls hh ha hn hv' hc (by rw [hl, hv])) hv' h

theorem get_meth {pl : Sem Bool} {Q : Value × List Value → Shared → Prop} (X : K.In s.heap) (I : ObjM s.heap x dx C mA) (hg : PySem.W.plainGet K C name = true)
    (hf : PySem.W.findIn K (.ref C) name = some (some (.ref f))) (ht : PySem.W.isFn K (.ref f) = true) (hv : mA name = none) (h : Q (.ref f, [.ref x]) s) :
    wpAny (model prog w) A (getMethod (.ref x) name pl) Q E s := by
  obtain ⟨od, J, hl⟩ := I.look
  exact PySem.W.method_fn X J (PySem.W.plainGet_of hg).1 (PySem.W.plainGet_of hg).2 hf (beq_iff_eq.mp ht) (by show (PySem.W.lookIn name od).map (·.isSome) = some false; rw [hl, hv]; rfl) h

theorem set_map {ns : List Str} {Q : Unit → Shared → Prop} (X : K.In s.heap) (I : ObjM s.heap x dx C mA)
    (hs : PySem.W.findIn K (.ref C) "__setattr__" = some (some (.builtin "object.__setattr__"))) (hp : PySem.W.plainOver K C = true) (ht : PySem.W.takerIn K C name = some none) (hh : PySem.W.hasDictIn K C = true)
    (hw : PySem.Within mA ns) (hsz : ns.length ≤ sizeLine)
    (h : ∀ h', ObjM h' x dx C (fun y => if y = name then some v else mA y) → Heap.SameBut dx s.heap h' → Q () { s with heap := h', toks := s.toks + 2 }) :
    wpAny (model prog w) A (setAttr (.ref x) name v) Q E s := by
  obtain ⟨od, J, hl⟩ := I.look
  refine PySem.W.set_plain X J hs (PySem.W.osa_open (s := { s with toks := s.toks + 1 }) (r := none) X J hp ht fun b => ?_)
  obtain ⟨cd, hc, hd'⟩ := PySem.W.any_some hh
  have hx : s.heap.get? x = some ⟨.ref C, some dx, .plain, #[]⟩ := I.obj
  refine wpAny_bind (wpAny_pure (wpAny_bind (wpAny_bind (wpAny_loadPart hx (wpAny_bind (PySem.W.Looks.here (s := { s with toks := s.toks + 1 }) (PySem.W.looks_clsIn X hc) ?_))))))
  rw [hd']
  refine wpAny_pure (a := some dx) (wpAny_bind (wpAny_pure (wpAny_bind ?_)))
  refine wpAny_nsSet1 (s := { s with toks := s.toks + 1 }) I.ns fun h' hn2 hs2 => ?_
  obtain ⟨oD, esD, epD, hoD, hdD, hcD⟩ := hn2.count (PySem.Within.cons name v hw)
  refine wpAny_bind (wpAny_lookBehind hoD (by rw [hdD]; exact pastItsLine_dict (Nat.le_trans hcD (by rw [List.length_cons]; omega))) ?_)
  exact wpAny_pure (h _ ⟨(hs2.2 _ (Ne.symm I.ne)).trans I.obj, hn2, I.ne⟩ hs2)

/-- C(..): the dict at the heap's end, the instance behind it; then its __init__ -/
theorem make_map {R : Result → Shared → Prop} {vs : List Value} {kw : List (Str × Value)} (X : K.In s.heap) (hm : PySem.W.makesIn K C = true)
    (hi : PySem.W.findIn K (.ref C) "__init__" = some (some (.ref f))) (hf : PySem.W.typeIn K (.ref f) = some (.type "function"))
    (h : codeAny (model prog w) (A.under (.builtin "type.__call__" ⟨.ref C :: vs, kw⟩)) (.call (.ref f) ⟨.ref (s.heap.objs.size + 1) :: vs, kw⟩) (PySem.W.InitBack (s.heap.objs.size + 1) R)
      { s with heap := (s.heap.push PySem.W.emptyDict).push (PySem.W.instObj C s.heap.objs.size) }) :
    codeAny (model prog w) A (.call (.ref C) ⟨vs, kw⟩) R s := by
  obtain ⟨hh, g, d, t, os⟩ := s
  exact PySem.W.make_core (PySem.W.makes_of X hm) (PySem.W.looks_findIn X hi) (fun self => PySem.W.bind_fn X self hf) (.inl rfl) h
/-- C() where there is no __init__ but object's -/
theorem make_map0 {R : Result → Shared → Prop} (X : K.In s.heap) (hm : PySem.W.makesIn K C = true)
    (hi : PySem.W.findIn K (.ref C) "__init__" = some (some (.builtin "object.__init__")))
    (hb : ∀ self, PySem.W.Looks (model prog w) s.heap (bindSpecial (.builtin "object.__init__") self) (.builtin "object.__init__", [self]))
    (h : codeAny (model prog w) (A.under (.builtin "type.__call__" ⟨[.ref C], []⟩)) (.call (.builtin "object.__init__") ⟨[.ref (s.heap.objs.size + 1)], []⟩) (PySem.W.InitBack (s.heap.objs.size + 1) R)
      { s with heap := (s.heap.push PySem.W.emptyDict).push (PySem.W.instObj C s.heap.objs.size) }) :
    codeAny (model prog w) A (.call (.ref C) ⟨[], []⟩) R s := by
  obtain ⟨hh, g, d, t, os⟩ := s
  exact PySem.W.make_core (PySem.W.makes_of X hm) (PySem.W.looks_findIn X hi) hb (.inr ⟨rfl, rfl⟩) h
end

/-! ### the attributes as a list of pairs -/
def putF (f : Str) (v : V) : List (Str × V) → List (Str × V)
  | [] => [(f, v)]
  | (g, x) :: r => if g = f then (g, v) :: r else (g, x) :: putF f v r
theorem lookup_putF (f g : Str) (v : V) : ∀ fs : List (Str × V), (putF f v fs).lookup g = if g = f then some v else fs.lookup g
  | [] => by
    show List.lookup g [(f, v)] = _
    by_cases h : g = f
    · have hb : (g == f) = true := beq_iff_eq.mpr h
      simp only [List.lookup, hb, if_pos h]
    · have hb : (g == f) = false := beq_eq_false_iff_ne.mpr h
      simp only [List.lookup, hb, if_neg h]
  | (k, x) :: r => by
    have ih := lookup_putF f g v r
    rw [show putF f v ((k, x) :: r) = (if k = f then (k, v) :: r else (k, x) :: putF f v r) from rfl]
    by_cases hk : k = f
    · rw [if_pos hk]
      by_cases h : g = k
      · have hb : (g == k) = true := beq_iff_eq.mpr h
        simp only [List.lookup, hb, if_pos (h.trans hk)]
      · have hb : (g == k) = false := beq_eq_false_iff_ne.mpr h
        simp only [List.lookup, hb, if_neg (fun e : g = f => h (e.trans hk.symm))]
    · rw [if_neg hk]
      by_cases h : g = k
      · have hb : (g == k) = true := beq_iff_eq.mpr h
        simp only [List.lookup, hb, if_neg (fun e : g = f => hk (h.symm.trans e))]
      · have hb : (g == k) = false := beq_eq_false_iff_ne.mpr h
        simp only [List.lookup, hb]
        exact ih
theorem keys_putF (f : Str) (v : V) : ∀ fs : List (Str × V), f ∈ (putF f v fs).map (·.1) ∧ ∀ g, g ∈ fs.map (·.1) → g ∈ (putF f v fs).map (·.1)
  | [] => ⟨by simp [putF], fun g h => by simp at h⟩
  | (k, x) :: r => by
    obtain ⟨i1, i2⟩ := keys_putF f v r
    rw [show putF f v ((k, x) :: r) = (if k = f then (k, v) :: r else (k, x) :: putF f v r) from rfl]
    by_cases hk : k = f
    · rw [if_pos hk]
      subst hk
      exact ⟨by simp, fun g h => by simpa using h⟩
    · rw [if_neg hk]
      refine ⟨?_, fun g h => ?_⟩
      · rw [List.map_cons]
        exact List.mem_cons_of_mem _ i1
      · rw [List.map_cons] at h ⊢
        rcases List.mem_cons.mp h with e | e
        · exact List.mem_cons.mpr (.inl e)
        · exact List.mem_cons_of_mem _ (i2 g e)
theorem length_putF (f : Str) (v : V) : ∀ fs : List (Str × V), (putF f v fs).length ≤ fs.length + 1
  | [] => by simp [putF]
  | (k, x) :: r => by
    have ih := length_putF f v r
    rw [show putF f v ((k, x) :: r) = (if k = f then (k, v) :: r else (k, x) :: putF f v r) from rfl]
    by_cases hk : k = f
    · rw [if_pos hk, List.length_cons, List.length_cons]; omega
    · rw [if_neg hk, List.length_cons, List.length_cons]; omega

theorem RelO.some_of {v : V} {o : Option Value} (r : RelO (some v) o) : ∃ u, o = some u ∧ RelV v u := by
  cases o with
  | none => exact (show False from r).elim
  | some u => exact ⟨u, rfl, r⟩
theorem RelO.none_of {o : Option Value} (r : RelO none o) : o = none := by
  cases o with
  | none => rfl
  | some u => exact (show False from r).elim
theorem handed_of {v : V} {u : Value} (r : RelV v u) : PySem.W.handedIn u = true := by
  cases v with
  | non => cases (show u = Value.none from r); rfl
  | bl b => cases (show u = Value.bool b from r); rfl
  | int i => obtain ⟨t, e⟩ := (show ∃ t, u = Value.int i t from r); cases e; rfl
  | str x => obtain ⟨t, e⟩ := (show ∃ t, u = Value.str x t from r); cases e; rfl
  | byt b => obtain ⟨t, e⟩ := (show ∃ t, u = Value.bytes b t from r); cases e; rfl
  | flt b => obtain ⟨t, e⟩ := (show ∃ t, u = Value.float b t from r); cases e; rfl
  | ref a => cases (show u = Value.ref a from r); rfl
  | ty n => cases (show u = Value.type n from r); rfl

section
variable {P : Program} {w : World} {H H' : Hp} {h h' : Heap} {a C dx : Addr} {fs fs' : List (Str × V)}
theorem ins_get (hok : HOk P w H h) (e : H a = some (.ins C dx fs)) : ∃ mA, ObjM h a dx C mA ∧ (∀ f, RelO (fs.lookup f) (mA f)) ∧ PySem.Within mA (fs.map (·.1)) ∧ fs.length ≤ 1000 ∧ H dx = some (.own a) := by
  obtain ⟨d, z, ne, ob, mA, n, r, q⟩ := (show ObjOk P w H h a (.ins C dx fs) from hok a _ e)
  exact ⟨mA, ⟨ob, n, ne⟩, r, q, z, d⟩
end

/-! ### what of the text a class must have -/
structure Cls (K : PySem.W.Frag) (C : Addr) : Prop where
  pg : PySem.W.plainGet K C Str.empty = true
  hd : PySem.W.hasDictIn K C = true
  po : PySem.W.plainOver K C = true
  sa : PySem.W.findIn K (.ref C) "__setattr__" = some (some (.builtin "object.__setattr__"))
theorem Cls.get {K : PySem.W.Frag} {C : Addr} (c : Cls K C) (f : Str) : PySem.W.plainGet K C f = true := c.pg
/-- no class of it has the name -/
def NoAttr (K : PySem.W.Frag) (C : Addr) (f : Str) : Prop := PySem.W.findIn K (.ref C) f = some none
theorem NoAttr.taker {K : PySem.W.Frag} {C : Addr} {f : Str} (n : NoAttr K C f) : PySem.W.takerIn K C f = some none := by
  unfold PySem.W.takerIn
  rw [show PySem.W.findIn K (.ref C) f = some none from n]
  rfl
/-- a constant of the class -/
structure Con (K : PySem.W.Frag) (C : Addr) (f : Str) (v : V) (u : Value) : Prop where
  at_ : PySem.W.findIn K (.ref C) f = some (some u)
  rel : RelV v u
  get : PySem.W.specialIn K u "__get__" = some none
  cp : PySem.W.copiedNames.contains f = false
/-- a method: a plain def of the class or of one above it -/
structure Meth (K : PySem.W.Frag) (C : Addr) (m : Str) (f : Addr) : Prop where
  at_ : PySem.W.findIn K (.ref C) m = some (some (.ref f))
  fn : PySem.W.isFn K (.ref f) = true
  kp : PySem.W.keepIn K (.ref f) = true

section
variable {X : Cx} {pins : List (Addr × Obj)} {σ : St} {H : Hp} {s : Shared} {a C dx : Addr} {fs : List (Str × V)} {f : Str} {v : V} {A : Around} {E : Value → Shared → Prop}

theorem getattr_ok {b : Bool} {Q : Value → Shared → Prop} (I : Inv X pins σ H s) (e : H a = some (.ins C dx fs)) (c : Cls X.K C) (n : NoAttr X.K C f) (l : fs.lookup f = some v)
    (h : ∀ u s', Inv X pins σ H s' → RelV v u → Q u s') : wpAny (model X.prog X.w) A (getAttr (.ref a) f b) Q E s := by
  obtain ⟨mA, O, r, _, _, _⟩ := ins_get I.hok e
  obtain ⟨u, hu, ru⟩ := RelO.some_of (v := v) (o := mA f) (by rw [← l]; exact r f)
  exact get_map I.kIn O (c.get f) c.hd n hu (handed_of ru) (h u _ (I.tok _) ru)

theorem getcon_ok {b : Bool} {u : Value} {Q : Value → Shared → Prop} (I : Inv X pins σ H s) (e : H a = some (.ins C dx fs)) (c : Cls X.K C) (k : Con X.K C f v u) (l : fs.lookup f = none)
    (h : ∀ s', Inv X pins σ H s' → Q u s') : wpAny (model X.prog X.w) A (getAttr (.ref a) f b) Q E s := by
  obtain ⟨mA, O, r, _, _, _⟩ := ins_get I.hok e
  have hn : mA f = none := RelO.none_of (by rw [← l]; exact r f)
  exact get_const I.kIn O (c.get f) c.hd k.at_ k.get k.cp hn (handed_of k.rel) (h _ (I.tok _))

theorem getmeth_ok {m : Str} {g : Addr} {pl : Sem Bool} {Q : Value × List Value → Shared → Prop} (I : Inv X pins σ H s) (e : H a = some (.ins C dx fs)) (c : Cls X.K C) (k : Meth X.K C m g) (l : fs.lookup m = none)
    (h : Q (.ref g, [.ref a]) s) : wpAny (model X.prog X.w) A (getMethod (.ref a) m pl) Q E s := by
  obtain ⟨mA, O, r, _, _, _⟩ := ins_get I.hok e
  have hn : mA m = none := RelO.none_of (by rw [← l]; exact r m)
  exact get_meth I.kIn O (c.get m) k.at_ k.fn hn h

theorem setattr_ok {y : V} {u : Value} {Q : Unit → Shared → Prop} (I : Inv X pins σ H s) (e : H a = some (.ins C dx fs)) (c : Cls X.K C) (n : NoAttr X.K C f) (hl : fs.length < 1000) (ry : RelV y u)
    (h : ∀ s', Inv X pins σ (upd H a (.ins C dx (putF f y fs))) s' → Q () s') : wpAny (model X.prog X.w) A (setAttr (.ref a) f u) Q E s := by
  obtain ⟨mA, O, r, wi, _, ho⟩ := ins_get I.hok e
  have hz : (fs.map (·.1)).length ≤ sizeLine := by rw [List.length_map, sizeLine_eq]; omega
  refine set_map I.kIn O c.sa c.po n.taker c.hd wi hz fun h' O' sb => h _ ?_
  have hd : ∃ o, h'.get? dx = some o := let ⟨o, _, _, e', _⟩ := O'.ns; ⟨o, e'⟩
  refine I.write (x := a) (e := dx) (by rw [e]; exact True.intro) (.inr ho) (fun b q hb z => (sb.2 b hb).trans z) hd ?_
  refine ⟨by rw [upd_ne O.ne]; exact ho, ?_, O.ne, O'.obj, _, O'.ns, fun g => ?_, fun g hg => ?_⟩
  · have := length_putF f y fs; omega
  · show RelO ((putF f y fs).lookup g) (if g = f then some u else mA g)
    rw [lookup_putF]
    by_cases q : g = f
    · rw [if_pos q, if_pos q]; exact ry
    · rw [if_neg q, if_neg q]; exact r g
  · by_cases q : g = f
    · rw [q]; exact (keys_putF f y fs).1
    · refine (keys_putF f y fs).2 g (wi g fun z => hg ?_)
      show (if g = f then some u else mA g) = none
      rw [if_neg q]; exact z

/-- a new instance, tracked, without attributes -/
theorem Inv.made (I : Inv X pins σ H s) : Inv X pins σ (upd (upd H s.heap.objs.size (.own (s.heap.objs.size + 1))) (s.heap.objs.size + 1) (.ins C s.heap.objs.size []))
    { s with heap := (s.heap.push PySem.W.emptyDict).push (PySem.W.instObj C s.heap.objs.size) } := by
  have e1 : (s.heap.push PySem.W.emptyDict).get? s.heap.objs.size = some PySem.W.emptyDict := Heap.get?_push_size s.heap rfl
  have e2 : ((s.heap.push PySem.W.emptyDict).push (PySem.W.instObj C s.heap.objs.size)).get? (s.heap.objs.size + 1) = some (PySem.W.instObj C s.heap.objs.size) := by
    have := Heap.get?_push_size (s.heap.push PySem.W.emptyDict) (o := PySem.W.instObj C s.heap.objs.size) rfl
    rwa [Heap.size_push] at this
  have e3 : (s.heap.push PySem.W.emptyDict).Ns s.heap.objs.size (fun _ => none) := ⟨PySem.W.emptyDict, #[], _, e1, rfl, (fun e he => absurd he (by simp)), fun _ => rfl⟩
  have I1 := I.laid (a := s.heap.objs.size) (o := .own (s.heap.objs.size + 1)) (h' := s.heap.push PySem.W.emptyDict) (t' := s.toks) (fun b u q => Heap.get?_push_of_some _ q) (Nat.le_refl _) ⟨_, e1⟩
  refine I1.laid (a := s.heap.objs.size + 1) (o := .ins C s.heap.objs.size []) (t' := s.toks) (fun b u q => Heap.get?_push_of_some _ q) (Nat.le_of_eq (Heap.size_push _ _)) ?_
  have ne : s.heap.objs.size ≠ s.heap.objs.size + 1 := Nat.ne_of_lt (Nat.lt_succ_self _)
  refine ⟨by rw [upd_ne ne, upd_same], Nat.zero_le _, ne, e2, fun _ => none, (Heap.Ns1.of_empty e3).at fun o q => Heap.get?_push_of_some _ q, fun _ => True.intro, fun y hy => absurd rfl hy⟩

/-- e.f where nothing but the object is asked: through attributeBase (super) and the last hold -/
theorem attr_of {prog : Program} {w : World} {env : Env} {e : Expr} {f : Str} {pos : Pos} {s : Shared} {Q : Value → Shared → Prop} (hb : attributeBase e f env (eval e env) = eval e env)
    (h : wpAny (model prog w) A (eval e env) (fun o s₁ => wpAny (model prog w) A (getAttr o f true) Q E s₁) E s) : wpAny (model prog w) A (eval (.Attribute e f pos) env) Q E s :=
  Attribute_any_ h (by rw [arm_eval_Attribute, hb])
end

/-! ### readings and rules -/
/-- e.f, an attribute of the instance -/
def tFld (K : PySem.W.Frag) (ta : TE) (f : Str) : TE := fun σ H Q => ta σ H fun x H1 => ∃ a C dx fs v, x = .ref a ∧ H1 a = some (.ins C dx fs) ∧ Cls K C ∧ NoAttr K C f ∧ fs.lookup f = some v ∧ Q v H1
/-- e.f, a constant of the class -/
def tCon (K : PySem.W.Frag) (ta : TE) (f : Str) : TE := fun σ H Q => ta σ H fun x H1 => ∃ a C dx fs v u, x = .ref a ∧ H1 a = some (.ins C dx fs) ∧ Cls K C ∧ Con K C f v u ∧ fs.lookup f = none ∧ Q v H1
/-- e.f = value -/
def sFld (K : PySem.W.Frag) (ta tv : TE) (f : Str) : TS := fun D σ H => tv σ H fun y H1 => ta σ H1 fun x H2 => ∃ a C dx fs, x = .ref a ∧ H2 a = some (.ins C dx fs) ∧ Cls K C ∧ NoAttr K C f ∧ fs.length < 1000 ∧
  D.nx σ (upd H2 a (.ins C dx (putF f y fs)))
/-- an augmented operator on two values -/
def InOp (X : Cx) (op : Operator) (rd : V → V → Hp → VK → Prop) : Prop :=
  ∀ (pins : List (Addr × Obj)) (s : Shared) (σ : St) (H : Hp) (x y : V) (u v : Value) (Q : VK), Inv X pins σ H s → RelV x u → RelV y v → rd x y H Q → wpAny (model X.prog X.w) X.A (inplaceOp op u v) (EP X pins σ Q) X.xe s
/-- e.f op= value -/
def sFldAug (K : PySem.W.Frag) (ta tv : TE) (rd : V → V → Hp → VK → Prop) (f : Str) : TS := fun D σ H => ta σ H fun x H1 => ∃ a C dx fs v, x = .ref a ∧ H1 a = some (.ins C dx fs) ∧ Cls K C ∧ NoAttr K C f ∧ fs.lookup f = some v ∧
  tv σ H1 fun y H2 => rd v y H2 fun z H3 => ∃ dx' fs', H3 a = some (.ins C dx' fs') ∧ fs'.length < 1000 ∧ D.nx σ (upd H3 a (.ins C dx' (putF f z fs')))

section
variable {X : Cx} {o e value : Expr} {f : Str} {pos pos' tpos : Pos} {ta tv : TE}
theorem pe_fld (he : PE X e ta) (hb : attributeBase e f X.env (eval e X.env) = eval e X.env) : PE X (.Attribute e f pos) (tFld X.K ta f) := by
  intro pins s σ H Q I h
  refine attr_of hb (thn (he pins s σ H _ I h) fun u s1 ⟨x, H1, I1, rx, a, C, dx, fs, v, ex, ea, c, n, l, q⟩ => ?_)
  subst ex
  obtain rfl : u = Value.ref a := rx
  exact getattr_ok I1 ea c n l fun u' s2 I2 ru => ⟨v, H1, I2, ru, q⟩
theorem pe_con (he : PE X e ta) (hb : attributeBase e f X.env (eval e X.env) = eval e X.env) : PE X (.Attribute e f pos) (tCon X.K ta f) := by
  intro pins s σ H Q I h
  refine attr_of hb (thn (he pins s σ H _ I h) fun u s1 ⟨x, H1, I1, rx, a, C, dx, fs, v, u0, ex, ea, c, k, l, q⟩ => ?_)
  subst ex
  obtain rfl : u = Value.ref a := rx
  exact getcon_ok I1 ea c k l fun s2 I2 => ⟨v, H1, I2, k.rel, q⟩
theorem ps_fld (ha : PE X o ta) (hv : PE X value tv) (hs : swapsWith value (some (.Attribute o f pos')) pos.line X.env = pure false) : PS X (.Assign [.Attribute o f pos'] value pos) (sFld X.K ta tv f) := by
  intro pins s σ H D I h
  refine plainObj_wpAny_Assign_Attribute (thn (hv pins s σ H _ I h) fun u s1 ⟨y, H1, I1, ry, q⟩ => thn (ha pins s1 σ H1 _ I1 q) fun ov s2 ⟨x, H2, I2, rx, a, C, dx, fs, ex, ea, c, n, l, q2⟩ => ?_) hs
  subst ex
  obtain rfl : ov = Value.ref a := rx
  exact setattr_ok I2 ea c n l ry fun s3 I3 => ⟨σ, _, I3, q2⟩
theorem ps_fldaug {op : Operator} {rd : V → V → Hp → VK → Prop} (ha : PE X o ta) (hv : PE X value tv) (hop : InOp X op rd) : PS X (.AugAssign (.Attribute o f tpos) op value pos) (sFldAug X.K ta tv rd f) := by
  intro pins s σ H D I h
  refine wpAny_AugAssign_AttributeAny (thn (ha pins s σ H _ I h) fun ov s1 ⟨x, H1, I1, rx, a, C, dx, fs, v, ex, ea, c, n, l, q⟩ => ?_)
  subst ex
  obtain rfl : ov = Value.ref a := rx
  refine getattr_ok I1 ea c n l fun u s2 I2 ru => thn (hv pins s2 σ H1 _ I2 q) fun w3 s3 ⟨y, H2, I3, ry, q3⟩ => thn (hop pins s3 σ H2 v y u w3 _ I3 ru ry q3) fun w4 s4 ⟨z, H3, I4, rz, dx', fs', ea', l', q4⟩ => ?_
  exact setattr_ok I4 ea' c n l' rz fun s5 I5 => ⟨σ, _, I5, q4⟩
def rAdd : V → V → Hp → VK → Prop := fun x y H Q => ∃ i j, x = .int i ∧ y = .int j ∧ Q (.int (i + j)) H
def rSub : V → V → Hp → VK → Prop := fun x y H Q => ∃ i j, x = .int i ∧ y = .int j ∧ Q (.int (i - j)) H
theorem in_add : InOp X .Add rAdd := by
  rintro pins s σ H x y u v Q I rx ry ⟨i, j, rfl, rfl, q⟩
  obtain ⟨t, rfl⟩ := (show ∃ t, u = Value.int i t from rx)
  obtain ⟨t', rfl⟩ := (show ∃ t', v = Value.int j t' from ry)
  exact PyProof.Rows.iadd_int ⟨.int (i + j), H, I.tok _, ⟨_, rfl⟩, q⟩
theorem in_sub : InOp X .Sub rSub := by
  rintro pins s σ H x y u v Q I rx ry ⟨i, j, rfl, rfl, q⟩
  obtain ⟨t, rfl⟩ := (show ∃ t, u = Value.int i t from rx)
  obtain ⟨t', rfl⟩ := (show ∃ t', v = Value.int j t' from ry)
  exact PyProof.Rows.isub_int ⟨.int (i - j), H, I.tok _, ⟨_, rfl⟩, q⟩

/-- what is between an instance and its method: the tree of a method call -/
theorem methcall_of {pl : Sem Bool} {m : Str} {apos : Pos} {args : List Expr} {pins : List (Addr × Obj)} {s : Shared} {σ : St} {H : Hp} {Q : Value → Shared → Prop} {te : TE} (he : PE X e te) (I : Inv X pins σ H s)
    (h : te σ H fun x H1 => ∃ a C dx fs g, x = .ref a ∧ H1 a = some (.ins C dx fs) ∧ Cls X.K C ∧ Meth X.K C m g ∧ fs.lookup m = none ∧
      ∀ s1, Inv X pins σ H1 s1 → wpAny (model X.prog X.w) X.A (callWith pos (.ref g) [.ref a] (backTo pos (starEach args X.env)) (backToKw pos (keywordEach [] X.env))) Q X.xe s1)
    (ht : eval (.Call (.Attribute e m apos) args [] pos) X.env = (do
      let ov ← eval e X.env
      standAt apos.atName
      let (f, first) ← holding [ov] (getMethod ov m pl)
      callWith pos f first (backTo pos (starEach args X.env)) (backToKw pos (keywordEach [] X.env)))) :
    wpAny (model X.prog X.w) X.A (eval (.Call (.Attribute e m apos) args [] pos) X.env) Q X.xe s := by
  refine PySem.W.methodCall_KW (pl := pl) (thn (he pins s σ H _ I h) fun u s1 ⟨x, H1, I1, rx, a, C, dx, fs, g, ex, ea, c, k, l, q⟩ => ?_) ht
  subst ex
  obtain rfl : u = Value.ref a := rx
  exact getmeth_ok I1 ea c k l (q s1 I1)
end

/-! ### isinstance -/
section
variable {X : Cx} {pins : List (Addr × Obj)} {σ : St} {H : Hp} {s : Shared} {A : Around} {E : Value → Shared → Prop} {Q : Value → Shared → Prop} {c : Value} {b : Bool}
/-- the type of a value, as the fragment's deciders take it; for an instance its class -/
inductive TyOf (K : PySem.W.Frag) (H : Hp) : V → Value → Prop where
  | non : TyOf K H .non (.type "NoneType")
  | bl (x : Bool) : TyOf K H (.bl x) (.type "bool")
  | int (i : Int) : TyOf K H (.int i) (.type "int")
  | str (x : Str) : TyOf K H (.str x) (.type "str")
  | flt (x : UInt64) : TyOf K H (.flt x) (.type "float")
  | lst {a : Addr} {xs : List V} (e : H a = some (.lst xs)) : TyOf K H (.ref a) (.type "list")
  | frz {a : Addr} {o : Obj} {xs : List V} (e : H a = some (.frz o (.lst xs))) : TyOf K H (.ref a) (.type "list")
  | tup {a : Addr} {xs : List V} (e : H a = some (.tup xs)) : TyOf K H (.ref a) (.type "tuple")
  | dK {a : Addr} {kvs : List (Key × V)} (e : H a = some (.dK kvs)) : TyOf K H (.ref a) (.type "dict")
  | dT {a : Addr} {kvs : List (List Key × V)} (e : H a = some (.dT kvs)) : TyOf K H (.ref a) (.type "dict")
  | ins {a C dx : Addr} {fs : List (Str × V)} (e : H a = some (.ins C dx fs)) (cl : Cls K C) (ha : PySem.W.findIn K (.ref C) "__class__" = some (some (.builtin "object.__class__")))
      (hn : PySem.W.specialIn K (.builtin "object.__class__") "__get__" = some (some (.builtin "getset_descriptor.__get__"))) (htk : PySem.W.takesIn K (.builtin "object.__class__") = some true)
      (hm : PySem.W.mroIn K C (.type "object") = some true) : TyOf K H (.ref a) (.ref C)
/-- isinstance(x, c) for one class c, a built-in or an own one: kitOne's answer -/
theorem isinst_ok {x : V} {u t : Value} (I : Inv X pins σ H s) (rx : RelV x u) (ty : TyOf X.K H x t) (e : PySem.W.kitOne X.K t c = some b) (h : ∀ tk, Q (.bool b) { s with toks := tk }) :
    wpAny (model X.prog X.w) A (call (.builtin "isinstance") [u, c]) Q E s := by
  cases ty with
  | non => cases (show u = Value.none from rx); exact PySem.W.kia_one PySem.W.kitx_none I.kIn True.intro e (fun z => nomatch z) h
  | bl y => cases (show u = Value.bool y from rx); exact PySem.W.kia_one PySem.W.kitx_bool I.kIn True.intro e (fun z => nomatch z) h
  | int i => obtain ⟨t, q⟩ := (show ∃ t, u = Value.int i t from rx); cases q; exact PySem.W.kia_one PySem.W.kitx_int I.kIn True.intro e (fun z => nomatch z) h
  | str y => obtain ⟨t, q⟩ := (show ∃ t, u = Value.str y t from rx); cases q; exact PySem.W.kia_one PySem.W.kitx_str I.kIn True.intro e (fun z => nomatch z) h
  | flt y => obtain ⟨t, q⟩ := (show ∃ t, u = Value.float y t from rx); cases q; exact PySem.W.kia_one PySem.W.kitx_float I.kIn True.intro e (fun z => nomatch z) h
  | @lst a xs ea =>
    cases (show u = Value.ref a from rx)
    obtain ⟨_, _, n, _, h1⟩ := (show ObjOk X.prog X.w H s.heap a (.lst xs) from I.hok a _ ea)
    exact PySem.W.kia_one PySem.W.kitx_list I.kIn ⟨_, h1, rfl⟩ e (fun z => nomatch z) h
  | @frz a ob xs ea =>
    cases (show u = Value.ref a from rx)
    obtain ⟨_, _, _, n, _, h1⟩ := (show ObjOk X.prog X.w H s.heap a (.frz ob (.lst xs)) from I.hok a _ ea)
    exact PySem.W.kia_one PySem.W.kitx_list I.kIn ⟨_, h1, rfl⟩ e (fun z => nomatch z) h
  | @tup a xs ea =>
    cases (show u = Value.ref a from rx)
    obtain ⟨_, _, _, p⟩ := (show ObjOk X.prog X.w H s.heap a (.tup xs) from I.hok a _ ea)
    obtain ⟨o, h1, h2, _⟩ := p
    exact PySem.W.kia_one PySem.W.kitx_tuple I.kIn ⟨o, h1, h2⟩ e (fun z => nomatch z) h
  | @dK a kvs ea =>
    cases (show u = Value.ref a from rx)
    obtain ⟨_, _, vs, _, p⟩ := (show ObjOk X.prog X.w H s.heap a (.dK kvs) from I.hok a _ ea)
    obtain ⟨o, es, ep, h1, h2, _⟩ := p
    exact PySem.W.kia_one PySem.W.kitx_dict I.kIn ⟨o, h1, h2.1⟩ e (fun z => nomatch z) h
  | @dT a kvs ea =>
    cases (show u = Value.ref a from rx)
    obtain ⟨_, _, xs, _, o, es, ep, h1, h2, _⟩ := (show ObjOk X.prog X.w H s.heap a (.dT kvs) from I.hok a _ ea)
    exact PySem.W.kia_one PySem.W.kitx_dict I.kIn ⟨o, h1, h2.1⟩ e (fun z => nomatch z) h
  | @ins a C dx fs ea cl ha hn htk hm =>
    cases (show u = Value.ref a from rx)
    obtain ⟨mA, O, _⟩ := ins_get I.hok ea
    obtain ⟨od, J, _⟩ := O.look
    exact PySem.W.kia_one (PySem.W.kitx_own (cl.get _) cl.hd ha hn htk hm) I.kIn J e (fun z => nomatch z) h
end
end L2

namespace L2
open PySem PySem.Spec PyProof.Rows

/-! ### room -/
structure Room (k : Nat) (A : Around) : Prop where
  hd : A.handled = none
  dp : A.depth + 3 * k + 5 < recursionLimit
  un : A.units + 16 * k + 200 < cLine
theorem Room.mono {j k : Nat} {A : Around} (r : Room k A) (h : j ≤ k) : Room j A := ⟨r.hd, by have := r.dp; omega, by have := r.un; omega⟩
theorem Room.deeper {k : Nat} {A : Around} (r : Room (k + 1) A) (env : Env) : Room k (A.deeper env) :=
  ⟨r.hd, by have := r.dp; show A.depth + 1 + 3 * k + 5 < _; omega, by have := r.un; show A.units + 3 + 16 * k + 200 < _; omega⟩
theorem Room.in1 {k : Nat} {A : Around} (r : Room (k + 1) A) : Room k A.in1 :=
  ⟨r.hd, by have := r.dp; show A.depth + 3 * k + 5 < _; omega, by have := r.un; show A.units + 1 + 16 * k + 200 < _; omega⟩
theorem make_depth {A : Around} {C : Addr} {us : List Value} {kw : List (Str × Value)} : (A.under (.builtin "type.__call__" ⟨.ref C :: us, kw⟩)).depth = A.depth + 1 := by
  first | rfl | simp [Around.under, Code.weight, Code.isCreation, Code.isGuard, Code.isCaller, Code.frames, Code.isFrame, guardIds]
theorem make_units {A : Around} {C : Addr} {us : List Value} {kw : List (Str × Value)} : (A.under (.builtin "type.__call__" ⟨.ref C :: us, kw⟩)).units = A.units + 1 := by
  first | rfl | simp [Around.under, Code.cUnits, Code.frames, Code.isFrame]
theorem Room.make {k : Nat} {A : Around} (r : Room (k + 1) A) (C : Addr) (us : List Value) (kw : List (Str × Value)) : Room k (A.under (.builtin "type.__call__" ⟨.ref C :: us, kw⟩)) :=
  ⟨r.hd, by have := r.dp; rw [make_depth]; omega, by have := r.un; rw [make_units]; omega⟩
theorem Room.depth {k : Nat} {A : Around} (r : Room k A) : A.depth < recursionLimit := by have := r.dp; omega
theorem Room.units {k : Nat} {A : Around} (r : Room k A) : A.units + 64 < cLine := by have := r.un; omega
theorem Room.units0 {k : Nat} {A : Around} (r : Room k A) : A.units < cLine := by have := r.un; omega

/-! ### argument lists and displays -/
def tNil : TA := fun _ H Q => Q [] H
def tCons (ta : TE) (tr : TA) : TA := fun σ H Q => ta σ H fun x H1 => tr σ H1 fun xs H2 => Q (x :: xs) H2
section
variable {X : Cx} {e : Expr} {es : List Expr} {te : TE} {t : TA} {pos : Pos}
theorem pa_nil : PA X [] tNil := fun _ _ _ _ H Q I h => Calls.spliced_nil ⟨[], H, I, .nil, h⟩
theorem pa_cons (ha : PE X e te) (hr : PA X es t) (hs : starEach (e :: es) X.env = (false, eval e X.env) :: starEach es X.env := by rfl) : PA X (e :: es) (tCons te t) := by
  intro pos pins s σ H Q I h
  rw [hs]
  show wpAny _ _ (spliced ((false, eval e X.env) :: backTo pos (starEach es X.env))) _ _ s
  refine Calls.spliced_cons (thn (ha pins s σ H _ I h) fun u s1 ⟨x, H1, I1, r1, q1⟩ => ?_)
  exact thn (hr pos pins s1 σ H1 _ I1 q1) fun us s2 ⟨xs, H2, I2, r2, q2⟩ => ⟨x :: xs, H2, I2, .cons r1 r2, q2⟩

/-- a tuple, a list of written items -/
def tTup (t : TA) : TE := fun σ H Q => t σ H fun xs H1 => xs.length ≤ sizeLine ∧ ∀ p, H1 p = none → Q (.ref p) (upd H1 p (.tup xs))
def tLst (t : TA) : TE := fun σ H Q => t σ H fun xs H1 => xs.length ≤ sizeLine ∧ ∀ p, H1 p = none → Q (.ref p) (upd H1 p (.lst xs))
theorem pe_tup {x1} (h : PA X es t) : PE X (.Tuple es x1 pos) (tTup t) := by
  intro pins s σ H Q I hq
  refine wpAny_Tuple_spliced (thn (h pos pins s σ H _ I hq) fun us s1 ⟨xs, H1, I1, r, z, q⟩ => ⟨by rw [← r.length]; exact z, ?_⟩)
  have hf : H1 s1.heap.objs.size = none := I1.hok.fresh (Nat.le_refl _)
  refine ⟨.ref s1.heap.objs.size, upd H1 s1.heap.objs.size (.tup xs), I1.laid (t' := s1.toks) (fun b u e => Heap.get?_push_of_some _ e) (Nat.le_refl _) ?_, rfl, q _ hf⟩
  exact ⟨z, us, r, ⟨_, Heap.get?_push_size _ rfl, rfl, _, rfl⟩⟩
theorem pe_lst (h : PA X es t) : PE X (.List es pos) (tLst t) := by
  intro pins s σ H Q I hq
  refine wpAny_List_spliced (thn (h pos pins s σ H _ I hq) fun us s1 ⟨xs, H1, I1, r, z, q⟩ => ⟨by rw [← r.length]; exact z, ?_⟩)
  have hf : H1 s1.heap.objs.size = none := I1.hok.fresh (Nat.le_refl _)
  refine ⟨.ref s1.heap.objs.size, upd H1 s1.heap.objs.size (.lst xs), I1.laid (t' := s1.toks) (fun b u e => Heap.get?_push_of_some _ e) (Nat.le_refl _) ?_, rfl, q _ hf⟩
  exact ⟨z, us, 0, r, Heap.get?_push_size _ rfl⟩
end

/-! ### what a def promises -/
/-- a def's promise: the bound arguments in the parameters' order, the heap, the wanted end, the wanted exception -/
abbrev Sp := List V → Hp → VK → XK → Prop
/-- how an exception lies behind a call (file 08 gives it): the callers' frames, abstract heap and state ahead of the call, the wish, the exception, the state -/
abbrev CXT := List Env → Hp → Shared → XK → Value → Shared → Prop

/-- the state at a call -/
structure Env0 (P : Program) (w : World) (K : PySem.W.Frag) (mg : Str → Option Value) (base : Heap) (A : Around) (outer : List Env) (s : Shared) (H : Hp) : Prop where
  frames : A.frames = some outer
  mod : Mod K mg base
  bs : ∀ b o, base.get? b = some o → s.heap.get? b = some o ∧ H b = none
  bsz : base.objs.size ≤ s.heap.objs.size
  funs : s.heap.FunFrames base outer
  frf : ∀ b ∈ frs outer, H b = none
  hok : HOk P w H s.heap
  bare : AllBare s.gens
/-- a call's end -/
def CE (outer : List Env) (P : Program) (w : World) (H : Hp) (s : Shared) (Q : VK) (u : Value) (s' : Shared) : Prop :=
  ∃ v H', s'.os = s.os ∧ AllBare s'.gens ∧ Un (frs outer) [] H H' s.heap s'.heap ∧ HOk P w H' s'.heap ∧ RelV v u ∧ Q v H'
def CR (CX : CXT) (outer : List Env) (P : Program) (w : World) (H : Hp) (s : Shared) (Q : VK) (E : XK) (r : Result) (s' : Shared) : Prop :=
  match r with
  | .ok (.ret u) => CE outer P w H s Q u s'
  | .ok _ => False
  | .error e => CX outer H s E e s'
structure FnOk (P : Program) (w : World) (K : PySem.W.Frag) (mg : Str → Option Value) (base : Heap) (CX : CXT) (k : Nat) (f : Addr) (fd : FuncData) (ps : List Str) (sp : Sp) : Prop where
  len : ∀ vs H Q E, sp vs H Q E → vs.length = ps.length
  run : ∀ (A : Around) (outer : List Env) (s : Shared) (H : Hp) (args : Args) (us : List Value) (vs : List V) (Q : VK) (E : XK), Room k A → Env0 P w K mg base A outer s H → BindsTo s fd args (ps.zip us) → Vals vs us → sp vs H Q E →
    codeAny (model P w) A (.call (.ref f) args) (CR CX outer P w H s Q E) s
theorem FnOk.mono {P : Program} {w : World} {K : PySem.W.Frag} {mg : Str → Option Value} {base : Heap} {CX : CXT} {j k : Nat} {f : Addr} {fd : FuncData} {ps : List Str} {sp : Sp} (F : FnOk P w K mg base CX j f fd ps sp) (h : j ≤ k) :
    FnOk P w K mg base CX k f fd ps sp := ⟨F.len, fun A outer s H args us vs Q E hr => F.run A outer s H args us vs Q E (hr.mono h)⟩
/-- a weaker promise -/
theorem FnOk.imp {P : Program} {w : World} {K : PySem.W.Frag} {mg : Str → Option Value} {base : Heap} {CX : CXT} {k : Nat} {f : Addr} {fd : FuncData} {ps : List Str} {sp sp' : Sp} (F : FnOk P w K mg base CX k f fd ps sp)
    (h : ∀ vs H Q E, sp' vs H Q E → sp vs H Q E) : FnOk P w K mg base CX k f fd ps sp' :=
  ⟨fun vs H Q E q => F.len vs H Q E (h _ _ _ _ q), fun A outer s H args us vs Q E hr he hb hv hs => F.run A outer s H args us vs Q E hr he hb hv (h _ _ _ _ hs)⟩

theorem Env0.make {P : Program} {w : World} {K : PySem.W.Frag} {mg : Str → Option Value} {base : Heap} {A : Around} {outer : List Env} {s : Shared} {H : Hp} (e : Env0 P w K mg base A outer s H) (C : Addr) (us : List Value) (kw : List (Str × Value)) :
    Env0 P w K mg base (A.under (.builtin "type.__call__" ⟨.ref C :: us, kw⟩)) outer s H := ⟨by first | exact e.frames | (simpa [Around.under, Code.envs, Code.isFrame, pushEnvs] using e.frames), e.mod, e.bs, e.bsz, e.funs, e.frf, e.hok, e.bare⟩
theorem Env0.in1 {P : Program} {w : World} {K : PySem.W.Frag} {mg : Str → Option Value} {base : Heap} {A : Around} {outer : List Env} {s : Shared} {H : Hp} (e : Env0 P w K mg base A outer s H) :
    Env0 P w K mg base A.in1 outer s H := ⟨e.frames, e.mod, e.bs, e.bsz, e.funs, e.frf, e.hok, e.bare⟩

section
variable {X : Cx} {pins : List (Addr × Obj)} {σ : St} {H : Hp} {s s' : Shared}
/-- from a body: what a callee wants -/
theorem Inv.env0 (I : Inv X pins σ H s) : Env0 X.prog X.w X.K X.mg X.base X.A X.stack s H :=
  ⟨I.ok.frames, I.ok.mod, I.bs, Nat.le_trans I.ok.bsz I.sz, I.stack, I.stkFree, I.hok, I.bare⟩
/-- behind a call -/
theorem Inv.after {Q : VK} {u : Value} (I : Inv X pins σ H s) (h : CE X.stack X.prog X.w H s Q u s') : EP X pins σ Q u s' := by
  obtain ⟨v, H', os, bare, un, hok, r, q⟩ := h
  obtain ⟨hh, g, d, t, os'⟩ := s'
  obtain rfl : os' = s.os := os
  exact ⟨v, H', I.call (h' := hh) (g' := g) (d' := d) (t' := t) (ch := []) un hok bare (fun b z => absurd z (by simp)), r, q⟩
end

/-! ### calls -/
/-- f(..): the written arguments, then the defaults dvs; E: what is wanted of an exception -/
def tCall (sp : Sp) (dvs : List V) (E : XK) (t : TA) : TE := fun σ H Q => t σ H fun vs H1 => sp (vs ++ dvs) H1 Q E
/-- o.m(..) of an instance of the class at C -/
def tMeth (C : Addr) (m : Str) (sp : Sp) (dvs : List V) (E : XK) (ta : TE) (t : TA) : TE := fun σ H Q => ta σ H fun x H1 => ∃ a dx fs, x = .ref a ∧ H1 a = some (.ins C dx fs) ∧ fs.lookup m = none ∧
  t σ H1 fun vs H2 => sp (x :: (vs ++ dvs)) H2 Q E
/-- C(..): a new instance and its dict, then __init__ -/
def tMake (C : Addr) (sp : Sp) (dvs : List V) (E : XK) (t : TA) : TE := fun σ H Q => t σ H fun vs H1 => ∀ x dx, H1 x = none → H1 dx = none → dx ≠ x →
  sp (.ref x :: (vs ++ dvs)) (upd (upd H1 dx (.own x)) x (.ins C dx [])) (fun v H2 => v = .non ∧ Q (.ref x) H2) E

/-- how the parameters are bound: us the positional arguments, kw the keywords' values by name, ds the defaults that fill up -/
def Binds (K : PySem.W.Frag) (fd : FuncData) (ps : List Str) (ds : List Value) : Prop :=
  ∀ (s : Shared) (us : List Value), K.In s.heap → (us ++ ds).length = ps.length → BindsTo s fd ⟨us, []⟩ (ps.zip (us ++ ds))
/-- every parameter is given -/
theorem Binds.all {K : PySem.W.Frag} {fd : FuncData} {ps : List Str} (h : ∀ us : List Value, us.length = ps.length → bindArgs fd ⟨us, []⟩ = pure (ps.zip us)) : Binds K fd ps [] := fun s us _ hl => by
  rw [List.append_nil] at hl ⊢
  exact .of_eq (h us hl)

/-- an exception of a callee reaches what this body wants of exceptions -/
def Passes (CX : CXT) (X : Cx) (E : XK) : Prop := ∀ (pins : List (Addr × Obj)) (σ : St) (H : Hp) (s : Shared) (e : Value) (s' : Shared), Inv X pins σ H s → CX X.stack H s E e s' → X.xe e s'

section
variable {X : Cx} {CX : CXT} {k : Nat} {f C : Addr} {fd : FuncData} {ps : List Str} {sp : Sp} {dvs : List V} {ds : List Value} {E : XK} {x m : Str} {p pos apos : Pos} {e o : Expr} {es : List Expr} {ta : TE} {t : TA}

/-- the callee runs -/
theorem run_fn {pins : List (Addr × Obj)} {σ : St} {H : Hp} {s : Shared} {Q : VK} {us : List Value} {vs : List V} (F : FnOk X.prog X.w X.K X.mg X.base CX k f fd ps sp) (hr : Room k X.A) (hb : Binds X.K fd ps ds) (hd : Vals dvs ds) (hx : Passes CX X E)
    (I : Inv X pins σ H s) (r : Vals vs us) (h : sp (vs ++ dvs) H Q E) : wpAny (model X.prog X.w) X.A (call (.ref f) us) (EP X pins σ Q) X.xe s := by
  have r2 : Vals (vs ++ dvs) (us ++ ds) := r.append hd
  have hl : (us ++ ds).length = ps.length := by rw [← r2.length]; exact F.len _ _ _ _ h
  refine wpAny_call (codeAny_mono (F.run X.A X.stack s H ⟨us, []⟩ (us ++ ds) (vs ++ dvs) Q E hr I.env0 (hb s us I.kIn hl) r2 h) fun r s' hq => ?_)
  cases r with
  | error e => exact hx pins σ H s e s' I hq
  | ok fl =>
    cases fl with
    | ret u => exact I.after hq
    | next => exact False.elim hq
    | brk => exact False.elim hq
    | cont => exact False.elim hq

theorem pe_call (F : FnOk X.prog X.w X.K X.mg X.base CX k f fd ps sp) (hr : Room k X.A) (hg : Gl X x) (hm : X.mg x = some (.ref f)) (hk : PySem.W.keepIn X.K (.ref f) = true) (hb : Binds X.K fd ps ds) (hd : Vals dvs ds) (hx : Passes CX X E)
    (ha : PA X (e :: es) t) (hdb : (x == ("__debug__" : Str)) = false := by decide) (he : starEach (e :: es) X.env = (false, eval e X.env) :: starEach es X.env := by rfl) (hpl : (backTo pos (starEach es X.env)).any (·.1) = false := by rfl) :
    PE X (.Call (.Name x p) (e :: es) [] pos) (tCall sp dvs E t) := by
  intro pins s σ H Q I h
  refine wpAny_Call_Name_kw (ld_glob I hg hm ?_ hdb)
  refine PySem.W.callWith_K (h₀ := X.base) I.ok.mod.kin hk (thn (ha pos pins s σ H _ I h) fun us s1 ⟨vs, H1, I1, r, q⟩ => ⟨I1.kIn, ?_⟩) he hpl
  exact run_fn F hr hb hd hx I1 r q
theorem pe_call0 (F : FnOk X.prog X.w X.K X.mg X.base CX k f fd ps sp) (hr : Room k X.A) (hg : Gl X x) (hm : X.mg x = some (.ref f)) (hk : PySem.W.keepIn X.K (.ref f) = true) (hb : Binds X.K fd ps ds) (hd : Vals dvs ds) (hx : Passes CX X E)
    (hdb : (x == ("__debug__" : Str)) = false := by decide) : PE X (.Call (.Name x p) [] [] pos) (tCall sp dvs E tNil) := by
  intro pins s σ H Q I h
  refine wpAny_Call_Name_kw (ld_glob I hg hm ?_ hdb)
  exact PySem.W.callWith_K0 I.kIn hk (run_fn (us := []) F hr hb hd hx I .nil h)

/-- o.m(e, ..) -/
theorem pe_meth {pl : Sem Bool} (he : PE X o ta) (c : Cls X.K C) (hm : Meth X.K C m f) (F : FnOk X.prog X.w X.K X.mg X.base CX k f fd ps sp) (hr : Room k X.A) (hb : Binds X.K fd ps ds) (hd : Vals dvs ds) (hx : Passes CX X E) (ha : PA X (e :: es) t)
    (hst : starEach (e :: es) X.env = (false, eval e X.env) :: starEach es X.env := by rfl) (hpl : (backTo pos (starEach es X.env)).any (·.1) = false := by rfl)
    (ht : eval (.Call (.Attribute o m apos) (e :: es) [] pos) X.env = (do
      let ov ← eval o X.env
      standAt apos.atName
      let (f, first) ← holding [ov] (getMethod ov m pl)
      callWith pos f first (backTo pos (starEach (e :: es) X.env)) (backToKw pos (keywordEach [] X.env))) := by rfl) :
    PE X (.Call (.Attribute o m apos) (e :: es) [] pos) (tMeth C m sp dvs E ta t) := by
  intro pins s σ H Q I h
  refine PySem.W.methodCall_KW (pl := pl) (thn (he pins s σ H _ I h) fun u s1 ⟨x, H1, I1, rx, a, dx, fs, ex, ea, l, q⟩ => ?_) ht
  subst ex
  obtain rfl : u = Value.ref a := rx
  refine getmeth_ok I1 ea c hm l ?_
  refine PySem.W.callWith_K (first := [.ref a]) (h₀ := X.base) I.ok.mod.kin hm.kp (thn (ha pos pins s1 σ H1 _ I1 q) fun us s2 ⟨vs, H2, I2, r, q2⟩ => ⟨I2.kIn, ?_⟩) hst hpl
  exact run_fn (us := .ref a :: us) (vs := .ref a :: vs) F hr hb hd hx I2 (.cons rfl r) q2
/-- o.m() -/
theorem pe_meth0 {pl : Sem Bool} (he : PE X o ta) (c : Cls X.K C) (hm : Meth X.K C m f) (F : FnOk X.prog X.w X.K X.mg X.base CX k f fd ps sp) (hr : Room k X.A) (hb : Binds X.K fd ps ds) (hd : Vals dvs ds) (hx : Passes CX X E)
    (ht : eval (.Call (.Attribute o m apos) [] [] pos) X.env = (do
      let ov ← eval o X.env
      standAt apos.atName
      let (f, first) ← holding [ov] (getMethod ov m pl)
      callWith pos f first (backTo pos (starEach [] X.env)) (backToKw pos (keywordEach [] X.env))) := by rfl) :
    PE X (.Call (.Attribute o m apos) [] [] pos) (tMeth C m sp dvs E ta tNil) := by
  intro pins s σ H Q I h
  refine PySem.W.methodCall_KW (pl := pl) (thn (he pins s σ H _ I h) fun u s1 ⟨x, H1, I1, rx, a, dx, fs, ex, ea, l, q⟩ => ?_) ht
  subst ex
  obtain rfl : u = Value.ref a := rx
  refine getmeth_ok I1 ea c hm l ?_
  exact PySem.W.callWith_K0 (first := [.ref a]) I1.kIn hm.kp (run_fn (us := [.ref a]) (vs := [.ref a]) F hr hb hd hx I1 (.cons rfl .nil) q)

/-- what a class must have to be made -/
structure Mk (K : PySem.W.Frag) (C f : Addr) : Prop where
  makes : PySem.W.makesIn K C = true
  init : PySem.W.findIn K (.ref C) "__init__" = some (some (.ref f))
  fn : PySem.W.isFn K (.ref f) = true
  kp : PySem.W.keepIn K (.ref C) = true

theorem run_make {pins : List (Addr × Obj)} {σ : St} {H : Hp} {s : Shared} {Q : VK} {us : List Value} {vs : List V} (M : Mk X.K C f) (F : FnOk X.prog X.w X.K X.mg X.base CX k f fd ps sp) (hr : Room (k + 1) X.A) (hb : Binds X.K fd ps ds) (hd : Vals dvs ds)
    (hx : Passes CX X E) (I : Inv X pins σ H s) (r : Vals vs us)
    (h : ∀ x dx, H x = none → H dx = none → dx ≠ x → sp (.ref x :: (vs ++ dvs)) (upd (upd H dx (.own x)) x (.ins C dx [])) (fun v H2 => v = .non ∧ Q (.ref x) H2) E) :
    wpAny (model X.prog X.w) X.A (call (.ref C) us) (EP X pins σ Q) X.xe s := by
  have hq := h (s.heap.objs.size + 1) s.heap.objs.size (I.hok.fresh (Nat.le_succ _)) (I.hok.fresh (Nat.le_refl _)) (Nat.ne_of_lt (Nat.lt_succ_self _))
  have I2 := Inv.made (C := C) I
  have r2 : Vals (V.ref (s.heap.objs.size + 1) :: (vs ++ dvs)) (Value.ref (s.heap.objs.size + 1) :: (us ++ ds)) := .cons rfl (r.append hd)
  have hl : (Value.ref (s.heap.objs.size + 1) :: us ++ ds).length = ps.length := by
    have e := r2.length
    rw [F.len _ _ _ _ hq] at e
    exact e.symm
  refine wpAny_call (make_map (f := f) I.kIn M.makes M.init (beq_iff_eq.mp M.fn) (codeAny_mono (F.run _ X.stack _ _ ⟨Value.ref (s.heap.objs.size + 1) :: us, []⟩ (Value.ref (s.heap.objs.size + 1) :: (us ++ ds)) _ _ E (hr.make C us [])
    (I2.env0.make C us []) (hb _ (Value.ref (s.heap.objs.size + 1) :: us) I2.kIn hl) r2 hq) fun r s' hq' => ?_))
  cases r with
  | error e => exact hx pins σ _ _ e s' I2 hq'
  | ok fl =>
    cases fl with
    | ret u =>
      obtain ⟨v, H', I3, rv, ev, q3⟩ := I2.after hq'
      subst ev
      exact ⟨rv, ⟨V.ref (s.heap.objs.size + 1), H', I3, rfl, q3⟩⟩
    | next => exact False.elim hq'
    | brk => exact False.elim hq'
    | cont => exact False.elim hq'
theorem pe_make (M : Mk X.K C f) (F : FnOk X.prog X.w X.K X.mg X.base CX k f fd ps sp) (hr : Room (k + 1) X.A) (hg : Gl X x) (hm : X.mg x = some (.ref C)) (hb : Binds X.K fd ps ds) (hd : Vals dvs ds) (hx : Passes CX X E)
    (ha : PA X (e :: es) t) (hdb : (x == ("__debug__" : Str)) = false := by decide) (he : starEach (e :: es) X.env = (false, eval e X.env) :: starEach es X.env := by rfl) (hpl : (backTo pos (starEach es X.env)).any (·.1) = false := by rfl) :
    PE X (.Call (.Name x p) (e :: es) [] pos) (tMake C sp dvs E t) := by
  intro pins s σ H Q I h
  refine wpAny_Call_Name_kw (ld_glob I hg hm ?_ hdb)
  refine PySem.W.callWith_K (h₀ := X.base) I.ok.mod.kin M.kp (thn (ha pos pins s σ H _ I h) fun us s1 ⟨vs, H1, I1, r, q⟩ => ⟨I1.kIn, ?_⟩) he hpl
  exact run_make M F hr hb hd hx I1 r q
theorem pe_make0 (M : Mk X.K C f) (F : FnOk X.prog X.w X.K X.mg X.base CX k f fd ps sp) (hr : Room (k + 1) X.A) (hg : Gl X x) (hm : X.mg x = some (.ref C)) (hb : Binds X.K fd ps ds) (hd : Vals dvs ds) (hx : Passes CX X E)
    (hdb : (x == ("__debug__" : Str)) = false := by decide) : PE X (.Call (.Name x p) [] [] pos) (tMake C sp dvs E tNil) := by
  intro pins s σ H Q I h
  refine wpAny_Call_Name_kw (ld_glob I hg hm ?_ hdb)
  exact PySem.W.callWith_K0 I.kIn M.kp (run_make (us := []) M F hr hb hd hx I .nil h)
end

/-! ### keywords -/
/-- the values of the keywords, from the left -/
def PK (X : Cx) (kws : List Keyword) (t : TA) : Prop :=
  ∀ (pos : Pos) (pins : List (Addr × Obj)) (s : Shared) (σ : St) (H : Hp) (Q : List V → Hp → Prop), Inv X pins σ H s → t σ H Q → wpAny (model X.prog X.w) X.A (evalAll ((backToKw pos (keywordEach kws X.env)).map (·.2))) (AP X pins σ Q) X.xe s
section
variable {X : Cx} {CX : CXT} {k : Nat} {f C : Addr} {fd : FuncData} {ps ks : List Str} {sp : Sp} {E : XK} {x m : Str} {p pos apos kpos : Pos} {e o : Expr} {es : List Expr} {kws : List Keyword} {te ta : TE} {t tk : TA} {nm : Option Str}
theorem pk_nil : PK X [] tNil := fun _ _ _ _ H Q I h => wpAny_evalAll_nil ⟨[], H, I, .nil, h⟩
theorem pk_cons (ha : PE X e te) (hr : PK X kws t) : PK X (⟨nm, e, kpos⟩ :: kws) (tCons te t) := by
  intro pos pins s σ H Q I h
  show wpAny _ _ (evalAll ((do let v ← eval e X.env; standAt pos; pure v) :: (backToKw pos (keywordEach kws X.env)).map (·.2))) _ _ s
  refine wpAny_evalAll_cons (wpAny_bind (thn (ha pins s σ H _ I h) fun u s1 ⟨x, H1, I1, r1, q1⟩ => wpAny_bind (wpAny_standAt (wpAny_pure ?_))))
  exact thn (hr pos pins s1 σ H1 _ I1 q1) fun us s2 ⟨xs, H2, I2, r2, q2⟩ => ⟨x :: xs, H2, I2, .cons r1 r2, q2⟩

/-- how a call with keywords binds: g puts the positional values us and the keywords' values ws (names ks) in the parameters' order, defaults among them -/
structure KBinds (K : PySem.W.Frag) (fd : FuncData) (ps ks : List Str) (g : List Value → List Value → List Value) (gV : List V → List V → List V) : Prop where
  to : ∀ (s : Shared) (us ws : List Value), K.In s.heap → (g us ws).length = ps.length → BindsTo s fd ⟨us, ks.zip ws⟩ (ps.zip (g us ws))
  rel : ∀ {vs : List V} {us : List Value} {zs : List V} {ws : List Value}, Vals vs us → Vals zs ws → Vals (gV vs zs) (g us ws)
def tCallK (sp : Sp) (gV : List V → List V → List V) (E : XK) (t tk : TA) : TE := fun σ H Q => t σ H fun vs H1 => tk σ H1 fun zs H2 => sp (gV vs zs) H2 Q E
variable {g : List Value → List Value → List Value} {gV : List V → List V → List V}
theorem run_fnk {pins : List (Addr × Obj)} {σ : St} {H : Hp} {s : Shared} {Q : VK} {us ws : List Value} {vs zs : List V} (F : FnOk X.prog X.w X.K X.mg X.base CX k f fd ps sp) (hr : Room k X.A) (hb : KBinds X.K fd ps ks g gV) (hx : Passes CX X E)
    (I : Inv X pins σ H s) (r : Vals vs us) (rz : Vals zs ws) (h : sp (gV vs zs) H Q E) : wpAny (model X.prog X.w) X.A (call (.ref f) us (ks.zip ws)) (EP X pins σ Q) X.xe s := by
  have r2 := hb.rel r rz
  have hl : (g us ws).length = ps.length := by rw [← r2.length]; exact F.len _ _ _ _ h
  refine wpAny_call (codeAny_mono (F.run X.A X.stack s H ⟨us, ks.zip ws⟩ (g us ws) (gV vs zs) Q E hr I.env0 (hb.to s us ws I.kIn hl) r2 h) fun r s' hq => ?_)
  cases r with
  | error e => exact hx pins σ H s e s' I hq
  | ok fl =>
    cases fl with
    | ret u => exact I.after hq
    | next => exact False.elim hq
    | brk => exact False.elim hq
    | cont => exact False.elim hq
/-- f(e, .., k = v, ..) -/
theorem pe_callK (F : FnOk X.prog X.w X.K X.mg X.base CX k f fd ps sp) (hr : Room k X.A) (hg : Gl X x) (hm : X.mg x = some (.ref f)) (hk : PySem.W.keepIn X.K (.ref f) = true) (hb : KBinds X.K fd ps ks g gV) (hx : Passes CX X E)
    (ha : PA X (e :: es) t) (hkw : PK X kws tk) (hall : (backToKw pos (keywordEach kws X.env)).all (·.1.isSome) = true := by rfl) (hks : (backToKw pos (keywordEach kws X.env)).filterMap (·.1) = ks := by rfl)
    (hdb : (x == ("__debug__" : Str)) = false := by decide) (he : starEach (e :: es) X.env = (false, eval e X.env) :: starEach es X.env := by rfl)
    (hpl : ((backTo pos (starEach (e :: es) X.env)).any (·.1) || (backToKw pos (keywordEach kws X.env)).any (·.1.isNone)) = false := by rfl) :
    PE X (.Call (.Name x p) (e :: es) kws pos) (tCallK sp gV E t tk) := by
  intro pins s σ H Q I h
  refine wpAny_Call_Name_kw (ld_glob I hg hm ?_ hdb)
  refine PySem.W.callWith_KW (h₀ := X.base) I.ok.mod.kin hk hall (thn (ha pos pins s σ H _ I h) fun us s1 ⟨vs, H1, I1, r, q⟩ => ?_) hpl he
  refine thn (hkw pos pins s1 σ H1 _ I1 q) fun ws s2 ⟨zs, H2, I2, rz, q2⟩ => ⟨I2.kIn, ?_⟩
  rw [hks]
  exact run_fnk F hr hb hx I2 r rz q2
end

/-! ### a def's body keeps its promise -/
/-- names: the parameters first -/
structure FnScope (N P : List Str) (sc : Scope) : Prop where
  kind : sc.kind = .function
  co : sc.isCoroutine = false
  gen : sc.isGenerator = false
  nd : N.Nodup
  pre : N.take P.length = P
  par : ∀ x ∈ P, sc.names.lookup x = some .local ∨ sc.names.lookup x = some .cell
  nofree : ∀ y ∈ sc.names, y.2 ≠ .free

theorem bindL_out {kindOf : Str → Option NameKind} {x : Str} : ∀ {binds : List (Str × Value)} {m : Str → Option Value}, (∀ v, (x, v) ∉ binds) → bindL kindOf binds m x = m x
  | [], _, _ => rfl
  | (n, v) :: r, m, h => by
    unfold bindL
    rw [bindL_out fun w hw => h w (List.mem_cons_of_mem _ hw)]
    split
    · have : x ≠ n := by rintro rfl; exact h v List.mem_cons_self
      simp [this]
    · rfl
theorem bindC_out {kindOf : Str → Option NameKind} {x : Str} : ∀ {binds : List (Str × Value)} {m : Str → Option Value}, (∀ v, (x, v) ∉ binds) → bindC kindOf binds m x = m x
  | [], _, _ => rfl
  | (n, v) :: r, m, h => by
    unfold bindC
    rw [bindC_out fun w hw => h w (List.mem_cons_of_mem _ hw)]
    split
    · rfl
    · have : x ≠ n := by rintro rfl; exact h v List.mem_cons_self
      simp [this]
theorem bindL_get {kindOf : Str → Option NameKind} {x : Str} {v : Value} : ∀ {P : List Str} {vs : List Value} {i : Nat} {m : Str → Option Value}, P.Nodup → P[i]? = some x → vs[i]? = some v → kindOf x = some .local →
    bindL kindOf (P.zip vs) m x = some v
  | [], _, _, _, _, h, _, _ => by simp at h
  | _ :: _, [], _, _, _, _, h, _ => by simp at h
  | p :: P, w :: vs, 0, m, nd, h1, h2, hk => by
    simp at h1 h2; subst h1; subst h2
    show bindL kindOf ((p, w) :: P.zip vs) m p = _
    unfold bindL
    rw [bindL_out fun v hv => (List.nodup_cons.mp nd).1 (List.of_mem_zip hv).1, if_pos hk]
    simp
  | p :: P, w :: vs, i + 1, m, nd, h1, h2, hk => by
    show bindL kindOf ((p, w) :: P.zip vs) m x = _
    unfold bindL
    exact bindL_get (i := i) (List.nodup_cons.mp nd).2 (by simpa using h1) (by simpa using h2) hk
theorem bindC_get {kindOf : Str → Option NameKind} {x : Str} {v : Value} : ∀ {P : List Str} {vs : List Value} {i : Nat} {m : Str → Option Value}, P.Nodup → P[i]? = some x → vs[i]? = some v → kindOf x ≠ some .local →
    bindC kindOf (P.zip vs) m x = some v
  | [], _, _, _, _, h, _, _ => by simp at h
  | _ :: _, [], _, _, _, _, h, _ => by simp at h
  | p :: P, w :: vs, 0, m, nd, h1, h2, hk => by
    simp at h1 h2; subst h1; subst h2
    show bindC kindOf ((p, w) :: P.zip vs) m p = _
    unfold bindC
    rw [bindC_out fun v hv => (List.nodup_cons.mp nd).1 (List.of_mem_zip hv).1, if_neg hk]
    simp
  | p :: P, w :: vs, i + 1, m, nd, h1, h2, hk => by
    show bindC kindOf ((p, w) :: P.zip vs) m x = _
    unfold bindC
    exact bindC_get (i := i) (List.nodup_cons.mp nd).2 (by simpa using h1) (by simpa using h2) hk

/-- the names' values at the entry -/
def start (N : List Str) (vs : List V) : St := vs.map some ++ List.replicate (N.length - vs.length) none

/-- the context of a def's body, at its entry; an exception leaves the frame, then lies as CX says -/
def cxOf (CX : CXT) (P : Program) (w : World) (K : PySem.W.Frag) (mg : Str → Option Value) (base : Heap) (N : List Str) (qual : Str) (scope : Scope) (f : Addr) (cd : Value) (A : Around) (outer : List Env) (s : Shared) (H : Hp) (E : XK) : Cx where
  prog := P
  w := w
  K := K
  mg := mg
  base := base
  A := A.deeper (envOfC qual scope s.heap.objs.size f cd)
  N := N
  s₀ := s
  H₀ := H
  env := envOfC qual scope s.heap.objs.size f cd
  outer := outer
  stack := envOfC qual scope s.heap.objs.size f cd :: outer
  ex := []
  calm := true
  fn := fun _ => true
  pn := []
  xe := fun e s' => wpAny (model P w) (A.deeper (envOfC qual scope s.heap.objs.size f cd)) (leaving (envOfC qual scope s.heap.objs.size f cd) e) (fun _ s'' => CX outer H s E e s'') (fun e' s'' => CX outer H s E e' s'') s'

theorem cell_has {sc : Scope} {n : Nat} {x : Str} (h : sc.names.lookup x = some .cell) : ∃ c, (cellsFrom n sc.names []).lookup x = some c := by
  have q := PySem.W.cellsFrom_some sc.names n [] (.inl h)
  exact Option.isSome_iff_exists.mp q

theorem inv_start {CX : CXT} {P : Program} {w : World} {K : PySem.W.Frag} {mg : Str → Option Value} {base : Heap} {N ps : List Str} {qual : Str} {scope : Scope} {f : Addr} {cd : Value} {A : Around} {outer : List Env} {s s1 : Shared} {H : Hp} {E : XK} {us : List Value} {vs : List V}
    (S : FnScope N ps scope) (hd : A.handled = none) (e0 : Env0 P w K mg base A outer s H) (hl : vs.length = ps.length) (r : Vals vs us)
    (x : InCallC s s.heap.objs.size (bindL (envOfC qual scope s.heap.objs.size f cd).kindOf (ps.zip us) fun _ => none) (cellsFrom (s.heap.objs.size + 1) scope.names []) (bindC (envOfC qual scope s.heap.objs.size f cd).kindOf (ps.zip us) fun _ => none) s1) :
    Inv (cxOf CX P w K mg base N qual scope f cd A outer s H E) [] (start N vs) H s1 := by
  have hpl : ps.length ≤ N.length := by have := congrArg List.length S.pre; rw [List.length_take] at this; omega
  obtain ⟨h1, tk, rfl, hk⟩ := x.done
  have noA : ∀ b : Addr, b ∉ (cxOf CX P w K mg base N qual scope f cd A outer s H E).ex := fun b z => absurd (show b ∈ ([] : List Addr) from z) (by simp)
  refine ⟨⟨e0.mod, S.kind, rfl, rfl, Nat.le_refl _, fun y z c h1 h2 => ?_, fun y hy => ?_, fun y c _ h => ?_, fun _ => hd, Around.frames_deeper e0.frames, .inr ⟨rfl, rfl⟩, fun b z => absurd z (noA b), e0.bs, e0.bsz, fun b _ _ => noA b, fun b z => absurd z (noA b), e0.funs, e0.frf⟩,
    rfl, e0.bare, Un.kept hk, ⟨_, x.toInCall.ns, fun i y v h1 h2 h3 => ?_⟩, fun y c h => ⟨_, x.cell y c h⟩, e0.hok.fresh (Nat.le_refl _), fun y c h => ?_, fun p hp => absurd (show p ∈ ([] : List (Addr × Obj)) from hp) (by simp), e0.hok.kept hk, ?_⟩
  · exact name_of_addr x.apart (PySem.mem_of_lookup h1) (PySem.mem_of_lookup h2)
  · have hy : scope.names.lookup y = some .cell ∨ scope.names.lookup y = some .free := hy
    rcases hy with hy | hy
    · exact cell_has hy
    · exact absurd rfl (S.nofree _ (PySem.mem_of_lookup hy))
  · exact Nat.le_of_lt (x.above y c (PySem.mem_of_lookup h))
  · have hi : i < vs.length := by
      unfold start at h2
      by_cases hi : i < vs.length
      · exact hi
      · rw [List.getElem?_append_right (by simpa using hi)] at h2
        rw [List.getElem?_replicate] at h2
        split at h2 <;> cases h2
    have ha : vs[i]? = some v := by
      unfold start at h2
      rw [List.getElem?_append_left (by simpa using hi), List.getElem?_map] at h2
      cases e : vs[i]? with
      | none => rw [e] at h2; cases h2
      | some a => rw [e] at h2; cases h2; rfl
    obtain ⟨u, hu, rv⟩ := r.get ha
    have hp : ps[i]? = some y := by
      rw [← S.pre, List.getElem?_take_of_lt (by omega)]; exact h1
    have ndP : ps.Nodup := by rw [← S.pre]; exact S.nd.sublist (List.take_sublist _ _)
    refine ⟨u, rv, ?_⟩
    rcases S.par y (List.mem_of_getElem? hp) with k | k
    · exact .inl ⟨k, bindL_get ndP hp hu k⟩
    · obtain ⟨c, e⟩ := cell_has (n := s.heap.objs.size + 1) k
      refine .inr ⟨.inl k, c, e, ?_⟩
      have q := x.cell y c e
      rw [bindC_get ndP hp hu (by show scope.names.lookup y ≠ _; rw [k]; decide)] at q
      exact q
  · exact e0.hok.fresh (Nat.le_of_lt (x.above y c (PySem.mem_of_lookup h)))
  · unfold start
    show _ = N.length
    rw [List.length_append, List.length_map, List.length_replicate]
    omega

/-- THE RULE: a def (or a method) of the text, by its body. The body's reading t is chosen for each entry; it is run at the parameters' values -/
theorem fn_of {CX : CXT} {P : Program} {w : World} {K : PySem.W.Frag} {mg : Str → Option Value} {base : Heap} {k : Nat} {f : Addr} {name qual : Str} {params : Arguments} {body : List Stmt} {scope : Scope} {dV kV doc pm cdv ct oc : Value} {an od : Option Addr}
    {osl : Array (Option Value)} {N ps : List Str} {sp : Sp} (lk : K.lookup f = some ⟨oc, od, .func (PySem.W.fnOf name qual params body scope dV kV doc pm an cdv ct), osl⟩) (hcd : PySem.W.codeIn K cdv qual = true) (S : FnScope N ps scope)
    (len : ∀ vs H Q E, sp vs H Q E → vs.length = ps.length)
    (hbody : ∀ (A : Around) (outer : List Env) (s : Shared) (H : Hp) (vs : List V) (Q : VK) (E : XK), Room k (A.deeper (envOfC qual scope s.heap.objs.size f cdv)) → sp vs H Q E →
      ∃ t, PSs (cxOf CX P w K mg base N qual scope f cdv A outer s H E) body t ∧ t { nx := fun _ H' => Q .non H', rt := Q } (start N vs) H) :
    FnOk P w K mg base CX (k + 1) f (PySem.W.fnOf name qual params body scope dV kV doc pm an cdv ct) ps sp := by
  refine ⟨len, fun A outer s H args us vs Q E hr e0 hb r hsp => ?_⟩
  have hl := len _ _ _ _ hsp
  have KX : K.In s.heap := e0.mod.kin.keeps fun b o e => (e0.bs b o e).1
  have lim : s.heap.NoLimit := e0.mod.nolimit.keeps fun b o e => (e0.bs b o e).1
  have hkind : ∀ y ∈ ps.zip us, scope.names.lookup y.1 = some .local ∨ (scope.names.lookup y.1 = some .cell ∧ ((cellsFrom (s.heap.objs.size + 1) scope.names []).lookup y.1).isSome = true) := fun ⟨n, v⟩ hy => by
    rcases S.par n (List.of_mem_zip hy).1 with q | q
    · exact .inl q
    · exact .inr ⟨q, PySem.W.cellsFrom_some _ _ _ (.inl q)⟩
  refine codeAny_call_function hr.depth (KX _ _ lk) rfl S.co S.gen rfl (PySem.W.codeRec_of KX hcd) (hb _ _ _ _ ?_)
  refine wpAny_newFunctionEnv_cells S.kind hkind fun env he s1 x => ?_
  subst he
  refine ⟨lim.keeps x.toInCall.keep, codeAny_func ?_⟩
  obtain ⟨t, ht, hq⟩ := hbody A outer s H vs Q E (hr.deeper _) hsp
  have I : Inv (cxOf CX P w K mg base N qual scope f cdv A outer s H E) [] (start N vs) H s1 := inv_start S hr.hd e0 hl r x
  refine wpAny_mono (ht [] s1 (start N vs) H _ I hq) (fun fl s' hs => ?_) fun e s' hs => hs
  have fin : ∀ {σ' : St} {H' : Hp} {v : V} {u : Value}, Inv (cxOf CX P w K mg base N qual scope f cdv A outer s H E) [] σ' H' s' → RelV v u → Q v H' → CE outer P w H s Q u s' :=
    fun {σ' H' v u} J rv q => ⟨v, H', J.os, J.bare, J.base, J.hok, rv, q⟩
  cases fl with
  | ret u =>
    obtain ⟨v, σ', H', J, rv, q⟩ := hs
    exact fin J rv q
  | next =>
    obtain ⟨σ', H', J, q⟩ := hs
    exact fin (v := V.non) (u := Value.none) J rfl q
  | brk =>
    obtain ⟨_, _, _, q⟩ := hs
    exact False.elim q
  | cont =>
    obtain ⟨_, _, _, q⟩ := hs
    exact False.elim q
end L2

namespace L2
open PySem PySem.Spec PyProof.Rows
section
variable {X : Cx} {x : Str} {p pos : Pos} {e : Expr} {es : List Expr} {t : TA} {id T : String} {r : List V → Hp → VK → Prop}

def tCB (r : List V → Hp → VK → Prop) (t : TA) : TE := fun σ H Q => t σ H fun vs H1 => r vs H1 Q
/-- f(e, ..), f a built-in function -/
theorem pe_callB (hc : CallR X (.builtin id) r) (hg : Gl X x) (hm : X.mg x = none) (hv : bootBuiltins x = some (.builtin id)) (ha : PA X (e :: es) t) (hn : x ≠ "__name__" := by decide) (hdb : (x == ("__debug__" : Str)) = false := by decide)
    (he : starEach (e :: es) X.env = (false, eval e X.env) :: starEach es X.env := by rfl) (hpl : (backTo pos (starEach es X.env)).any (·.1) = false := by rfl) : PE X (.Call (.Name x p) (e :: es) [] pos) (tCB r t) := by
  intro pins s σ H Q I h
  refine wpAny_Call_Name_kw (ld_blt I hg hm hv ?_ hn hdb)
  exact PyProof.Rows.callWith_builtin1 (thn (ha pos pins s σ H _ I h) fun us s1 ⟨vs, H1, I1, r1, q1⟩ => hc pins s1 σ H1 vs us Q I1 r1 q1) he hpl
/-- T(e, ..), T a built-in type -/
theorem pe_callTy (hc : CallR X (.type T) r) (hg : Gl X x) (hm : X.mg x = none) (hv : bootBuiltins x = some (.type T)) (ha : PA X (e :: es) t) (hn : x ≠ "__name__" := by decide) (hdb : (x == ("__debug__" : Str)) = false := by decide)
    (he : starEach (e :: es) X.env = (false, eval e X.env) :: starEach es X.env := by rfl) (hpl : (backTo pos (starEach es X.env)).any (·.1) = false := by rfl) : PE X (.Call (.Name x p) (e :: es) [] pos) (tCB r t) := by
  intro pins s σ H Q I h
  refine wpAny_Call_Name_kw (ld_blt I hg hm hv ?_ hn hdb)
  exact PyProof.Rows.callWith_type1 (thn (ha pos pins s σ H _ I h) fun us s1 ⟨vs, H1, I1, r1, q1⟩ => hc pins s1 σ H1 vs us Q I1 r1 q1) he hpl
/-- T() -/
theorem pe_callTy0 (hc : CallR X (.type T) r) (hg : Gl X x) (hm : X.mg x = none) (hv : bootBuiltins x = some (.type T)) (hn : x ≠ "__name__" := by decide) (hdb : (x == ("__debug__" : Str)) = false := by decide) :
    PE X (.Call (.Name x p) [] [] pos) (tCB r tNil) := by
  intro pins s σ H Q I h
  refine wpAny_Call_Name_kw (ld_blt I hg hm hv ?_ hn hdb)
  exact PyProof.Rows.callWith_type0 (hc pins s σ H [] [] Q I .nil h)
end
end L2

namespace HT
open PySem PyProof.Rows

/-- t < u of tuples of ints -/
def lexLt : List Int → List Int → Bool
  | [], [] => false
  | [], _ :: _ => true
  | _ :: _, [] => false
  | x :: xs, y :: ys => if x = y then lexLt xs ys else decide (x < y)
theorem lexLt_cons (x y : Int) (xs ys : List Int) : lexLt (x :: xs) (y :: ys) = if x = y then lexLt xs ys else decide (x < y) := rfl
theorem lexLt_nil_nil : lexLt [] [] = false := rfl
theorem lexLt_nil_cons (y : Int) (ys : List Int) : lexLt [] (y :: ys) = true := rfl
theorem lexLt_cons_nil (x : Int) (xs : List Int) : lexLt (x :: xs) [] = false := rfl

theorem eqAt_int (A : Around) (s : Shared) (a : Int) (t : Tok) (c : Int) (u : Tok) : ∃ e, SeqAt.EqAt A s (.int a t) (.int c u) e ∧ (e = true ↔ a = c) :=
  ⟨(a == c), SeqAt.EqAt.int_int a t c u, by simp⟩
theorem rcLt_int (A : Around) (s : Shared) (a : Int) (t : Tok) (c : Int) (u : Tok) (prog : Program) (w : World) (E : Value → Shared → Prop) (Q : Value → Shared → Prop) (h : Q (.bool (decide (a < c))) s) :
    wpAny (model prog w) A (richCompare .Lt (.int a t) (.int c u)) Q E s :=
  (PyProof.Rows.lt_int h : wpAny (model prog w) A (compareOp .Lt (.int a t) (.int c u)) Q E s)

section
open PySem.SeqAt
open PySem.AutoSeq1 (wpAny_loadPart')
open PySem.MeetsSeq PySem.MeetsSeq2 PySem.MeetsSeq3

theorem tuple_lt_ints (l b : Addr) (items items2 : Array Value) (n n2 : Nat) (dd dd2 : Option Addr) (sl sl2 : Array (Option Value)) (ns ms : List Int) (hi : IntsAre items.toList ns) (hj : IntsAre items2.toList ms) :
    Meets (Builtin.«tuple.__lt__» ⟨[.ref l, .ref b], []⟩)
      (fun _ R s => s.heap.get? l = some { cls := .type "tuple", dict := dd, data := .seq items n, slots := sl } ∧ s.heap.get? b = some { cls := .type "tuple", dict := dd2, data := .seq items2 n2, slots := sl2 } ∧
        R (.ok (.ret (.bool (lexLt ns ms)))) s) :=
  .of_wp fun prog w A R s h => by
    obtain ⟨hp, g, d, tk, os⟩ := s; obtain ⟨hl, hb, h⟩ := h
    have f2 := AutoSeq1.sub_tuple_tuple
    have z1 : items.size = ns.length := by rw [← hi.length]; simp
    have z2 : items2.size = ms.length := by rw [← hj.length]; simp
    wp_walk using wpAny_loadPart' hl, wpAny_loadPart' hb, wpAny_forIn_list _ (fun rest b s' => b.1 = none ∧ s' = ⟨hp, g, d, tk, os⟩ ∧ ∃ (vs ws : List Value) (ns' ms' : List Int), rest = vs.zip ws ∧
      IntsAre vs ns' ∧ IntsAre ws ms' ∧ ns'.length + items2.size = ms'.length + items.size ∧ R (.ok (.ret (.bool (lexLt ns' ms')))) ⟨hp, g, d, tk, os⟩) _
    case turn =>
      rintro ⟨y, x⟩ rest b s' ⟨hb', rfl, vs, ws, ns', ms', hz, hvi, hwi, hlen, hR⟩
      cases hvi with
      | nil => rw [List.zip_nil_left] at hz; cases hz
      | cons a t hvi' =>
        cases hwi with
        | nil => rw [List.zip_nil_right] at hz; cases hz
        | cons c u hwi' =>
          rw [List.zip_cons_cons] at hz
          injection hz with hyx hrest
          injection hyx with hy hx
          subst hy hx
          rw [lexLt_cons] at hR
          simp only [List.length_cons] at hlen
          obtain ⟨e, he, hiff⟩ := eqAt_int A.in1 ⟨hp, g, d, tk, os⟩ a t c u
          refine wpAny_bind (he prog w _ _ ?_)
          cases e with
          | true =>
            rw [if_pos (hiff.mp rfl)] at hR
            wp_walk
            exact ⟨rfl, rfl, _, _, _, _, hrest, hvi', hwi', by omega, hR⟩
          | false =>
            rw [if_neg (fun q => absurd (hiff.mpr q) Bool.false_ne_true)] at hR
            have hri := rcLt_int A.in1 ⟨hp, g, d, tk, os⟩ a t c u prog w
            wp_walk using hri
            exact ⟨_, rfl, by simpa using hR⟩
    case fin =>
      rintro ⟨b1, b2⟩ s' ⟨hb', rfl, vs, ws, ns', ms', hz, hvi, hwi, hlen, hR⟩
      simp only at hb'
      subst hb'
      have hv : lexLt ns' ms' = decide (items.size < items2.size) := by
        cases hvi with
        | nil =>
          cases hwi with
          | nil =>
            simp only [List.length_nil] at hlen
            rw [lexLt_nil_nil]
            exact (decide_eq_false (by omega)).symm
          | cons c u hw =>
            simp only [List.length_nil, List.length_cons] at hlen
            rw [lexLt_nil_cons]
            exact (decide_eq_true (by omega)).symm
        | cons a t hv =>
          cases hwi with
          | nil =>
            simp only [List.length_nil, List.length_cons] at hlen
            rw [lexLt_cons_nil]
            exact (decide_eq_false (by omega)).symm
          | cons c u hw =>
            rw [List.zip_cons_cons] at hz
            cases hz
      rw [hv] at hR
      wp_walk
      exact ⟨_, rfl, by simpa [Builtin.Tuple.tupleCompareSizes] using hR⟩
    case h =>
      exact ⟨rfl, rfl, items.toList, items2.toList, ns, ms, rfl, hi, hj, by omega, h⟩
end

section
variable {prog : Program} {w : World} {A : Around} {E : Value → Shared → Prop} {s : Shared}

theorem lt_tupInts {l b : Addr} {items items2 : Array Value} {ns ms : List Int} {Q : Value → Shared → Prop} (hl : IsTup s.heap l items) (hb : IsTup s.heap b items2) (hi : IntsAre items.toList ns) (hj : IntsAre items2.toList ms)
    (hu : A.units < cLine) (h : Q (.bool (lexLt ns ms)) s) : wpAny (model prog w) A (compareOp .Lt (.ref l) (.ref b)) Q E s := by
  obtain ⟨⟨cls, dd, data, sl⟩, ho, hc, n, hd⟩ := id hl
  obtain ⟨⟨cls2, dd2, data2, sl2⟩, ho2, hc2, n2, hd2⟩ := id hb
  simp only at hc hd hc2 hd2
  subst hc hd hc2 hd2
  exact richCompare_meets_room (op := .Lt) ⟨_, ho, rfl⟩ ⟨_, ho2, rfl⟩ PySem.F.slot_tuple_lt PySem.F.entry_tuple_lt (PySem.F.args_tuple_lt_2 _ _) (tuple_lt_ints l b items items2 n n2 dd dd2 sl sl2 ns ms hi hj)
    ⟨ho, ho2, show Value.bool (lexLt ns ms) ≠ Value.notImplemented ∧ Q (.bool (lexLt ns ms)) s from ⟨(fun x => nomatch x), h⟩⟩ hu

/-- t + u, t not empty -/
theorem cat_tup {t b : Addr} {vs ws : List Value} {Q : Value → Shared → Prop} (ht : IsTup s.heap t vs.toArray) (hb : IsTup s.heap b ws.toArray) (hv : vs ≠ [])
    (h1 : ws = [] → Q (.ref t) s) (h2 : ws ≠ [] → Q (.ref s.heap.objs.size) { s with heap := s.heap.push { cls := .type "tuple", data := .seq (vs ++ ws).toArray } })
    (hsz : vs.length + ws.length ≤ sizeLine) : wpAny (model prog w) A (binaryOp .Add (.ref t) (.ref b)) Q E s := by
  obtain ⟨⟨cls, dd, data, sl⟩, ho, hc, n, hd⟩ := id ht
  obtain ⟨⟨cls2, dd2, data2, sl2⟩, ho2, hc2, n2, hd2⟩ := id hb
  simp only at hc hd hc2 hd2
  subst hc hd hc2 hd2
  have e : vs.toArray ++ ws.toArray = (vs ++ ws).toArray := by simp
  by_cases hw : ws = []
  · exact concat_meets ⟨_, ho, rfl⟩ ⟨_, ho2, rfl⟩ noFill_tuple_add seq_tuple_add PySem.F.slot_tuple_add PySem.F.entry_tuple_add (PySem.F.args_tuple_add_2 _ _)
      (tuple_addW1 t b vs.toArray ws.toArray n n2 dd dd2 sl sl2 (by simpa using hv) (by simp [hw])) ⟨ho, ho2, h1 hw⟩
  · refine concat_meets ⟨_, ho, rfl⟩ ⟨_, ho2, rfl⟩ noFill_tuple_add seq_tuple_add PySem.F.slot_tuple_add PySem.F.entry_tuple_add (PySem.F.args_tuple_add_2 _ _)
      (tuple_addW2 t b vs.toArray ws.toArray n n2 dd dd2 sl sl2 (by simpa using hv) (by simpa using hw) (by rw [List.size_toArray, List.size_toArray]; exact hsz)) ⟨ho, ho2, ?_⟩
    rw [e]
    exact h2 hw

/-! ### t[a:b], not the whole -/
/-- a slice's bound as a place among n (d where it is left out) -/
def sIx (n d : Nat) : Option Int → Nat
  | none => d
  | some v => if v < 0 then (v + (n : Int)).toNat else min v.toNat n
theorem sIx_none (n d : Nat) : sIx n d none = d := rfl
theorem sIx_nat (n d k : Nat) : sIx n d (some (k : Int)) = min k n := by
  show (if (k : Int) < 0 then ((k : Int) + (n : Int)).toNat else min (k : Int).toNat n) = min k n
  rw [if_neg (by omega), Int.toNat_natCast]
theorem sIx_le (n d : Nat) (hd : d ≤ n) (o : Option Int) : sIx n d o ≤ n := by
  cases o with
  | none => exact hd
  | some v =>
    show (if v < 0 then (v + (n : Int)).toNat else min v.toNat n) ≤ n
    by_cases hv : v < 0
    · rw [if_pos hv]; omega
    · rw [if_neg hv]; exact Nat.min_le_right _ _
theorem clip_eq (v : Int) (n d : Nat) : (if v < 0 then max (v + (n : Int)) 0 else min v (n : Int)) = ((sIx n d (some v) : Nat) : Int) := by
  show (if v < 0 then max (v + (n : Int)) 0 else min v (n : Int)) = (((if v < 0 then (v + (n : Int)).toNat else min v.toNat n) : Nat) : Int)
  by_cases hv : v < 0
  · simp only [if_pos hv]; omega
  · simp only [if_neg hv]; omega
theorem adjust_gen (lo hi : Option Int) (n : Nat) : Builtin.Slice.sliceAdjust lo hi 1 (n : Int) = (((sIx n 0 lo : Nat) : Int), ((sIx n n hi : Nat) : Int)) := by
  have h1 : ¬ ((1 : Int) < 0) := by omega
  unfold Builtin.Slice.sliceAdjust
  simp only [h1, if_false]
  refine Prod.ext ?_ ?_
  · cases lo with
    | none => rfl
    | some v => exact clip_eq v n 0
  · cases hi with
    | none => rfl
    | some v => exact clip_eq v n n
theorem places_gen (i j : Nat) : Builtin.Slice.slicePlaces (i : Int) (j : Int) 1 = j - i := by
  unfold Builtin.Slice.slicePlaces
  have h1 : (1 : Int) > 0 := by omega
  simp only [h1, if_true, Int.ediv_one]
  split <;> omega
theorem slicePart_ {v : Value} {o : Option Int} {Q : Option Int → Shared → Prop} (p : IsPart v o) (h : Q o s) : wpAny (model prog w) A (Builtin.Slice.slicePartIndex v) Q E s := by
  cases p with
  | none => exact slicePart_none h
  | int i t => exact slicePart_int h
theorem sliceApplied_gen {sl : Addr} {vl vu : Value} {lo hi : Option Int} {n : Nat} {Q : Int × Int × Nat → Shared → Prop} (hs : s.heap.IsSliceOf sl vl vu .none) (pl : IsPart vl lo) (pu : IsPart vu hi)
    (h : Q (((sIx n 0 lo : Nat) : Int), 1, sIx n n hi - sIx n 0 lo) s) : wpAny (model prog w) A (Builtin.Slice.sliceApplied (.ref sl) (pure (n : Int))) Q E s := by
  obtain ⟨os, hos, hcs, hds⟩ := id hs
  unfold Builtin.Slice.sliceApplied Builtin.Slice.sliceFields
  refine wpAny_bind (wpAny_bind (wpAny_field hos hds (x := vl) rfl (wpAny_bind (wpAny_field hos hds (x := vu) rfl (wpAny_bind (wpAny_field hos hds (x := .none) rfl (wpAny_pure ?_)))))))
  refine wpAny_bind (slicePart_none ?_)
  show wpAny _ _ (if ((1 : Int) == 0) = true then _ else _) _ _ s
  rw [if_neg (by decide)]
  refine wpAny_bind (slicePart_ pl (wpAny_bind (slicePart_ pu (wpAny_bind (wpAny_pure ?_)))))
  show wpAny _ _ (match Builtin.Slice.sliceAdjust lo hi 1 (n : Int) with | (lo, hi) => pure (lo, (1 : Int), Builtin.Slice.slicePlaces lo hi 1)) _ _ s
  rw [adjust_gen lo hi n]
  show wpAny _ _ (pure (((sIx n 0 lo : Nat) : Int), (1 : Int), Builtin.Slice.slicePlaces ((sIx n 0 lo : Nat) : Int) ((sIx n n hi : Nat) : Int) 1)) _ _ s
  rw [places_gen]
  exact wpAny_pure h
theorem pick_gen (xs : Array Value) (i k : Nat) : ((List.range k).filterMap fun (m : Nat) => xs[((i : Int) + (m : Int) * 1).toNat]?).toArray = ((xs.toList.drop i).take k).toArray := by
  have e : (fun (m : Nat) => xs[((i : Int) + (m : Int) * 1).toNat]?) = fun m => xs[i + m]? := by
    funext m
    have : ((i : Int) + (m : Int) * 1).toNat = i + m := by omega
    rw [this]
  rw [e]
  have := pick_run xs i k
  rw [List.filterMap_map] at this
  have e2 : ((fun x => xs[x]?) ∘ fun x => i + x) = fun m => xs[i + m]? := rfl
  rw [e2] at this
  rw [this]

theorem getItem_tuple_cut {t sl : Addr} {items : Array Value} {vl vu : Value} {lo hi : Option Int} {Q : Value → Shared → Prop} (ht : IsTup s.heap t items) (hs : s.heap.IsSliceOf sl vl vu .none) (pl : IsPart vl lo) (pu : IsPart vu hi)
    (hw : ¬ (sIx items.size 0 lo = 0 ∧ sIx items.size items.size hi = items.size))
    (h : Q (.ref s.heap.objs.size) { s with heap := s.heap.push { cls := .type "tuple", data := .seq ((items.toList.drop (sIx items.size 0 lo)).take (sIx items.size items.size hi - sIx items.size 0 lo)).toArray } })
    (hsz : items.size ≤ sizeLine) : wpAny (model prog w) A (getItem (.ref t) (.ref sl)) Q E s := by
  have htake : sizeOk (.seq ((items.toList.drop (sIx items.size 0 lo)).take (sIx items.size items.size hi - sIx items.size 0 lo)).toArray) := by
    show ((items.toList.drop (sIx items.size 0 lo)).take (sIx items.size items.size hi - sIx items.size 0 lo)).toArray.size ≤ sizeLine
    rw [List.size_toArray, List.length_take, List.length_drop, Array.length_toList]
    omega
  have hj : sIx items.size items.size hi ≤ items.size := sIx_le _ _ (Nat.le_refl _) hi
  obtain ⟨os, hos, hcs, hds⟩ := id hs
  have hTs : s.TypeIs (.ref sl) "slice" := ⟨os, hos, hcs⟩
  unfold getItem
  try with_reducible refine wpAny_holding ?_
  first | refine wpAny_bind (wpAny_pure ?_) | skip
  refine wpAny_bind (wpAny_sequenceKey ht.typeIs (by decide) ?_)
  refine wpAny_bind (wpAny_callSpecial?_slot (name := Str.ofString "__getitem__") ht.typeIs PyProof.Rows.slot_tuple_getitem
    (wpAny_call_entry PyProof.Rows.slot_tuple_getitem ht.typeIs entry_tuple_getitem ?_ (args_tuple_getitem _ _)))
  show wpAny _ _ (Builtin.Tuple.tupleItemsOf (.ref t) >>= _) _ _ s
  refine wpAny_bind (tupleItemsOf_ ht ?_)
  refine wpAny_bind (wpAny_typeOf hTs ?_)
  rw [if_pos (by decide)]
  refine wpAny_bind (sliceApplied_gen hs pl pu ?_)
  have hno : ¬ ((((sIx items.size 0 lo : Nat) : Int) == 0 && (1 : Int) == 1 && (sIx items.size items.size hi - sIx items.size 0 lo) == items.size) = true) := by
    intro q
    rw [Bool.and_eq_true, Bool.and_eq_true] at q
    have q1 : ((sIx items.size 0 lo : Nat) : Int) = 0 := eq_of_beq q.1.1
    have q2 : sIx items.size items.size hi - sIx items.size 0 lo = items.size := eq_of_beq q.2
    exact hw ⟨by omega, by omega⟩
  show wpAny _ _ (if (((sIx items.size 0 lo : Nat) : Int) == 0 && (1 : Int) == 1 && (sIx items.size items.size hi - sIx items.size 0 lo) == items.size) = true then _ else _) _ _ s
  rw [if_neg hno, pick_gen]
  first
    | exact wpAny_bind (m := Builtin.Tuple.tupleExact _) (wpAny_newObj_type (wpAny_pure ⟨_, rfl, wpAny_pure h⟩) htake)
    | exact wpAny_bind (m := Builtin.Tuple.tupleExact _) (wpAny_newObj_type (wpAny_bind (wpAny_pure (wpAny_pure ⟨_, rfl, wpAny_pure h⟩))) htake)
    | exact wpAny_bind (wpAny_bind (m := Builtin.Tuple.tupleExact _) (wpAny_newObj_type (wpAny_pure (wpAny_pure ⟨_, rfl, wpAny_pure h⟩)) htake))
    | exact wpAny_bind (wpAny_bind (m := Builtin.Tuple.tupleExact _) (wpAny_newObj_type (wpAny_pure ⟨_, rfl, wpAny_pure h⟩) htake))
end
end HT

namespace L2
open PySem PySem.Spec PyProof.Rows

/-! ### the parts of a slice -/
abbrev TO := St → Hp → (Option Int → Hp → Prop) → Prop
/-- a slice's part (left out, or an int) -/
def PO (X : Cx) (e : Option Expr) (t : TO) : Prop :=
  ∀ (pins : List (Addr × Obj)) (s : Shared) (σ : St) (H : Hp) (Q : Option Int → Hp → Prop), Inv X pins σ H s → t σ H Q →
    wpAny (model X.prog X.w) X.A (evalPart e X.env) (fun u s' => ∃ o H', Inv X pins σ H' s' ∧ IsPart u o ∧ Q o H') X.xe s
def tNoPart : TO := fun _ H Q => Q none H
def tPart (t : TE) : TO := fun σ H Q => t σ H fun x H1 => ∃ i, x = .int i ∧ Q (some i) H1

theorem intsAre_of {ns : List Int} : ∀ {us : List Value}, Vals (ns.map V.int) us → IntsAre us ns := by
  induction ns with
  | nil => intro us r; rw [List.map_nil] at r; cases r; exact .nil
  | cons n ns ih =>
    intro us r
    rw [List.map_cons] at r
    cases r with
    | cons r1 r2 =>
      obtain ⟨t, e⟩ := r1
      subst e
      exact .cons n t (ih r2)

section
variable {X : Cx} {e : Expr} {te : TE} {lo hi : Option Expr} {tl th : TO} {pos p2 : Pos}

theorem po_none : PO X none tNoPart := by
  intro pins s σ H Q I h
  rw [evalPart_none]
  exact wpAny_pure ⟨none, H, I, .none, h⟩
theorem po_some (h : PE X e te) : PO X (some e) (tPart te) := by
  intro pins s σ H Q I hw
  rw [evalPart_some]
  refine thn (h pins s σ H _ I hw) fun u s1 ⟨x, H1, I1, r1, q1⟩ => ?_
  obtain ⟨i, rfl, q⟩ := q1
  obtain ⟨t, rfl⟩ := r1
  exact ⟨some i, H1, I1, .int i t, q⟩

/-- what a slice of a value is, by values: the slice object stands at sl -/
def SlR (X : Cx) (r : V → Option Int → Option Int → Hp → VK → Prop) : Prop :=
  ∀ (pins : List (Addr × Obj)) (s : Shared) (σ : St) (H : Hp) (x : V) (v vl vu : Value) (lo hi : Option Int) (sl : Addr) (Q : VK), Inv X pins σ H s → RelV x v → s.heap.IsSliceOf sl vl vu .none → IsPart vl lo → IsPart vu hi → r x lo hi H Q →
    ∃ T id, typeLookup (.type T) "__getitem__" = pure (some (.builtin id)) ∧ s.TypeIs v T ∧ wpAny (model X.prog X.w) X.A (getItem v (.ref sl)) (EP X pins σ Q) X.xe s
theorem SlR.or {r r' : V → Option Int → Option Int → Hp → VK → Prop} (h : SlR X r) (h' : SlR X r') : SlR X (fun x lo hi H Q => r x lo hi H Q ∨ r' x lo hi H Q) := by
  intro pins s σ H x v vl vu lo hi sl Q I rx hs pl pu q
  rcases q with q | q
  · exact h pins s σ H x v vl vu lo hi sl Q I rx hs pl pu q
  · exact h' pins s σ H x v vl vu lo hi sl Q I rx hs pl pu q
def tSl (r : V → Option Int → Option Int → Hp → VK → Prop) (te : TE) (tl th : TO) : TE := fun σ H Q => te σ H fun x H1 => tl σ H1 fun l H2 => th σ H2 fun u H3 => r x l u H3 Q
/-- a[lo:hi], any a -/
theorem pe_slice {r : V → Option Int → Option Int → Hp → VK → Prop} (hr : SlR X r) (he : PE X e te) (hl : PO X lo tl) (hu : PO X hi th) : PE X (.Subscript e (.Slice lo hi none p2) pos) (tSl r te tl th) := by
  intro pins s σ H Q I h
  refine Subscript_ (thn (he pins s σ H _ I h) fun v s1 ⟨x, H1, I1, r1, q1⟩ => ?_)
  refine wpAny_Slice (thn (hl pins s1 σ H1 _ I1 q1) fun vl s2 ⟨l, H2, I2, pl, q2⟩ => thn (hu pins s2 σ H2 _ I2 q2) fun vu s3 ⟨u, H3, I3, pu, q3⟩ => ?_)
  rw [evalPart_none]
  refine wpAny_pure ?_
  have I4 : Inv X pins σ H3 { s3 with heap := s3.heap.push { cls := .type "slice", data := .fields #[vl, vu, .none] } } := I3.kept (t' := s3.toks) fun b ob q => Heap.get?_push_of_some _ q
  obtain ⟨T, id, hT, ht, hg⟩ := hr pins { s3 with heap := s3.heap.push { cls := .type "slice", data := .fields #[vl, vu, .none] } } σ H3 x v vl vu l u s3.heap.objs.size Q I4 r1 (Heap.IsSliceOf.new ..) pl pu q3
  show wpAny (model X.prog X.w) X.A (subscriptTail e (.Slice lo hi none p2) v (.ref s3.heap.objs.size)) (EP X pins σ Q) X.xe { s3 with heap := s3.heap.push { cls := .type "slice", data := .fields #[vl, vu, .none] } }
  exact tail_any (ops := [.ref s3.heap.objs.size, v]) ht hT hg (by with_unfolding_all rfl)

/-- the items of xs[lo:hi] -/
def cutV (xs : List V) (lo hi : Option Int) : List V := (xs.drop (HT.sIx xs.length 0 lo)).take (HT.sIx xs.length xs.length hi - HT.sIx xs.length 0 lo)
theorem cutV_length (xs : List V) (lo hi : Option Int) : (cutV xs lo hi).length ≤ xs.length := by
  unfold cutV
  rw [List.length_take, List.length_drop]
  omega
/-- t[lo:hi], not the whole of it (the whole would be t itself) -/
def rSlT (K : PySem.W.Frag) : V → Option Int → Option Int → Hp → VK → Prop := fun x lo hi H Q => ∃ a xs, x = .ref a ∧ SqT K H a xs ∧
  ¬ (HT.sIx xs.length 0 lo = 0 ∧ HT.sIx xs.length xs.length hi = xs.length) ∧ ∀ p, H p = none → Q (.ref p) (upd H p (.tup (cutV xs lo hi)))
theorem sl_tup : SlR X (rSlT X.K) := by
  intro pins s σ H x v vl vu lo hi sl Q I rx hs pl pu h
  obtain ⟨a, xs, rfl, hx, hw, q⟩ := h
  cases rx
  obtain ⟨its, r, ht, hz⟩ := I.tuple hx
  have hlen : its.toArray.size = xs.length := by rw [List.size_toArray]; exact r.length.symm
  refine ⟨"tuple", _, PyProof.Rows.slot_tuple_getitem.lookup, ht.typeIs, ?_⟩
  refine HT.getItem_tuple_cut ht hs pl pu (by rw [hlen]; exact hw) ?_ (by rw [hlen]; exact hz)
  rw [hlen]
  refine ⟨.ref s.heap.objs.size, _, I.laid (t' := s.toks) (o := .tup (cutV xs lo hi)) (fun b ob q => Heap.get?_push_of_some _ q) (Nat.le_refl _) ?_, rfl, q _ (I.hok.fresh (Nat.le_refl _))⟩
  exact ⟨Nat.le_trans (cutV_length xs lo hi) hz, _, (r.drop (HT.sIx xs.length 0 lo)).take (HT.sIx xs.length xs.length hi - HT.sIx xs.length 0 lo), IsTup.new _ _⟩

/-! ### t < u, t + u -/
def rLtT (K : PySem.W.Frag) : R2 := fun x y H Q => ∃ a b ns ms, x = .ref a ∧ y = .ref b ∧ SqT K H a (ns.map V.int) ∧ SqT K H b (ms.map V.int) ∧ Q (.bl (HT.lexLt ns ms)) H
theorem op_ltT (hu : X.A.units < cLine) : OpR X (compareOp .Lt) (rLtT X.K) := by
  intro pins s σ H x y v u Q I rx ry h
  obtain ⟨a, b, ns, ms, rfl, rfl, ha, hb, q⟩ := h
  cases rx
  cases ry
  obtain ⟨its, r1, p1, _⟩ := I.tuple ha
  obtain ⟨its2, r2, p2, _⟩ := I.tuple hb
  have i1 : IntsAre its.toArray.toList ns := intsAre_of r1
  have i2 : IntsAre its2.toArray.toList ms := intsAre_of r2
  exact HT.lt_tupInts p1 p2 i1 i2 hu ⟨.bl (HT.lexLt ns ms), H, I, rfl, q⟩
/-- t + u, t not empty: u empty gives t itself -/
def rCatT (K : PySem.W.Frag) : R2 := fun x y H Q => ∃ a b xs ys, x = .ref a ∧ y = .ref b ∧ SqT K H a xs ∧ SqT K H b ys ∧ xs ≠ [] ∧ xs.length + ys.length ≤ sizeLine ∧
  (ys = [] → Q (.ref a) H) ∧ (ys ≠ [] → ∀ p, H p = none → Q (.ref p) (upd H p (.tup (xs ++ ys))))
theorem Vals.nil_iff {xs : List V} {us : List Value} (r : Vals xs us) : us = [] ↔ xs = [] := by
  cases r with
  | nil => simp
  | cons _ _ => simp
theorem op_catT : OpR X (binaryOp .Add) (rCatT X.K) := by
  intro pins s σ H x y v u Q I rx ry h
  obtain ⟨a, b, xs, ys, rfl, rfl, ha, hb, hx, hz, q1, q2⟩ := h
  cases rx
  cases ry
  obtain ⟨its, r1, p1, _⟩ := I.tuple ha
  obtain ⟨its2, r2, p2, _⟩ := I.tuple hb
  refine HT.cat_tup p1 p2 (fun z => hx (r1.nil_iff.mp z)) (fun z => ⟨.ref a, H, I, rfl, q1 (r2.nil_iff.mp z)⟩) (fun z => ?_) (by rw [← r1.length, ← r2.length]; exact hz)
  refine ⟨.ref s.heap.objs.size, _, I.laid (t' := s.toks) (o := .tup (xs ++ ys)) (fun b ob q => Heap.get?_push_of_some _ q) (Nat.le_refl _) ?_, rfl, q2 (fun w => z (r2.nil_iff.mpr w)) _ (I.hok.fresh (Nat.le_refl _))⟩
  exact ⟨by rw [List.length_append]; exact hz, _, r1.append r2, IsTup.new _ _⟩
/-- tuple(t) -/
theorem call_tupleT : CallR X (.type "tuple") (fun xs H Q => ∃ a ys, xs = [.ref a] ∧ SqT X.K H a ys ∧ Q (.ref a) H) := by
  intro pins s σ H xs us Q I r h
  obtain ⟨a, ys, rfl, ha, q⟩ := h
  obtain ⟨u, rfl, ru⟩ := vals1 r
  cases ru
  obtain ⟨its, _, p1, _⟩ := I.tuple ha
  exact call_tuple_same (items := its.toArray) p1 ⟨.ref a, H, I, rfl, q⟩
end
end L2

namespace L2
open PySem PySem.Spec PyProof.Rows

/-! ### places -/
/-- the place that an index of any sign means -/
def ixN (n : Nat) (i : Int) : Option Nat := if 0 ≤ i then (if i < n then some i.toNat else none) else if -(n : Int) ≤ i then some (i + n).toNat else none
def atI {α : Type} (xs : List α) (i : Int) : Option α := (ixN xs.length i).bind fun j => xs[j]?
theorem ixN_seq {n : Nat} {i : Int} {j : Nat} (h : ixN n i = some j) : seqIndex? i n = some j ∧ j < n ∧ -(n : Int) ≤ i ∧ i < n := by
  unfold ixN at h
  by_cases h0 : 0 ≤ i
  · rw [if_pos h0] at h
    by_cases h1 : i < n
    · rw [if_pos h1] at h
      have e : i.toNat = j := Option.some.inj h
      exact ⟨by rw [seqIndex_of h0 h1, e], by omega, by omega, h1⟩
    · rw [if_neg h1] at h; cases h
  · rw [if_neg h0] at h
    by_cases h1 : -(n : Int) ≤ i
    · rw [if_pos h1] at h
      have e : (i + n).toNat = j := Option.some.inj h
      exact ⟨by rw [seqIndex_neg (by omega) h1, e], by omega, h1, by omega⟩
    · rw [if_neg h1] at h; cases h
theorem atI_get {α : Type} {xs : List α} {i : Int} {v : α} (h : atI xs i = some v) : ∃ j, seqIndex? i xs.length = some j ∧ xs[j]? = some v ∧ j < xs.length ∧ -(xs.length : Int) ≤ i ∧ i < xs.length := by
  unfold atI at h
  cases e : ixN xs.length i with
  | none => rw [e] at h; cases h
  | some j =>
    rw [e] at h
    obtain ⟨h1, h2, h3, h4⟩ := ixN_seq e
    exact ⟨j, h1, h, h2, h3, h4⟩
theorem atI_nat {α : Type} {xs : List α} {j : Nat} {v : α} (h : xs[j]? = some v) : atI xs (j : Int) = some v := by
  have hj : j < xs.length := (List.getElem?_eq_some_iff.mp h).1
  have e : ixN xs.length (j : Int) = some j := by
    unfold ixN
    rw [if_pos (by omega), if_pos (by omega)]; simp
  unfold atI; rw [e]; exact h
theorem atI_last {α : Type} (xs : List α) (v : α) : atI (xs ++ [v]) (-1) = some v := by
  have hl : (xs ++ [v]).length = xs.length + 1 := by simp
  have e : ixN (xs ++ [v]).length (-1) = some xs.length := by
    unfold ixN
    rw [hl, if_neg (by decide), if_pos (by omega)]
    congr 1
    omega
  unfold atI
  rw [e]
  show (xs ++ [v])[xs.length]? = some v
  simp

/-! ### what may be subscripted -/
/-- what stands as an index of a plain subscript -/
def PlainIx (b : Expr) : Prop := ∀ o i, subscripted b false o i = operate [o, i] (getItem o i)
/-- a subscript by values -/
def IxR (X : Cx) (r : R2) : Prop :=
  ∀ (value slice : Expr) (pins : List (Addr × Obj)) (s : Shared) (σ : St) (H : Hp) (x y : V) (v u : Value) (Q : VK), Inv X pins σ H s → RelV x v → RelV y u → r x y H Q →
    subscripted slice false v u = operate [v, u] (getItem v u) → wpAny (model X.prog X.w) X.A (subscriptTail value slice v u) (EP X pins σ Q) X.xe s
/-- a call of a builtin's method by values: the receiver, the arguments -/
def MtR (X : Cx) (id : String) (r : V → List V → Hp → VK → Prop) : Prop :=
  ∀ (pins : List (Addr × Obj)) (s : Shared) (σ : St) (H : Hp) (x : V) (xs : List V) (v : Value) (us : List Value) (Q : VK), Inv X pins σ H s → RelV x v → Vals xs us → r x xs H Q →
    wpAny (model X.prog X.w) X.A (call (.builtin id) (v :: us)) (EP X pins σ Q) X.xe s
section
variable {X : Cx} {a b : Expr} {ta tb : TE} {pos : Pos}
theorem IxR.or {r r' : R2} (h : IxR X r) (h' : IxR X r') : IxR X (fun x y H Q => r x y H Q ∨ r' x y H Q) := by
  intro value slice pins s σ H x y v u Q I rx ry q hs
  rcases q with q | q
  · exact h value slice pins s σ H x y v u Q I rx ry q hs
  · exact h' value slice pins s σ H x y v u Q I rx ry q hs
theorem MtR.or {id : String} {r r' : V → List V → Hp → VK → Prop} (h : MtR X id r) (h' : MtR X id r') : MtR X id (fun x xs H Q => r x xs H Q ∨ r' x xs H Q) := by
  intro pins s σ H x xs v us Q I rx rs q
  rcases q with q | q
  · exact h pins s σ H x xs v us Q I rx rs q
  · exact h' pins s σ H x xs v us Q I rx rs q
/-- a[b] -/
theorem pe_ix {r : R2} (hr : IxR X r) (ha : PE X a ta) (hb : PE X b tb) (hs : PlainIx b) : PE X (.Subscript a b pos) (tOp r ta tb) := by
  intro pins s σ H Q I h
  exact Subscript_ (binT ha hb I h fun v u s2 x y H2 I2 rx ry q => hr a b pins s2 σ H2 x y v u Q I2 rx ry q (hs _ _))

def rIxL (K : PySem.W.Frag) : R2 := fun x y H Q => ∃ p xs i v, x = .ref p ∧ y = .int i ∧ SqL K H p xs ∧ atI xs i = some v ∧ Q v H
def rIxT (K : PySem.W.Frag) : R2 := fun x y H Q => ∃ p xs i v, x = .ref p ∧ y = .int i ∧ SqT K H p xs ∧ atI xs i = some v ∧ Q v H
def rIxS : R2 := fun x y H Q => ∃ z i c, x = .str z ∧ y = .int i ∧ z.length ≤ sizeLine ∧ atI z.cps.toList i = some c ∧ Q (.str ⟨#[c]⟩) H
theorem ix_list : IxR X (rIxL X.K) := by
  intro value slice pins s σ H x y v u Q I rx ry h hs
  obtain ⟨p, xs, i, z, rfl, rfl, hq, he, q⟩ := h
  cases rx
  obtain ⟨t, rfl⟩ := ry
  obtain ⟨its, r, pl, hz⟩ := I.list hq
  obtain ⟨j, h1, h2, h3, h4, h5⟩ := atI_get he
  obtain ⟨w, ew, rw'⟩ := r.get h2
  have hl := r.length
  have hn := line63
  have fin : EP X pins σ Q w s := ⟨z, H, I, rw', q⟩
  by_cases h0 : 0 ≤ i
  · have hj : i.toNat = j := by
      rw [seqIndex_of h0 h5] at h1
      exact Option.some.inj h1
    exact item_listR pl.isList h0 (by omega) (by rw [hj]; simpa using ew) fin hs
  · have hj : (i + (its.toArray.size : Int)).toNat = j := by
      rw [seqIndex_neg (by omega) h4] at h1
      rw [List.size_toArray, ← hl]
      exact Option.some.inj h1
    exact subscriptTail_builtinR (x := w) pl.isList.typeIs slot_list_getitem.lookup
      (wpAny_getItem_list_neg (Q := fun r s' => r = w ∧ EP X pins σ Q r s') pl.isList (by omega) (by rw [List.size_toArray] <;> omega) (by omega) (by rw [hj]; simpa using ew) ⟨rfl, fin⟩) hs
theorem ix_tup : IxR X (rIxT X.K) := by
  intro value slice pins s σ H x y v u Q I rx ry h hs
  obtain ⟨p, xs, i, z, rfl, rfl, hq, he, q⟩ := h
  cases rx
  obtain ⟨t, rfl⟩ := ry
  obtain ⟨its, r, pl, hz⟩ := I.tuple hq
  obtain ⟨j, h1, h2, h3, h4, h5⟩ := atI_get he
  obtain ⟨w, ew, rw'⟩ := r.get h2
  have hl := r.length
  have hn := line63
  have fin : EP X pins σ Q w s := ⟨z, H, I, rw', q⟩
  exact subscriptTail_builtinR (x := w) pl.typeIs slot_tuple_getitem.lookup
    (getItem_tuple (j := j) (Q := fun r s' => r = w ∧ EP X pins σ Q r s') pl (by omega) (by omega) (by rw [List.size_toArray, ← hl]; exact h1) (by simpa using ew) ⟨rfl, fin⟩) hs
theorem ix_str : IxR X rIxS := by
  intro value slice pins s σ H x y v u Q I rx ry h hs
  obtain ⟨z, i, c, rfl, rfl, hz, he, q⟩ := h
  obtain ⟨t, rfl⟩ := rx
  obtain ⟨t', rfl⟩ := ry
  obtain ⟨j, h1, h2, h3, h4, h5⟩ := atI_get he
  have hl : z.cps.toList.length = z.length := by simp [Str.length]
  rw [hl] at h1 h4 h5
  have hn := line63
  exact tail_any (typeIs_str s z t) slot_str_getitem.lookup (getItem_str (c := c) (by
    have e1 : decide (i < -(2 ^ 63 : Int)) = false := decide_eq_false (by omega)
    have e2 : decide (i ≥ 2 ^ 63) = false := decide_eq_false (by omega)
    rw [e1, e2, Bool.or_false]) (by rw [h1]; simpa using h2) ⟨.str ⟨#[c]⟩, H, I.tok _, ⟨_, rfl⟩, q⟩) hs
/-- list, tuple or str -/
def rIx (K : PySem.W.Frag) : R2 := fun x y H Q => rIxL K x y H Q ∨ rIxT K x y H Q ∨ rIxS x y H Q
theorem ix_seq : IxR X (rIx X.K) := ix_list.or (ix_tup.or ix_str)

/-! ### xs[i] = v, any sign -/
/-- the list's object behind a store -/
theorem mapSeq_set (its : List Value) (n j : Nat) (u : Value) : Obj.mapSeq (·.setIfInBounds j u) { cls := .type "list", data := .seq its.toArray n } = { cls := .type "list", data := .seq (its.set j u).toArray n } := by
  simp [Obj.mapSeq]
theorem Inv.lst {pins : List (Addr × Obj)} {σ : St} {H : Hp} {s : Shared} {p : Addr} {xs : List V} (I : Inv X pins σ H s) (h : H p = some (.lst xs)) :
    ∃ (its : List Value) (n : Nat), Vals xs its ∧ s.heap.get? p = some { cls := .type "list", data := .seq its.toArray n } ∧ xs.length ≤ sizeLine := by
  obtain ⟨z, its, n, r, e⟩ := I.hok p _ h
  exact ⟨its, n, r, e, z⟩
/-- the list at p is written by an update of its object -/
theorem Inv.lstUpd {pins : List (Addr × Obj)} {σ : St} {H : Hp} {s : Shared} {p : Addr} {xs ys : List V} {its its' : List Value} {n n' : Nat} {f : Obj → Obj} (I : Inv X pins σ H s) (h : H p = some (.lst xs))
    (ho : s.heap.get? p = some { cls := .type "list", data := .seq its.toArray n }) (hf : f { cls := .type "list", data := .seq its.toArray n } = { cls := .type "list", data := .seq its'.toArray n' }) (r : Vals ys its') (hz : ys.length ≤ sizeLine) (t : Nat) :
    Inv X pins σ (upd H p (.lst ys)) { s with heap := s.heap.update p f, toks := t } := by
  have e : (s.heap.update p f).get? p = some { cls := .type "list", data := .seq its'.toArray n' } := by
    rw [Heap.get?_update_self f ho (by rw [hf] <;> rfl), hf]
  refine I.write (x := p) (e := p) (by rw [h]; trivial) (.inl rfl) (fun b u hb q => (Heap.get?_update_other _ _ (Ne.symm hb)).trans q) ⟨_, e⟩ ?_
  exact ⟨hz, its', n', r, e⟩
def rSetL : V → V → V → Hp → (Hp → Prop) → Prop := fun o i v H Q => ∃ p xs k j, o = .ref p ∧ i = .int k ∧ H p = some (.lst xs) ∧ ixN xs.length k = some j ∧ Q (upd H p (.lst (xs.set j v)))
theorem set_list : PSet X rSetL := by
  intro pins s σ H o i v ov iv u Q I ro ri rv h
  obtain ⟨p, xs, k, j, rfl, rfl, hp, hj, q⟩ := h
  cases ro
  obtain ⟨t, rfl⟩ := ri
  obtain ⟨its, n, r, ho, hz⟩ := I.lst hp
  obtain ⟨h1, h2, h3, h4⟩ := ixN_seq hj
  have hl := r.length
  have hn := line63
  have I' : Inv X pins σ (upd H p (.lst (xs.set j v))) { s with heap := s.heap.update p (Obj.mapSeq (·.setIfInBounds j u)) } :=
    I.lstUpd hp ho (mapSeq_set its n j u) (r.set rv j) (by rw [List.length_set]; exact hz) s.toks
  by_cases h0 : 0 ≤ k
  · have hk : k.toNat = j := by
      rw [seqIndex_of h0 h4] at h1
      exact Option.some.inj h1
    exact PySem.W.ki_setAt ho h0 (by omega) (by rw [List.size_toArray, ← hl]; exact h4) (by rw [hk]; exact ⟨_, I', q⟩)
  · have hk : (k + (its.toArray.size : Int)).toNat = j := by
      rw [seqIndex_neg (by omega) h3] at h1
      rw [List.size_toArray, ← hl]
      exact Option.some.inj h1
    exact PySem.W.ki_setBack ho (by omega) (by rw [List.size_toArray, ← hl]; exact h3) (by omega) (by rw [hk]; exact ⟨_, I', q⟩)

/-! ### slices -/
theorem slice_bounds (lo hi : Option Int) (n : Nat) : (sliceBounds lo hi none n).1 = ((HT.sIx n 0 lo : Nat) : Int) ∧ (sliceBounds lo hi none n).2.1 = ((HT.sIx n n hi : Nat) : Int) ∧ (sliceBounds lo hi none n).2.2 = 1 := by
  refine ⟨?_, ?_, rfl⟩
  · cases lo with
    | none => simp [sliceBounds, HT.sIx]
    | some i =>
      simp only [sliceBounds, HT.sIx, Option.getD_none, show (1 : Int) > 0 by decide, if_true]
      by_cases h : i < 0
      · simp only [h, if_true] <;> omega
      · simp only [h, if_false] <;> omega
  · cases hi with
    | none => simp [sliceBounds, HT.sIx]
    | some i =>
      simp only [sliceBounds, HT.sIx, Option.getD_none, show (1 : Int) > 0 by decide, if_true]
      by_cases h : i < 0
      · simp only [h, if_true] <;> omega
      · simp only [h, if_false] <;> omega
theorem slicePick_cut (its : List Value) (lo hi : Option Int) : slicePick its.toArray lo hi none = ((its.drop (HT.sIx its.length 0 lo)).take (HT.sIx its.length its.length hi - HT.sIx its.length 0 lo)).toArray := by
  obtain ⟨h1, h2, h3⟩ := slice_bounds lo hi its.toArray.size
  unfold slicePick
  rw [h1, h2, h3]
  simp only [sliceRange_one, pick_run, List.size_toArray] <;> rfl
/-- xs[lo:hi] of a list: a new list -/
def rSlL (K : PySem.W.Frag) : V → Option Int → Option Int → Hp → VK → Prop := fun x lo hi H Q => ∃ a xs, x = .ref a ∧ SqL K H a xs ∧ ∀ p, H p = none → Q (.ref p) (upd H p (.lst (cutV xs lo hi)))
theorem sl_list : SlR X (rSlL X.K) := by
  intro pins s σ H x v vl vu lo hi sl Q I rx hs pl pu h
  obtain ⟨a, xs, rfl, hx, q⟩ := h
  cases rx
  obtain ⟨its, r, ht, hz⟩ := I.list hx
  have hlen := r.length
  refine ⟨"list", _, slot_list_getitem.lookup, ht.isList.typeIs, ?_⟩
  refine wpAny_getItem_list_slice ht.isList hs pl pu .none (by simp) ?_ (by rw [List.size_toArray] <;> omega)
  rw [slicePick_cut, ← hlen]
  refine ⟨.ref s.heap.objs.size, _, I.laid (t' := s.toks) (o := .lst (cutV xs lo hi)) (fun b ob q => Heap.get?_push_of_some _ q) (Nat.le_refl _) ?_, rfl, q _ (I.hok.fresh (Nat.le_refl _))⟩
  exact ⟨Nat.le_trans (cutV_length xs lo hi) hz, _, 0, (r.drop (HT.sIx xs.length 0 lo)).take (HT.sIx xs.length xs.length hi - HT.sIx xs.length 0 lo), Heap.get?_push_size _ rfl⟩

/-! ### in, not in: flat items -/
def flatV : V → Bool
  | .non => true
  | .bl _ => true
  | .int _ => true
  | .str _ => true
  | _ => false
/-- == of flat values -/
def eqV : V → V → Bool
  | .non, .non => true
  | .bl a, .bl b => a == b
  | .bl a, .int b => (if a then 1 else 0) == b
  | .int a, .bl b => a == (if b then 1 else 0)
  | .int a, .int b => a == b
  | .str a, .str b => a == b
  | _, _ => false
theorem eqAt_V {A : Around} {s : Shared} {y x : V} {u v : Value} (ry : RelV y u) (rx : RelV x v) (fy : flatV y = true) (fx : flatV x = true) : SeqAt.EqAt A s u v (eqV y x) := by
  cases y with
  | non =>
    cases ry
    cases x with
    | non => cases rx; exact SeqAt.EqAt.same _
    | bl b => cases rx; exact SeqAt.EqAt.none_bool b
    | int b => obtain ⟨t, rfl⟩ := rx; exact SeqAt.EqAt.none_int b t
    | str b => obtain ⟨t, rfl⟩ := rx; exact SeqAt.EqAt.none_str b t
    | _ => exact absurd (show false = true from fx) Bool.false_ne_true
  | bl a =>
    cases ry
    cases x with
    | non => cases rx; exact SeqAt.EqAt.bool_none a
    | bl b => cases rx; exact SeqAt.EqAt.bool_bool a b
    | int b => obtain ⟨t, rfl⟩ := rx; exact SeqAt.EqAt.bool_int a b t
    | str b => obtain ⟨t, rfl⟩ := rx; exact SeqAt.EqAt.bool_str a b t
    | _ => exact absurd (show false = true from fx) Bool.false_ne_true
  | int a =>
    obtain ⟨t', rfl⟩ := ry
    cases x with
    | non => cases rx; exact SeqAt.EqAt.int_none a t'
    | bl b => cases rx; exact SeqAt.EqAt.int_bool a t' b
    | int b => obtain ⟨t, rfl⟩ := rx; exact SeqAt.EqAt.int_int a t' b t
    | str b => obtain ⟨t, rfl⟩ := rx; exact SeqAt.EqAt.int_str a t' b t
    | _ => exact absurd (show false = true from fx) Bool.false_ne_true
  | str a =>
    obtain ⟨t', rfl⟩ := ry
    cases x with
    | non => cases rx; exact SeqAt.EqAt.str_none a t'
    | bl b => cases rx; exact SeqAt.EqAt.str_bool a t' b
    | int b => obtain ⟨t, rfl⟩ := rx; exact SeqAt.EqAt.str_int a t' b t
    | str b => obtain ⟨t, rfl⟩ := rx; exact SeqAt.EqAt.str_str a t' b t
    | _ => exact absurd (show false = true from fx) Bool.false_ne_true
  | _ => exact absurd (show false = true from fy) Bool.false_ne_true
/-- the items' answers, read off the values (a value's own answer does not lean on its token) -/
def eqU (x : V) (u : Value) : Bool := match u with
  | .none => eqV .non x
  | .bool b => eqV (.bl b) x
  | .int i _ => eqV (.int i) x
  | .str z _ => eqV (.str z) x
  | _ => false
theorem eqU_of {x y : V} {u : Value} (r : RelV y u) (f : flatV y = true) : eqU x u = eqV y x := by
  cases y with
  | non => cases r; rfl
  | bl b => cases r; rfl
  | int i => obtain ⟨t, rfl⟩ := r; rfl
  | str z => obtain ⟨t, rfl⟩ := r; rfl
  | _ => exact absurd (show false = true from f) Bool.false_ne_true
theorem any_eqU {x : V} : ∀ {xs : List V} {us : List Value}, Vals xs us → xs.all flatV = true → us.any (eqU x) = xs.any fun y => eqV y x
  | _, _, .nil, _ => rfl
  | y :: xs, u :: us, .cons r t, f => by
    rw [List.all_cons, Bool.and_eq_true] at f
    rw [List.any_cons, List.any_cons, eqU_of r f.1, any_eqU t f.2]
theorem mem_eqAt {A : Around} {s : Shared} {x : V} {v : Value} (rx : RelV x v) (fx : flatV x = true) : ∀ {xs : List V} {us : List Value}, Vals xs us → xs.all flatV = true → ∀ u ∈ us, SeqAt.EqAt A s u v (eqU x u)
  | _, _, .nil, _ => fun u hu => by cases hu
  | y :: xs, u :: us, .cons r t, f => fun u' hu => by
    rw [List.all_cons, Bool.and_eq_true] at f
    rcases List.mem_cons.mp hu with rfl | hu
    · rw [eqU_of r f.1]; exact eqAt_V r rx f.1 fx
    · exact mem_eqAt rx fx t f.2 u' hu
def inV (x : V) (xs : List V) : Bool := xs.any fun y => eqV y x
/-- x in a list or tuple of flat items -/
def rIn (K : PySem.W.Frag) (neg : Bool) : R2 := fun x y H Q => ∃ p xs, y = .ref p ∧ (SqL K H p xs ∨ SqT K H p xs) ∧ flatV x = true ∧ xs.all flatV = true ∧ Q (.bl (if neg then !inV x xs else inV x xs)) H
theorem op_in_seq : OpR X (compareOp .In) (rIn X.K false) := by
  intro pins s σ H x y v u Q I rx ry h
  obtain ⟨p, xs, rfl, hq, fx, fs, q⟩ := h
  cases ry
  rcases hq with hq | hq
  · obtain ⟨its, r, pl, hz⟩ := I.list hq
    refine SeqAt.in_listAt (eqU x) pl.isList (fun w hw => mem_eqAt rx fx r fs w (by simpa using hw)) ⟨.bl _, H, I, rfl, ?_⟩
    rw [show its.toArray.any (eqU x) = its.any (eqU x) by simp, any_eqU r fs]
    exact q
  · obtain ⟨its, r, pl, hz⟩ := I.tuple hq
    refine SeqAt.in_tupleAt (eqU x) pl (fun w hw => mem_eqAt rx fx r fs w (by simpa using hw)) ⟨.bl _, H, I, rfl, ?_⟩
    rw [show its.toArray.any (eqU x) = its.any (eqU x) by simp, any_eqU r fs]
    exact q
theorem op_notIn_seq : OpR X (compareOp .NotIn) (rIn X.K true) := by
  intro pins s σ H x y v u Q I rx ry h
  obtain ⟨p, xs, rfl, hq, fx, fs, q⟩ := h
  cases ry
  rcases hq with hq | hq
  · obtain ⟨its, r, pl, hz⟩ := I.list hq
    refine SeqAt.notIn_listAt (eqU x) pl.isList (fun w hw => mem_eqAt rx fx r fs w (by simpa using hw)) ⟨.bl _, H, I, rfl, ?_⟩
    rw [show its.toArray.any (eqU x) = its.any (eqU x) by simp, any_eqU r fs]
    exact q
  · obtain ⟨its, r, pl, hz⟩ := I.tuple hq
    refine SeqAt.notIn_tupleAt (eqU x) pl (fun w hw => mem_eqAt rx fx r fs w (by simpa using hw)) ⟨.bl _, H, I, rfl, ?_⟩
    rw [show its.toArray.any (eqU x) = its.any (eqU x) by simp, any_eqU r fs]
    exact q
theorem op_notIn_str : OpR X (compareOp .NotIn) (fun x y H Q => ∃ i j, x = .str i ∧ y = .str j ∧ Q (.bl (!(!(Builtin.Str.occurrences j i 0 j.length 1).isEmpty))) H) := by
  intro pins s σ H x y v u Q I rx ry h
  obtain ⟨i, j, rfl, rfl, q⟩ := h
  obtain ⟨t, rfl⟩ := rx
  obtain ⟨t', rfl⟩ := ry
  exact notIn_str ⟨.bl _, H, I, rfl, q⟩

/-! ### len, list(x), tuple(x) of any list or tuple that is read -/
theorem call_len_seq : CallR X (.builtin "len") (fun xs H Q => ∃ p ys, xs = [.ref p] ∧ (SqL X.K H p ys ∨ SqT X.K H p ys) ∧ Q (.int ys.length) H) := by
  intro pins s σ H xs us Q I r h
  obtain ⟨p, ys, rfl, hq, q⟩ := h
  obtain ⟨u, rfl, rx⟩ := vals1 r
  cases rx
  have hn := line63
  rcases hq with hq | hq
  · obtain ⟨its, r', pl, hz⟩ := I.list hq
    have hlen := r'.length
    exact Calls.call_len_list pl.isList (by simp only [List.size_toArray] <;> omega) ⟨.int ys.length, H, I.tok _, ⟨s.toks + 1, by rw [List.size_toArray, hlen]⟩, q⟩
  · obtain ⟨its, r', pl, hz⟩ := I.tuple hq
    have hlen := r'.length
    exact len_tuple pl (by simp only [List.size_toArray] <;> omega) ⟨.int ys.length, H, I.tok _, ⟨s.toks + 1, by rw [List.size_toArray, hlen]⟩, q⟩
theorem call_len_str : CallR X (.builtin "len") (fun xs H Q => ∃ z, xs = [.str z] ∧ z.length ≤ sizeLine ∧ Q (.int z.length) H) := by
  intro pins s σ H xs us Q I r h
  obtain ⟨z, rfl, hz, q⟩ := h
  obtain ⟨u, rfl, t, rfl⟩ := vals1 r
  have hn := line63
  exact len_str (by omega) ⟨.int z.length, H, I.tok _, ⟨_, rfl⟩, q⟩
theorem CallR.or {f : Value} {r r' : List V → Hp → VK → Prop} (h : CallR X f r) (h' : CallR X f r') : CallR X f (fun xs H Q => r xs H Q ∨ r' xs H Q) := by
  intro pins s σ H xs us Q I rs q
  rcases q with q | q
  · exact h pins s σ H xs us Q I rs q
  · exact h' pins s σ H xs us Q I rs q
theorem call_list_of : CallR X (.type "list") (fun xs H Q => ∃ p ys, xs = [.ref p] ∧ (SqL X.K H p ys ∨ SqT X.K H p ys) ∧ ∀ l, H l = none → Q (.ref l) (upd H l (.lst ys))) := by
  intro pins s σ H xs us Q I r h
  obtain ⟨p, ys, rfl, hq, q⟩ := h
  obtain ⟨u, rfl, rx⟩ := vals1 r
  cases rx
  have fin : ∀ (its : List Value), Vals ys its → ys.length ≤ sizeLine → ∀ (h' : Heap) (c' : Nat), (∀ b o', s.heap.get? b = some o' → h'.get? b = some o') →
      h'.get? s.heap.objs.size = some { cls := .type "list", dict := none, data := .seq its.toArray c', slots := #[] } → EP X pins σ Q (.ref s.heap.objs.size) { s with heap := h' } := fun its r' hz h' c' kp e =>
    ⟨.ref s.heap.objs.size, _, I.laid (t' := s.toks) kp (Nat.le_refl _) (show ObjOk X.prog X.w _ h' _ (.lst ys) from ⟨hz, its, c', r', e⟩), rfl, q _ (I.hok.fresh (Nat.le_refl _))⟩
  rcases hq with hq | hq
  · obtain ⟨its, r', pl, hz⟩ := I.list hq
    have hlen := r'.length
    obtain ⟨o, ho, hc, n, hd⟩ := pl.isList
    exact call_list_seq p (.inl rfl) ho hc hd (fun h' c' kp e => fin its r' hz h' c' kp e) (by simp only [List.size_toArray] <;> omega)
  · obtain ⟨its, r', pl, hz⟩ := I.tuple hq
    have hlen := r'.length
    obtain ⟨o, ho, hc, n, hd⟩ := pl
    exact call_list_seq p (.inr rfl) ho hc hd (fun h' c' kp e => fin its r' hz h' c' kp e) (by simp only [List.size_toArray] <;> omega)
theorem call_tuple_of : CallR X (.type "tuple") (fun xs H Q => ∃ p ys, xs = [.ref p] ∧ ((SqL X.K H p ys ∧ ∀ l, H l = none → Q (.ref l) (upd H l (.tup ys))) ∨ (SqT X.K H p ys ∧ Q (.ref p) H))) := by
  intro pins s σ H xs us Q I r h
  obtain ⟨p, ys, rfl, h⟩ := h
  obtain ⟨u, rfl, rx⟩ := vals1 r
  cases rx
  rcases h with ⟨hq, q⟩ | ⟨hq, q⟩
  · obtain ⟨its, r', pl, hz⟩ := I.list hq
    have hlen := r'.length
    refine call_tuple_list pl.isList (fun h' kp => ?_) (by simp only [List.size_toArray] <;> omega)
    have I1 : Inv X pins σ H { s with heap := h' } := I.kept (t' := s.toks) kp
    have I2 : Inv X pins σ (upd H h'.objs.size (.tup ys)) { s with heap := h'.push { cls := .type "tuple", data := .seq its.toArray } } :=
      I1.laid (t' := s.toks) (fun b o e => Heap.get?_push_of_some _ e) (Nat.le_refl _) (show ObjOk X.prog X.w _ _ _ (.tup ys) from ⟨hz, its, r', IsTup.new _ _⟩)
    exact ⟨.ref h'.objs.size, _, I2, rfl, q _ (I1.hok.fresh (Nat.le_refl _))⟩
  · obtain ⟨its, r', pl, hz⟩ := I.tuple hq
    exact call_tuple_same pl ⟨.ref p, H, I, rfl, q⟩

/-! ### the call of a builtin's method: o.m(..) -/
/-- the value is of that builtin type -/
def tyV (K : PySem.W.Frag) (T : String) (x : V) (H : Hp) : Prop := match x with
  | .str _ => T = "str"
  | .int _ => T = "int"
  | .ref p => (T = "list" ∧ ∃ xs, SqL K H p xs) ∨ (T = "tuple" ∧ ∃ o, K.lookup p = some o ∧ o.cls = .type "tuple" ∧ o.dict = none) ∨
      (T = "dict" ∧ ((∃ kvs, H p = some (.dK kvs)) ∨ ∃ kvs, H p = some (.dT kvs))) ∨ (T = "set" ∧ ∃ S n, H p = some (.set S n))
  | _ => False
theorem tyV_is {pins : List (Addr × Obj)} {σ : St} {H : Hp} {s : Shared} {T : String} {x : V} {v : Value} (I : Inv X pins σ H s) (r : RelV x v) (ty : tyV X.K T x H) :
    s.TypeIs v T ∧ ∀ a, v = .ref a → ∃ ob, s.heap.get? a = some ob ∧ ob.dict = none := by
  cases x with
  | str z =>
    obtain ⟨t, rfl⟩ := r
    cases (show T = "str" from ty)
    exact ⟨typeIs_str s z t, fun _ e => nomatch e⟩
  | int i =>
    obtain ⟨t, rfl⟩ := r
    cases (show T = "int" from ty)
    exact ⟨typeIs_int s i t, fun _ e => nomatch e⟩
  | ref p =>
    cases r
    rcases ty with ⟨rfl, xs, hq⟩ | ⟨rfl, o, hk, hc, hd⟩ | ⟨rfl, hk⟩ | ⟨rfl, S, n, hk⟩
    · obtain ⟨its, _, pl, _⟩ := I.list hq
      refine ⟨pl.isList.typeIs, fun a e => ?_⟩
      cases e
      obtain ⟨o, n, e, c, hd, _⟩ := pl
      exact ⟨o, e, hd⟩
    · refine ⟨⟨o, I.kIn p o hk, hc⟩, fun a e => ?_⟩
      cases e
      exact ⟨o, I.kIn _ o hk, hd⟩
    · have z : ∃ o, s.heap.get? p = some o ∧ o.ExactDict := by
        rcases hk with ⟨kvs, hk⟩ | ⟨kvs, hk⟩
        · obtain ⟨_, _, _, _, o, _, _, e, ex, _⟩ := I.hok p _ hk
          exact ⟨o, e, ex⟩
        · obtain ⟨_, _, _, _, o, _, _, e, ex, _⟩ := I.hok p _ hk
          exact ⟨o, e, ex⟩
      obtain ⟨o, e, ex⟩ := z
      refine ⟨⟨o, e, ex.1⟩, fun a e2 => ?_⟩
      cases e2
      exact ⟨o, e, ex.2.1⟩
    · obtain ⟨o, _, _, _, e, ex, _⟩ := I.hok p _ hk
      refine ⟨⟨o, e, ex.1⟩, fun a e2 => ?_⟩
      cases e2
      exact ⟨o, e, ex.2.1⟩
  | _ => exact False.elim ty
def tBM0 (K : PySem.W.Frag) (T : String) (r : V → List V → Hp → VK → Prop) (to : TE) : TE := fun σ H Q => to σ H fun x H1 => tyV K T x H1 ∧ r x [] H1 Q
def tBM (K : PySem.W.Frag) (T : String) (r : V → List V → Hp → VK → Prop) (to : TE) (t : TA) : TE := fun σ H Q => to σ H fun x H1 => tyV K T x H1 ∧ t σ H1 fun xs H2 => r x xs H2 Q
variable {o e : Expr} {es : List Expr} {to : TE} {t : TA} {name : Str} {apos cpos : Pos} {T id : String} {r : V → List V → Hp → VK → Prop}
theorem pe_bm0 (pa : PlainAttrs T) (slot : Slot T name id) (hty : typeOf (.builtin id) = pure (.type "method_descriptor")) (hm : MtR X id r) (ho : PE X o to)
    (hbase : attributeBase o name X.env (eval o X.env) = eval o X.env := by rfl) (hline : (apos.endLine == cpos.line) = true := by rfl) : PE X (.Call (.Attribute o name apos) [] [] cpos) (tBM0 X.K T r to) := by
  intro pins s σ H Q I h
  refine wpAny_Call_method0_late hbase hline (thn (ho pins s σ H _ I h) fun v s1 ⟨x, H1, I1, r1, ty, q1⟩ => ?_)
  obtain ⟨h1, h2⟩ := tyV_is I1 r1 ty
  exact ⟨T, id, pa, slot, hty, h1, h2, Calls.callWith_builtin rfl (PySem.evalArgs_none (hm pins s1 σ H1 x [] v [] Q I1 r1 .nil q1))⟩
theorem pe_bm (pa : PlainAttrs T) (slot : Slot T name id) (hty : typeOf (.builtin id) = pure (.type "method_descriptor")) (hm : MtR X id r) (ho : PE X o to) (ha : PA X (e :: es) t)
    (hbase : attributeBase o name X.env (eval o X.env) = eval o X.env := by rfl)
    (hfew : ((backTo cpos (starEach (e :: es) X.env)).all (fun x => !x.1) && (backToKw cpos (keywordEach [] X.env)).all (fun x => x.1.isSome)
      && decide ((e :: es).length + ([] : List Keyword).length + (if ([] : List Keyword).isEmpty then 0 else 1) < 30)) = true := by rfl)
    (hline : (apos.endLine == cpos.line) = true := by rfl) (hs : starEach (e :: es) X.env = (false, eval e X.env) :: starEach es X.env := by rfl) (hplain : (backTo cpos (starEach es X.env)).any (·.1) = false := by rfl) :
    PE X (.Call (.Attribute o name apos) (e :: es) [] cpos) (tBM X.K T r to t) := by
  intro pins s σ H Q I h
  refine wpAny_Call_method_late hbase hfew hline rfl (thn (ho pins s σ H _ I h) fun v s1 ⟨x, H1, I1, r1, ty, q1⟩ => ?_)
  obtain ⟨h1, h2⟩ := tyV_is I1 r1 ty
  refine ⟨T, id, pa, slot, hty, h1, h2, ?_⟩
  have hA := ha cpos pins s1 σ H1 _ I1 q1
  rw [hs] at hA ⊢
  refine Calls.callWith_builtin (by show (false || (backTo cpos (starEach es X.env)).any (·.1)) = false; rw [hplain] <;> rfl) (Calls.evalArgs_plain ?_)
  exact thn hA fun us s2 ⟨vs, H2, I2, r2, q2⟩ => hm pins s2 σ H2 x vs v us Q I2 r1 r2 q2
/- xs.append(e), list.index on a module's tuple .. are MtR facts of 06m -/
end
end L2

namespace L2
open PySem PySem.Spec PyProof.Rows

def MtM (X : Cx) (id : String) (r : V → List V → Hp → VK → Prop) : Prop :=
  ∀ (pins : List (Addr × Obj)) (s : Shared) (σ : St) (H : Hp) (x : V) (xs : List V) (v : Value) (us : List Value) (Q : VK), Inv X pins σ H s → RelV x v → Vals xs us → r x xs H Q →
    wpAny (model X.prog X.w) X.A (call (.builtin id) (v :: us)) (EP X pins σ Q) X.xe s

/-! ### lists of values -/
theorem Vals.one : ∀ {x : V} {us : List Value}, Vals [x] us → ∃ u, us = [u] ∧ RelV x u
  | _, _, .cons r .nil => ⟨_, rfl, r⟩
theorem Vals.two : ∀ {x y : V} {us : List Value}, Vals [x, y] us → ∃ u v, us = [u, v] ∧ RelV x u ∧ RelV y v
  | _, _, _, .cons r (.cons q .nil) => ⟨_, _, rfl, r, q⟩
theorem Vals.zero : ∀ {us : List Value}, Vals [] us → us = []
  | _, .nil => rfl
theorem Vals.dropLast {xs : List V} {us : List Value} (h : Vals xs us) : Vals xs.dropLast us.dropLast := by
  induction h with
  | nil => exact .nil
  | cons r t ih =>
    cases t with
    | nil => exact .nil
    | cons q t' => exact .cons r ih
theorem Vals.eraseIdx : ∀ {xs : List V} {us : List Value} (i : Nat), Vals xs us → Vals (xs.eraseIdx i) (us.eraseIdx i)
  | _, _, _, .nil => .nil
  | _, _, 0, .cons _ t => t
  | _, _, i + 1, .cons r t => .cons r (Vals.eraseIdx i t)
theorem Vals.reverse {xs : List V} {us : List Value} (h : Vals xs us) : Vals xs.reverse us.reverse := by
  induction h with
  | nil => exact .nil
  | cons r t ih => rw [List.reverse_cons, List.reverse_cons]; exact Vals.append ih (.cons r .nil)
theorem Vals.rep {xs : List V} {us : List Value} (h : Vals xs us) : ∀ k : Nat, Vals (List.replicate k xs).flatten (List.replicate k us).flatten
  | 0 => .nil
  | k + 1 => by
    rw [List.replicate_succ, List.replicate_succ, List.flatten_cons, List.flatten_cons]
    exact Vals.append h (Vals.rep h k)
theorem erase_last {α : Type} (l : List α) : l.eraseIdx (l.length - 1) = l.dropLast := by
  induction l with
  | nil => rfl
  | cons a r ih =>
    cases r with
    | nil => rfl
    | cons b r =>
      have e : (a :: b :: r).length - 1 = ((b :: r).length - 1) + 1 := by
        have h1 : (a :: b :: r).length = r.length + 2 := rfl
        have h2 : (b :: r).length = r.length + 1 := rfl
        omega
      rw [e, List.eraseIdx_cons_succ, ih]
      all_goals rfl
theorem len_erase {α : Type} : ∀ (l : List α) (i : Nat), (l.eraseIdx i).length ≤ l.length
  | [], _ => Nat.le_refl _
  | _ :: _, 0 => Nat.le_succ _
  | _ :: r, i + 1 => Nat.succ_le_succ (len_erase r i)
theorem foldl_rep (its : List Value) : ∀ (k : Nat) (acc : List Value),
    List.foldl (fun x1 x2 => x1 ++ x2) acc.toArray (List.replicate k its.toArray) = (acc ++ (List.replicate k its).flatten).toArray
  | 0, acc => by simp
  | k + 1, acc => by
    have e : acc.toArray ++ its.toArray = (acc ++ its).toArray := by simp
    have e2 : (acc ++ its) ++ (List.replicate k its).flatten = acc ++ (List.replicate (k + 1) its).flatten := by
      rw [List.replicate_succ, List.flatten_cons, List.append_assoc]
    rw [← e2, ← foldl_rep its k (acc ++ its), ← e, List.replicate_succ, List.foldl_cons]

section
variable {X : Cx} {pins : List (Addr × Obj)} {σ : St} {H : Hp} {s : Shared} {l b : Addr} {xs ys zs : List V}

/-! ### the two steps: a tracked list is rewritten, a new list is laid -/
theorem Inv.lset {its its' : List Value} {n : Nat} {f : Array Value → Array Value} {t' : Nat} (I : Inv X pins σ H s) (hH : H l = some (.lst xs))
    (e : s.heap.get? l = some { cls := .type "list", data := .seq its.toArray n }) (hf : f its.toArray = its'.toArray) (hv : Vals ys its') (hz : ys.length ≤ sizeLine) :
    Inv X pins σ (upd H l (.lst ys)) { s with heap := s.heap.update l (Obj.mapSeq f), toks := t' } := by
  have q := PySem.IsL.update e f
  rw [hf] at q
  refine I.write (x := l) (e := l) (by rw [hH]; exact trivial) (.inl rfl) (fun b' u hb hu => (Heap.get?_update_other s.heap (Obj.mapSeq f) (Ne.symm hb)).trans hu) ⟨_, q⟩ ?_
  exact ⟨hz, its', _, hv, q⟩
theorem Inv.lnew {its : List Value} {t' : Nat} (I : Inv X pins σ H s) (hv : Vals ys its) (hz : ys.length ≤ sizeLine) :
    Inv X pins σ (upd H s.heap.objs.size (.lst ys)) { s with heap := s.heap.push { cls := .type "list", data := .seq its.toArray }, toks := t' } :=
  I.laid (fun _ _ q => Heap.get?_push_of_some _ q) (Nat.le_refl _) ⟨hz, its, 0, hv, Heap.get?_push_size _ rfl⟩
theorem Inv.fresh (I : Inv X pins σ H s) : H s.heap.objs.size = none := I.hok.fresh (Nat.le_refl _)
theorem Inv.lstM (I : Inv X pins σ H s) (hH : H l = some (.lst xs)) : xs.length ≤ sizeLine ∧ ∃ (its : List Value) (n : Nat), Vals xs its ∧ xs.length = its.length ∧ s.heap.get? l = some { cls := .type "list", data := .seq its.toArray n } := by
  obtain ⟨z, its, n, r, e⟩ := I.hok l _ hH
  exact ⟨z, its, n, r, r.length, e⟩

theorem notLongL {n : Nat} (h : n ≤ sizeLine) : Builtin.List.listTooLong n = false := by
  unfold Builtin.List.listTooLong
  exact decide_eq_false (by omega)
end

section
variable {X : Cx}

/-! ### methods -/
def rAppend : V → List V → Hp → VK → Prop := fun x vs H Q => ∃ l xs y, x = .ref l ∧ vs = [y] ∧ H l = some (.lst xs) ∧ xs.length < sizeLine ∧ Q .non (upd H l (.lst (xs ++ [y])))
theorem mt_append : MtM X "list.append" rAppend := by
  intro pins s σ H x vs v us Q I rx rv h
  obtain ⟨l, xs, y, rfl, rfl, hH, hz, q⟩ := h
  cases rx
  obtain ⟨u, rfl, ru⟩ := rv.one
  obtain ⟨z, its, n, r, hl, e⟩ := I.lstM hH
  refine call_meets F.slot_list_append ⟨_, e, rfl⟩ F.entry_list_append (F.args_list_append_2 _ _) (PySem.list_append l its.toArray n u (by rw [List.size_toArray]; omega)) ⟨e, ?_⟩
  refine ⟨.non, _, I.lset (its' := its ++ [u]) hH e (by simp) (r.append (.cons ru .nil)) ?_, rfl, q⟩
  rw [List.length_append, List.length_singleton]
  omega

def rExtend : V → List V → Hp → VK → Prop := fun x vs H Q => ∃ l b xs zs, x = .ref l ∧ vs = [.ref b] ∧ H l = some (.lst xs) ∧ H b = some (.lst zs) ∧ xs.length + zs.length ≤ sizeLine ∧ Q .non (upd H l (.lst (xs ++ zs)))
theorem mt_extend : MtM X "list.extend" rExtend := by
  intro pins s σ H x vs v us Q I rx rv h
  obtain ⟨l, b, xs, zs, rfl, rfl, hH, hB, hz, q⟩ := h
  cases rx
  obtain ⟨u, rfl, ru⟩ := rv.one
  cases ru
  obtain ⟨z, its, n, r, hl, e⟩ := I.lstM hH
  obtain ⟨z2, its2, n2, r2, hl2, e2⟩ := I.lstM hB
  have hsz : its.toArray.size + its2.toArray.size ≤ sizeLine := by rw [List.size_toArray, List.size_toArray]; omega
  have hlong : ¬ (!its.toArray.isEmpty && Builtin.List.listTooLong (its.toArray.size + its2.toArray.size)) = true := by
    rw [notLongL hsz, Bool.and_false]
    exact Bool.false_ne_true
  refine call_meets F.slot_list_extend ⟨_, e, rfl⟩ F.entry_list_extend (F.args_list_extend_2 _ _)
    (AutoSeq1.list_extend_list_list_0 l its.toArray n b its2.toArray n2 hlong (by rw [List.size_toArray]; omega) (by omega)) ⟨e, e2, ?_⟩
  refine ⟨.non, _, I.lset (its' := its ++ its2) hH e (by simp) (r.append r2) ?_, rfl, q⟩
  rw [List.length_append]
  omega

def rPop : V → List V → Hp → VK → Prop := fun x vs H Q => ∃ l xs y, x = .ref l ∧ vs = [] ∧ H l = some (.lst xs) ∧ xs[xs.length - 1]? = some y ∧ Q y (upd H l (.lst xs.dropLast))
theorem mt_pop : MtM X "list.pop" rPop := by
  intro pins s σ H x vs v us Q I rx rv h
  obtain ⟨l, xs, y, rfl, rfl, hH, hy, q⟩ := h
  cases rx
  have hus := rv.zero
  subst hus
  obtain ⟨z, its, n, r, hl, e⟩ := I.lstM hH
  obtain ⟨u, hu, ru⟩ := r.get hy
  have hy' : its.toArray[its.toArray.size - 1]? = some u := by
    show its.toArray[its.length - 1]? = some u
    rw [← Array.getElem?_toList, ← hl]
    exact hu
  refine call_meets F.slot_list_pop ⟨_, e, rfl⟩ F.entry_list_pop (F.args_list_pop_1 _) (MeetsSeq.list_pop_last l its.toArray n u hy' (by rw [List.size_toArray]; omega)) ⟨e, ?_⟩
  refine ⟨y, _, I.lset (its' := its.dropLast) hH e ?_ r.dropLast ?_, ru, q⟩
  · show its.toArray.eraseIdxIfInBounds (its.toArray.size - 1) = its.dropLast.toArray
    rw [List.size_toArray, List.eraseIdxIfInBounds_toArray, erase_last]
  · rw [List.length_dropLast]
    omega

def rPopAt : V → List V → Hp → VK → Prop := fun x vs H Q => ∃ l xs i k y, x = .ref l ∧ vs = [.int i] ∧ H l = some (.lst xs) ∧ -(2 ^ 63) ≤ i ∧ i < 2 ^ 63 ∧ seqIndex? i xs.length = some k ∧ xs[k]? = some y ∧ Q y (upd H l (.lst (xs.eraseIdx k)))
theorem mt_popAt : MtM X "list.pop" rPopAt := by
  intro pins s σ H x vs v us Q I rx rv h
  obtain ⟨l, xs, i, k, y, rfl, rfl, hH, h1, h2, hk, hy, q⟩ := h
  cases rx
  obtain ⟨u, rfl, ru⟩ := rv.one
  obtain ⟨t, rfl⟩ := ru
  obtain ⟨z, its, n, r, hl, e⟩ := I.lstM hH
  obtain ⟨w, hw, rw'⟩ := r.get hy
  refine call_meets F.slot_list_pop ⟨_, e, rfl⟩ F.entry_list_pop (F.args_list_pop_2 _ _)
    (MeetsSeq.list_pop_at l its.toArray n i t k w (fitsIndex_both h1 h2) (by rw [List.size_toArray, ← hl]; exact hk) (by rw [← Array.getElem?_toList]; exact hw) (by rw [List.size_toArray]; omega)) ⟨e, ?_⟩
  refine ⟨y, _, I.lset (its' := its.eraseIdx k) hH e ?_ (r.eraseIdx k) ?_, rw', q⟩
  · show its.toArray.eraseIdxIfInBounds k = (its.eraseIdx k).toArray
    rw [List.eraseIdxIfInBounds_toArray]
  · have := len_erase xs k
    omega

def rReverse : V → List V → Hp → VK → Prop := fun x vs H Q => ∃ l xs, x = .ref l ∧ vs = [] ∧ H l = some (.lst xs) ∧ Q .non (upd H l (.lst xs.reverse))
theorem mt_reverse : MtM X "list.reverse" rReverse := by
  intro pins s σ H x vs v us Q I rx rv h
  obtain ⟨l, xs, rfl, rfl, hH, q⟩ := h
  cases rx
  have hus := rv.zero
  subst hus
  obtain ⟨z, its, n, r, hl, e⟩ := I.lstM hH
  refine call_meets F.slot_list_reverse ⟨_, e, rfl⟩ F.entry_list_reverse (F.args_list_reverse_1 _) (AutoSeq1.list_reverse_list_0 l its.toArray n (by rw [List.size_toArray]; omega)) ⟨e, ?_⟩
  refine ⟨.non, _, I.lset (its' := its.reverse) hH e (by simp) r.reverse ?_, rfl, q⟩
  rw [List.length_reverse]
  omega

def rClear : V → List V → Hp → VK → Prop := fun x vs H Q => ∃ l xs, x = .ref l ∧ vs = [] ∧ H l = some (.lst xs) ∧ Q .non (upd H l (.lst []))
theorem mt_clear : MtM X "list.clear" rClear := by
  intro pins s σ H x vs v us Q I rx rv h
  obtain ⟨l, xs, rfl, rfl, hH, q⟩ := h
  cases rx
  have hus := rv.zero
  subst hus
  obtain ⟨z, its, n, r, hl, e⟩ := I.lstM hH
  refine call_meets F.slot_list_clear ⟨_, e, rfl⟩ F.entry_list_clear (F.args_list_clear_1 _) (AutoSeq1.list_clear_list_0 l its.toArray n (by rw [List.size_toArray]; omega)) ⟨e, ?_⟩
  exact ⟨.non, _, I.lset (its' := []) (ys := []) hH e rfl .nil (Nat.zero_le _), rfl, q⟩

/-! ### list + list, list += list, list * int -/
def rCat : R2 := fun x y H Q => ∃ l b xs zs, x = .ref l ∧ y = .ref b ∧ H l = some (.lst xs) ∧ H b = some (.lst zs) ∧ xs.length + zs.length ≤ sizeLine ∧ ∀ p, H p = none → Q (.ref p) (upd H p (.lst (xs ++ zs)))
theorem op_cat : OpR X (binaryOp .Add) rCat := by
  intro pins s σ H x y v u Q I rx ry h
  obtain ⟨l, b, xs, zs, rfl, rfl, hH, hB, hz, q⟩ := h
  cases rx
  cases ry
  obtain ⟨z, its, n, r, hl, e⟩ := I.lstM hH
  obtain ⟨z2, its2, n2, r2, hl2, e2⟩ := I.lstM hB
  refine PySem.P.add_list e e2 ?_ (by rw [List.size_toArray, List.size_toArray]; omega)
  have ea : its.toArray ++ its2.toArray = (its ++ its2).toArray := by simp
  rw [ea]
  exact ⟨.ref _, _, I.lnew (t' := s.toks) (r.append r2) (by rw [List.length_append]; omega), rfl, q _ I.fresh⟩
/-- a list times an int (a negative one is nothing) -/
def rRep : R2 := fun x y H Q => ∃ l k xs, x = .ref l ∧ y = .int k ∧ H l = some (.lst xs) ∧ -(2 ^ 63) ≤ k ∧ k < 2 ^ 63 ∧ xs.length * k.toNat ≤ sizeLine ∧
  ∀ p, H p = none → Q (.ref p) (upd H p (.lst (List.replicate k.toNat xs).flatten))
theorem len_rep {α : Type} (xs : List α) (k : Nat) : (List.replicate k xs).flatten.length = k * xs.length := by
  induction k with
  | zero => simp
  | succ k ih => rw [List.replicate_succ, List.flatten_cons, List.length_append, ih, Nat.succ_mul, Nat.add_comm]
theorem op_rep : OpR X (binaryOp .Mult) rRep := by
  intro pins s σ H x y v u Q I rx ry h
  obtain ⟨l, k, xs, rfl, rfl, hH, h1, h2, hz, q⟩ := h
  cases rx
  obtain ⟨t, rfl⟩ := ry
  obtain ⟨z, its, n, r, hl, e⟩ := I.lstM hH
  have hlen : its.toArray.size * k.toNat ≤ sizeLine := by rw [List.size_toArray, ← hl]; exact hz
  have hcap : ¬ its.toArray.size * k.toNat > (2 ^ 63 - 1) / 8 := by
    have : (sizeLine : Nat) ≤ (2 ^ 63 - 1) / 8 := by decide
    omega
  have hfit : ¬ (!Builtin.List.listFitsIndex k) = true := by
    rw [fitsIndex_both h1 h2]
    exact Bool.false_ne_true
  have hlong : ¬ Builtin.List.listTooLong (its.toArray.size * k.toNat) = true := by
    rw [notLongL hlen]
    exact Bool.false_ne_true
  have hnew : List.foldl (fun x1 x2 => x1 ++ x2) #[] (List.replicate (if its.toArray.isEmpty = true then 0 else k.toNat) its.toArray) = (List.replicate k.toNat its).flatten.toArray := by
    have f0 : ∀ m : Nat, List.foldl (fun x1 x2 => x1 ++ x2) #[] (List.replicate m its.toArray) = (List.replicate m its).flatten.toArray := fun m => by
      have := foldl_rep its m []
      rw [List.nil_append] at this
      exact this
    rw [f0]
    cases its with
    | nil => simp
    | cons a r' => rw [if_neg (by simp)]
  refine wpAny_binaryOp_repeat_ref (T := "list") (U := "int") (by decide) ⟨_, e, rfl⟩ (fun s' => typeIs_int s' k t) noFill_list_mul F.fills_int_mul F.slot_int_rmul repeat_list F.slot_int_index.lookup
    (call_meets F.slot_int_rmul (typeIs_int s k t) F.entry_int_rmul (F.args_int_rmul_2 _ _) (int___rmul___int_list k t l its.toArray n)
      ⟨e, rfl, ⟨_, e, rfl⟩, call_meets F.slot_list_mul ⟨_, e, rfl⟩ F.entry_list_mul (F.args_list_mul_2 _ _) (AutoListH.list___mul___list_int_3 l its.toArray n k t hfit hcap hlong) ⟨e, ?_⟩⟩)
  rw [hnew]
  exact ⟨.ref _, _, I.lnew (t' := s.toks) (r.rep k.toNat) (by rw [len_rep, Nat.mul_comm]; exact hz), rfl, q _ I.fresh⟩

/-! ### del xs[i] -/
theorem del_list {pins : List (Addr × Obj)} {s : Shared} {σ : St} {H : Hp} {l : Addr} {xs : List V} {i : Int} {t : Tok} {k : Nat} {Q : Unit → Shared → Prop} (I : Inv X pins σ H s) (hH : H l = some (.lst xs))
    (h1 : -(2 ^ 63) ≤ i) (h2 : i < 2 ^ 63) (hk : seqIndex? i xs.length = some k) (h : ∀ s', Inv X pins σ (upd H l (.lst (xs.eraseIdx k))) s' → Q () s') :
    wpAny (model X.prog X.w) X.A (delItem (.ref l) (.int i t)) Q X.xe s := by
  obtain ⟨z, its, n, r, hl, e⟩ := I.lstM hH
  refine PySem.P.delItem_list (k := k) e (fitsIndex_both h1 h2) (by rw [List.size_toArray, ← hl]; exact hk) (h _ ?_) (by rw [List.size_toArray]; omega)
  refine I.lset (its' := its.eraseIdx k) (t' := s.toks) hH e ?_ (r.eraseIdx k) ?_
  · show its.toArray.eraseIdxIfInBounds k = (its.eraseIdx k).toArray
    rw [List.eraseIdxIfInBounds_toArray]
  · have := len_erase xs k
    omega
end

/-! ### xs[a:b] = ys -/
section
variable {prog : Program} {w : World} {A : Around} {E : Value → Shared → Prop} {s : Shared}
theorem splice_eq (its its2 : List Value) (a c : Nat) : its.toArray.extract 0 a ++ its2.toArray ++ its.toArray.extract c its.toArray.size = (its.take a ++ its2 ++ its.drop c).toArray := by
  apply Array.toList_inj.mp
  first
    | (simp
       exact List.take_of_length_le (by simp))
    | simp [List.take_of_length_le]
    | simp
theorem bounds_run {a c n : Nat} (hac : a ≤ c) (hc : c ≤ n) : sliceBounds (some (a : Int)) (some (c : Int)) none n = ((a : Int), (c : Int), 1) := by
  simp only [sliceBounds, Option.getD_none]
  have h1 : ¬ ((a : Int) < 0) := by omega
  have h2 : ¬ ((c : Int) < 0) := by omega
  simp only [h1, h2, if_false, show (1 : Int) > 0 by decide, if_true]
  congr 1
  · omega
  · congr 1; omega
set_option maxRecDepth 100000 in
/-- list.__setitem__ with a slice of step one and another list -/
theorem setItem_slice {l b sl : Addr} {items new : Array Value} {n n2 : Nat} {vl vu : Value} {a c : Nat} {Q : Unit → Shared → Prop}
    (e : s.heap.get? l = some { cls := .type "list", data := .seq items n }) (e2 : s.heap.get? b = some { cls := .type "list", data := .seq new n2 }) (hne : l ≠ b)
    (hs : s.heap.IsSliceOf sl vl vu .none) (pl : IsPart vl (some (a : Int))) (pu : IsPart vu (some (c : Int))) (hac : a ≤ c) (hc : c ≤ items.size)
    (hsz : items.size + new.size ≤ sizeLine) (h : Q () { s with heap := s.heap.update l (Obj.mapSeq fun xs => xs.extract 0 a ++ new ++ xs.extract c xs.size) }) :
    wpAny (model prog w) A (setItem (.ref l) (.ref sl) (.ref b)) Q E s := by
  have hl : s.heap.IsList l items := PySem.IsL.isList e
  have hb : s.heap.IsList b new := PySem.IsL.isList e2
  obtain ⟨os, hos, hcs, hds⟩ := id hs
  have hTs : s.TypeIs (.ref sl) "slice" := ⟨os, hos, hcs⟩
  have hstep : ¬ ((rawPart none == rawInt 0) = true) := Bool.false_ne_true
  have hsame : Builtin.List.listSameRef (.ref l) (.ref b) = false := by
    unfold Builtin.List.listSameRef
    exact beq_eq_false_iff_ne.mpr hne
  have hmax : (max (a : Int) (c : Int)).toNat = c := by omega
  have hz' : ((fun xs : Array Value => xs.extract 0 a ++ new ++ xs.extract c xs.size) items).size ≤ sizeLine + 1 := by
    simp only [Array.size_append, Array.size_extract]
    omega
  unfold setItem
  try with_reducible refine wpAny_holding ?_
  first | refine wpAny_bind (wpAny_pure ?_) | skip
  refine wpAny_bind (wpAny_sequenceKey hl.typeIs (by decide) ?_)
  refine wpAny_bind (wpAny_callSpecial?_slot (name := Str.ofString "__setitem__") hl.typeIs slot_list_setitem
    (wpAny_call_entry slot_list_setitem hl.typeIs entry_list_setitem ?_ (args_list_setitem _ _ _)))
  show wpAny _ _ (Builtin.List.listSubscript? (.ref sl) >>= _) _ _ s
  refine wpAny_bind ?_
  unfold Builtin.List.listSubscript?
  refine wpAny_bind (wpAny_specialOf hTs slice_no_index ?_)
  simp only [Option.isNone_none, if_true]
  refine wpAny_pure ?_
  show wpAny _ _ (typeOf (.ref sl) >>= _) _ _ s
  refine wpAny_bind (wpAny_typeOf hTs ?_)
  first
    | rw [if_neg (by decide)]
    | refine PySem.W.KFB.if_not (by decide) ?_
  rw [listSliceParts_eq]
  refine wpAny_bind (wpAny_bind (wpAny_field hos hds (x := .none) rfl (wpAny_bind (wpAny_listPart .none ?_))))
  rw [if_neg hstep]
  refine wpAny_bind (wpAny_field hos hds (x := vl) rfl (wpAny_bind (wpAny_listPart pl ?_)))
  refine wpAny_bind (wpAny_field hos hds (x := vu) rfl (wpAny_bind (wpAny_listPart pu (wpAny_pure ?_))))
  first
    | simp only [hsame, Bool.false_eq_true, if_false]
    | refine PySem.W.KFB.if_not hsame ?_
    | (dsimp only
       rw [if_neg (by rw [hsame]; exact Bool.false_ne_true)])
  refine wpAny_bind (m := Builtin.List.listAllItems (.ref b) "must assign iterable to extended slice") ?_
  unfold Builtin.List.listAllItems
  refine wpAny_bind (wpAny_typeOf hb.typeIs ?_)
  first
    | refine PySem.W.KFB.if_so (by decide) ?_
    | rw [if_pos (by decide)]
    | simp only [beq_self_eq_true, Bool.true_or, if_true]
  unfold Builtin.List.listItems
  refine wpAny_bind (wpAny_seqItems e2 rfl (wpAny_pure ?_))
  refine wpAny_bind (wpAny_bind (wpAny_seqItems e rfl (wpAny_pure ?_)))
  refine wpAny_bind (wpAny_of_eq ((sliceIndices_raw (some (a : Int)) (some (c : Int)) none items.size (by simp)).trans (congrArg (pure : Int × Int × Int → Sem (Int × Int × Int)) (bounds_run hac hc))) ?_)
  show wpAny _ _ (if ((1 : Int) == 1) = true then _ else _) _ _ s
  rw [if_pos (by decide)]
  refine wpAny_bind (wpAny_rule ?_)
  first
    | simp only [notLongL hsz, Bool.false_eq_true, if_false]
    | refine PySem.W.KFB.if_not (notLongL hsz) ?_
  first | refine wpAny_bind (wpAny_pure ?_) | skip
  show wpAny _ _ (updateSeq l (fun xs => xs.extract 0 ((a : Int)).toNat ++ new ++ xs.extract (max (a : Int) (c : Int)).toNat xs.size) >>= _) _ _ s
  rw [hmax, Int.toNat_natCast]
  refine wpAny_bind (wpAny_updateSeq (hz := Nat.le_trans (Nat.le_add_right _ _) hsz) (_hz' := hz') e rfl ?_)
  refine wpAny_bind (wpAny_letGo ?_)
  first
    | exact wpAny_bind (wpAny_pure (wpAny_pure ⟨.none, rfl, wpAny_pure h⟩))
    | exact wpAny_pure ⟨.none, rfl, wpAny_pure h⟩
end

section
variable {X : Cx}
/-- xs[a:c] = ys of another list, at the value level: sl is the slice object that was just made -/
theorem set_slice {pins : List (Addr × Obj)} {s : Shared} {σ : St} {H : Hp} {l b sl : Addr} {xs ys : List V} {a c : Int} {vl vu : Value} {Q : Unit → Shared → Prop} (I : Inv X pins σ H s)
    (hH : H l = some (.lst xs)) (hB : H b = some (.lst ys)) (hne : l ≠ b) (hs : s.heap.IsSliceOf sl vl vu .none) (ra : RelV (.int a) vl) (rc : RelV (.int c) vu) (h0 : 0 ≤ a) (hac : a ≤ c) (hc : c ≤ xs.length)
    (hz : xs.length + ys.length ≤ sizeLine) (h : ∀ s', Inv X pins σ (upd H l (.lst (xs.take a.toNat ++ ys ++ xs.drop c.toNat))) s' → Q () s') :
    wpAny (model X.prog X.w) X.A (setItem (.ref l) (.ref sl) (.ref b)) Q X.xe s := by
  obtain ⟨ta, rfl⟩ := ra
  obtain ⟨tc, rfl⟩ := rc
  obtain ⟨z, its, n, r, hl, e⟩ := I.lstM hH
  obtain ⟨z2, its2, n2, r2, hl2, e2⟩ := I.lstM hB
  obtain ⟨a', rfl⟩ := Int.eq_ofNat_of_zero_le h0
  obtain ⟨c', rfl⟩ := Int.eq_ofNat_of_zero_le (Int.le_trans h0 hac)
  simp only [Int.toNat_natCast] at h
  refine setItem_slice (a := a') (c := c') e e2 hne hs (.int _ _) (.int _ _) (by omega) (by rw [List.size_toArray]; omega) (by rw [List.size_toArray, List.size_toArray]; omega) (h _ ?_)
  refine I.lset (its' := its.take a' ++ its2 ++ its.drop c') (t' := s.toks) hH e ?_ (Vals.append (Vals.append (r.take _) r2) (r.drop _)) ?_
  · exact splice_eq its its2 a' c'
  · rw [List.length_append, List.length_append, List.length_take, List.length_drop]
    omega
end
end L2

namespace Att
open PySem PySem.W PySem.Calls PyProof.Rows

/-! ### the script -/
theorem ints_of_wellAll {P : Params} {h : Heap} : ∀ (ns : List Int) (vs : List Value), WellAll P h vs (ns.map WData.int) → IntsAre vs ns := by
  intro ns
  induction ns with
  | nil =>
    intro vs w
    rw [List.map_nil] at w
    cases w
    exact .nil
  | cons n ns ih =>
    intro vs w
    rw [List.map_cons] at w
    cases w with
    | cons a b =>
      cases a
      exact .cons _ _ (ih _ b)

theorem script_of {l : OpenLaw} {n : Nat} (hn : l.most = some n) {P : Params} {h : Heap} {args : List WData} {vals : List Value}
    (hpre : l.row.toRowW.claim.pre args = true) (hwl : WellAll P h vals args) :
    ∃ a vs ns, vals = [Value.ref a] ∧ args = [WData.list (ns.map WData.int)] ∧ h.get? a = some { cls := .type "list", data := .seq vs.toArray } ∧ IntsAre vs ns ∧ ns.length ≤ n := by
  have hsh : WShape.hasAll [] args [.list .int] = true := (pre_splitW hpre).1
  have hc : l.pre.holds [] { args := args } = true := (pre_splitW hpre).2
  obtain ⟨d, r, rfl, h1, h2⟩ := hasAllW_cons hsh
  obtain rfl := hasAllW_nil h2
  obtain ⟨xs, rfl, h3⟩ := hasW_list h1
  obtain ⟨ns, rfl⟩ := items_int h3
  have hlen : ns.length ≤ n := by
    unfold OpenLaw.pre at hc
    have h4 : (WTm.not (.lt (.lit (.int (n : Int))) (.len (.arg 0)))).holds [] { args := [.list (ns.map .int)] } = true := by
      have h4 := (holds_andW hc).1
      rw [hn] at h4
      exact h4
    have h5 := condW_of h4 (w_not (w_lt w_lit (w_len_list (w_arg rfl))))
    rw [List.length_map] at h5
    refine Nat.le_of_not_lt fun q => ?_
    have q' : (n : Int) < ((ns.length : Nat) : Int) := by omega
    first
      | (rw [decide_eq_true q'] at h5; exact absurd h5 (by decide))
      | (simp at h5; omega)
  cases hwl with
  | cons w1 w2 =>
    cases w2
    cases w1 with
    | list ho hall => exact ⟨_, _, ns, rfl, rfl, ho, ints_of_wellAll ns _ hall, hlen⟩

theorem post_true (l : OpenLaw) (args : List WData) : l.row.toRowW.claim.post args (.bool true) args = true :=
  postW_of (r := l.row.toRowW) (X := (true == true))
    (show WShape.has [] (.bool true) .bool = true by first | rfl | decide | simp [WShape.has, WShape.arms, WShape.armsAll])
    (show (WTm.eq .res (.lit (.bool true))).value [] { args := args, res := some (.bool true), after := args } = some (.bool (true == true)) from w_eq_bool (w_res rfl) w_lit) rfl

/-! ### the attachment: holds_open's last premise (the goal 'hc' behind k_head) from a wpAny of the law's body -/
theorem attach {l : OpenLaw} {n : Nat} {q : Program} {loose : List Str} {XP : (Str → Option Value) → Heap → Prop} {YP : World → Heap → Prop} {d : DefRec} {x : Str}
    (hn : l.most = some n) (hdf : d.params.defaults = [])
    (hbind : ∀ pm cd doc v : Value, bindArgs (docDef d.name d.params d.body d.scope pm cd doc) ⟨[v], []⟩ = pure [(x, v)])
    (hx : d.scope.names.lookup x = some .local ∨ d.scope.names.lookup x = some .cell)
    (hk : d.scope.kind = .function) (hco : d.scope.isCoroutine = false) (hgen : d.scope.isGenerator = false)
    (body : ∀ (w : World) (s₀ s₁ s : Shared) (mg mb : Str → Option Value) (fa : Addr) (o : Obj) (pm cd doc : Value) (a : Addr) (vs : List Value) (ns : List Int),
      Ground q loose [] XP w s₀ mg mb s₁.heap → YP w s₁.heap →
      s₁.heap.get? fa = some o → o.data = .func (docDef d.name d.params d.body d.scope pm cd doc) → s₁.heap.CodeRec cd d.name → mg d.name = some (.ref fa) →
      s₁.heap.get? a = some { cls := .type "list", data := .seq vs.toArray } → IntsAre vs ns → ns.length ≤ n →
      s.gens = #[] → s.os = s₁.os →
      Fr s₁.heap s₁.heap.objs.size s.heap (bindL (envOfC d.name d.scope s₁.heap.objs.size fa cd).kindOf [(x, .ref a)] fun _ => none) →
      Cl s₁.heap.objs.size (cellsFrom (s₁.heap.objs.size + 1) d.scope.names []) s.heap (bindC (envOfC d.name d.scope s₁.heap.objs.size fa cd).kindOf [(x, .ref a)] fun _ => none) →
      wpAny (model l.prog w) (callerA.deeper (envOfC d.name d.scope s₁.heap.objs.size fa cd)) (execs d.body (envOfC d.name d.scope s₁.heap.objs.size fa cd))
        (fun f s' => f = .ret (.bool true) ∧ OldK s₁.heap s'.heap ∧ s'.os = s₁.os ∧ AllBare s'.gens) (fun _ _ => False) s) :
    WalkO q loose XP YP l.row.toRowW d [] (fun f vs => PySem.call f vs) := by
  intro w s₀ s₁ mg mb G Y fa o pm cd doc dV kV ho hd hcd hD hmg hg args vals as hpre hlay hrd hwl hlo
  obtain rfl : dV = .none := Dflts.none hD hdf
  obtain rfl : kV = .none := Dflts.noKw hD
  obtain ⟨a, vs, ns, rfl, rfl, hobj, hints, hlen⟩ := script_of hn hpre hwl
  refine enter_call ?_
  refine call_cells_ret (o := o) (by rw [depth_caller]; decide) ho (fd_plain hd) G.T.nolimit hcd (hbind pm cd doc (.ref a)) (fun y hy => ?_) (fun h₁ tk F X => ?_) hco hgen hk
  · obtain rfl : y = (x, Value.ref a) := List.mem_singleton.mp hy
    rcases hx with e | e
    · exact .inl e
    · exact .inr ⟨e, cellsFrom_some _ _ _ (.inl e)⟩
  · refine wpAny_mono (body w s₀ s₁ { s₁ with heap := h₁, toks := tk } mg mb fa o pm cd doc a vs ns G Y ho (fd_plain hd) hcd hmg hobj hints hlen hg rfl F X) (fun f s' hq => ?_) (fun _ _ hq => hq)
    obtain ⟨rfl, h2, h3, h4⟩ := hq
    exact ⟨.inl ⟨.bool true, .bool true, [], rfl, fun _ => rfl, .bool true, post_true l _, fun _ => ⟨List.Pairwise.nil, fun _ hm => (nomatch hm)⟩⟩, h2, h3, h4⟩

/-- the same from a codeAny of the CALL (for a layer whose function contracts speak of calls) -/
theorem attach_call {l : OpenLaw} {n : Nat} {q : Program} {loose : List Str} {XP : (Str → Option Value) → Heap → Prop} {YP : World → Heap → Prop} {d : DefRec}
    (hn : l.most = some n) (hdf : d.params.defaults = [])
    (call : ∀ (w : World) (s₀ s₁ : Shared) (mg mb : Str → Option Value) (fa : Addr) (o : Obj) (pm cd doc : Value) (a : Addr) (vs : List Value) (ns : List Int),
      Ground q loose [] XP w s₀ mg mb s₁.heap → YP w s₁.heap →
      s₁.heap.get? fa = some o → o.data = .func (docDef d.name d.params d.body d.scope pm cd doc) → s₁.heap.CodeRec cd d.name → mg d.name = some (.ref fa) →
      s₁.heap.get? a = some { cls := .type "list", data := .seq vs.toArray } → IntsAre vs ns → ns.length ≤ n → s₁.gens = #[] →
      codeAny (model l.prog w) callerA (.call (.ref fa) ⟨[.ref a], []⟩) (fun r s' => r = .ok (.ret (.bool true)) ∧ OldK s₁.heap s'.heap ∧ s'.os = s₁.os ∧ AllBare s'.gens) s₁) :
    WalkO q loose XP YP l.row.toRowW d [] (fun f vs => PySem.call f vs) := by
  intro w s₀ s₁ mg mb G Y fa o pm cd doc dV kV ho hd hcd hD hmg hg args vals as hpre hlay hrd hwl hlo
  obtain rfl : dV = .none := Dflts.none hD hdf
  obtain rfl : kV = .none := Dflts.noKw hD
  obtain ⟨a, vs, ns, rfl, rfl, hobj, hints, hlen⟩ := script_of hn hpre hwl
  refine enter_call (codeAny_mono (call w s₀ s₁ mg mb fa o pm cd doc a vs ns G Y ho (fd_plain hd) hcd hmg hobj hints hlen hg) fun r s' hq => ?_)
  obtain ⟨rfl, h2, h3, h4⟩ := hq
  exact ⟨.inl ⟨.bool true, .bool true, [], rfl, fun _ => rfl, .bool true, post_true l _, fun _ => ⟨List.Pairwise.nil, fun _ hm => (nomatch hm)⟩⟩, h2, h3, h4⟩

/-- the same where the top left finished generators (o_head chose holds_openN): nothing may have changed at all and no generator may be left -/
theorem attachN {l : OpenLaw} {n : Nat} {q : Program} {loose : List Str} {XP : (Str → Option Value) → Heap → Prop} {YP : World → Heap → Prop} {d : DefRec} {x : Str}
    (hn : l.most = some n) (hdf : d.params.defaults = [])
    (hbind : ∀ pm cd doc v : Value, bindArgs (docDef d.name d.params d.body d.scope pm cd doc) ⟨[v], []⟩ = pure [(x, v)])
    (hx : d.scope.names.lookup x = some .local ∨ d.scope.names.lookup x = some .cell)
    (hk : d.scope.kind = .function) (hco : d.scope.isCoroutine = false) (hgen : d.scope.isGenerator = false)
    (body : ∀ (w : World) (s₀ s₁ s : Shared) (mg mb : Str → Option Value) (fa : Addr) (o : Obj) (pm cd doc : Value) (a : Addr) (vs : List Value) (ns : List Int),
      Ground q loose [] XP w s₀ mg mb s₁.heap → YP w s₁.heap →
      s₁.heap.get? fa = some o → o.data = .func (docDef d.name d.params d.body d.scope pm cd doc) → s₁.heap.CodeRec cd d.name → mg d.name = some (.ref fa) →
      s₁.heap.get? a = some { cls := .type "list", data := .seq vs.toArray } → IntsAre vs ns → ns.length ≤ n →
      s.gens = #[] → s.os = s₁.os →
      Fr s₁.heap s₁.heap.objs.size s.heap (bindL (envOfC d.name d.scope s₁.heap.objs.size fa cd).kindOf [(x, .ref a)] fun _ => none) →
      Cl s₁.heap.objs.size (cellsFrom (s₁.heap.objs.size + 1) d.scope.names []) s.heap (bindC (envOfC d.name d.scope s₁.heap.objs.size fa cd).kindOf [(x, .ref a)] fun _ => none) →
      wpAny (model l.prog w) (callerA.deeper (envOfC d.name d.scope s₁.heap.objs.size fa cd)) (execs d.body (envOfC d.name d.scope s₁.heap.objs.size fa cd))
        (fun f s' => f = .ret (.bool true) ∧ (∀ b o, s₁.heap.get? b = some o → s'.heap.get? b = some o) ∧ s'.os = s₁.os ∧ s'.gens = #[]) (fun _ _ => False) s) :
    WalkN q loose XP YP l.row.toRowW d [] (fun f vs => PySem.call f vs) := by
  intro w s₀ s₁ mg mb G Y fa o pm cd doc dV kV ho hd hcd hD hmg hg args vals as hpre hlay hrd hwl hlo
  obtain rfl : dV = .none := Dflts.none hD hdf
  obtain rfl : kV = .none := Dflts.noKw hD
  obtain ⟨a, vs, ns, rfl, rfl, hobj, hints, hlen⟩ := script_of hn hpre hwl
  refine enter_callW ?_
  refine call_cells_ret (o := o) (by rw [depth_caller]; decide) ho (fd_plain hd) G.T.nolimit hcd (hbind pm cd doc (.ref a)) (fun y hy => ?_) (fun h₁ tk F X => ?_) hco hgen hk
  · obtain rfl : y = (x, Value.ref a) := List.mem_singleton.mp hy
    rcases hx with e | e
    · exact .inl e
    · exact .inr ⟨e, cellsFrom_some _ _ _ (.inl e)⟩
  · refine wpAny_mono (body w s₀ s₁ { s₁ with heap := h₁, toks := tk } mg mb fa o pm cd doc a vs ns G Y ho (fd_plain hd) hcd hmg hobj hints hlen hg rfl F X) (fun f s' hq => ?_) (fun _ _ hq => hq)
    obtain ⟨rfl, h2, h3, h4⟩ := hq
    exact ⟨.inl ⟨.bool true, .bool true, [], rfl, fun _ => rfl, .bool true, post_true l _, fun _ => ⟨List.Pairwise.nil, fun _ hm => (nomatch hm)⟩⟩, h2, h3, h4⟩

/-! ### rules over ANY heap (no ledger) from facts about the written part K: the library's own take a ledger (News) for what they write -/
section
variable {prog : Program} {w : World} {A : Around} {E : Value → Shared → Prop} {s : Shared} {K : Frag}

/-- a def of the module, or a method (qual 'C.m'), entered: the frame is the next address; cells behind it -/
theorem call_fn {R : Result → Shared → Prop} {name qual : Str} {params : Arguments} {body : List Stmt} {scope : Scope} {dV kV doc pm cdv ct oc : Value} {an od : Option Addr} {osl : Array (Option Value)} {f : Addr} {args : Args} {binds : List (Str × Value)}
    (X : K.In s.heap) (hlim : s.heap.NoLimit) (ho : K.lookup f = some ⟨oc, od, .func (fnOf name qual params body scope dV kV doc pm an cdv ct), osl⟩) (hcd : codeIn K cdv qual = true) (hroom : A.depth < recursionLimit)
    (hbind : BindsTo s (fnOf name qual params body scope dV kV doc pm an cdv ct) args binds)
    (hkind : (binds.all fun y => scope.names.lookup y.1 == some .local || scope.names.lookup y.1 == some .cell) = true)
    (h : ∀ s₁, InCallC s s.heap.objs.size (bindL (envOfC qual scope s.heap.objs.size f cdv).kindOf binds fun _ => none) (cellsFrom (s.heap.objs.size + 1) scope.names [])
        (bindC (envOfC qual scope s.heap.objs.size f cdv).kindOf binds fun _ => none) s₁ →
      wpAny (model prog w) (A.deeper (envOfC qual scope s.heap.objs.size f cdv)) (execs body (envOfC qual scope s.heap.objs.size f cdv))
        (fun fl s' => R (.ok (.ret (match fl with | .ret v => v | _ => .none))) s')
        (fun e s' => wpAny (model prog w) (A.deeper (envOfC qual scope s.heap.objs.size f cdv)) (leaving (envOfC qual scope s.heap.objs.size f cdv) e) (fun _ s'' => R (.error e) s'') (fun e' s'' => R (.error e') s'') s') s₁)
    (hco : scope.isCoroutine = false) (hgen : scope.isGenerator = false) (hk : scope.kind = .function) : codeAny (model prog w) A (.call (.ref f) args) R s := by
  refine codeAny_call_function hroom (X _ _ ho) rfl hco hgen rfl (codeRec_of X hcd) (hbind _ _ _ _ ?_)
  refine wpAny_newFunctionEnv_cells hk (kindsX hkind _) fun env he s₁ x => ?_
  subst he
  exact ⟨hlim.keeps x.toInCall.keep, codeAny_func (h s₁ x)⟩

/-- C(..): dict at size, instance at size + 1, then __init__ -/
theorem make_obj {R : Result → Shared → Prop} {C fI : Addr} {rest : List Value} {kw : List (Str × Value)}
    (X : K.In s.heap) (hm : makesIn K C = true) (hi : findIn K (.ref C) "__init__" = some (some (.ref fI))) (hf : isFn K (.ref fI) = true)
    (h : codeAny (model prog w) (A.under (.builtin "type.__call__" ⟨.ref C :: rest, kw⟩)) (.call (.ref fI) ⟨.ref (s.heap.objs.size + 1) :: rest, kw⟩) (InitBack (s.heap.objs.size + 1) R)
      { s with heap := (s.heap.push emptyDict).push (instObj C s.heap.objs.size) }) : codeAny (model prog w) A (.call (.ref C) ⟨rest, kw⟩) R s := by
  obtain ⟨hh, g, d, t, os⟩ := s
  exact make_core (makes_of X hm) (looks_findIn X hi) (fun self => bind_fn X self (beq_iff_eq.mp hf)) (.inl rfl) h

/-- x.name where the instance's dict holds the name and the class does not -/
theorem get_field {x C : Addr} {ox : Obj} {es : List DictEntry} {n : Nat} {name : Str} {expr : Bool} {v : Value} {Q : Value → Shared → Prop}
    (X : K.In s.heap) (I : PySem.W.InstAt s.heap x ox C (some (dictOf es n))) (hg : plainGet K C name = true) (hh : hasDictIn K C = true) (ha : findIn K (.ref C) name = some none)
    (hl : getL name es = some (some v)) (hv : handedIn v = true) (h : Q v { s with toks := s.toks + 1 }) : wpAny (model prog w) A (getAttr (.ref x) name expr) Q E s :=
  get_value X I (plainGet_of hg).1 (findObj_own hh ha rfl hl) hv h

/-- x.m(..): the method found in the class -/
theorem get_method {x C f : Addr} {ox : Obj} {es : List DictEntry} {n : Nat} {name : Str} {pl : Sem Bool} {Q : Value × List Value → Shared → Prop}
    (X : K.In s.heap) (I : PySem.W.InstAt s.heap x ox C (some (dictOf es n))) (hg : plainGet K C name = true) (hf : findIn K (.ref C) name = some (some (.ref f))) (ht : isFn K (.ref f) = true)
    (hl : getL name es = some none) (h : Q (.ref f, [.ref x]) s) : wpAny (model prog w) A (getMethod (.ref x) name pl) Q E s :=
  method_fn X I (plainGet_of hg).1 (plainGet_of hg).2 hf (beq_iff_eq.mp ht) (by show (lookIn name (dictOf es n)).map _ = _; rw [lookIn_dict, hl]; rfl) h

/-! the whole heap as the ledger: makes every rule that writes through a ledger a rule over any heap -/
def noObjs (h : Heap) : Heap := { h with objs := #[] }
theorem noObjs_get (h : Heap) (b : Addr) : (noObjs h).get? b = none := by
  cases e : (noObjs h).get? b with
  | none => rfl
  | some o => exact absurd (Heap.lt_size e) (Nat.not_lt_zero _)
def ledger (h : Heap) (L d : Addr) : List (Addr × Obj) := (List.range h.objs.size).filterMap fun a => if a = L ∨ a = d then none else (h.get? a).map fun o => (a, o)
theorem mem_ledger {h : Heap} {L d a : Addr} {o : Obj} : (a, o) ∈ ledger h L d ↔ a ≠ L ∧ a ≠ d ∧ h.get? a = some o := by
  unfold ledger
  rw [List.mem_filterMap]
  constructor
  · rintro ⟨b, _, e⟩
    split at e
    · cases e
    · rename_i hb
      obtain ⟨o', ho, e'⟩ := Option.map_eq_some_iff.mp e
      cases e'
      exact ⟨fun q => hb (.inl q), fun q => hb (.inr q), ho⟩
  · rintro ⟨n1, n2, ho⟩
    refine ⟨a, List.mem_range.mpr (Heap.lt_size ho), ?_⟩
    rw [if_neg (show ¬ (a = L ∨ a = d) from fun q => q.elim n1 n2), ho] <;> rfl
theorem news_ledger {h : Heap} {L d : Addr} {od : Obj} (hne : d ≠ L) (ho : h.get? d = some od) : News (noObjs h) L h ([] ++ (d, od) :: ledger h L d) := by
  rintro ⟨a, o⟩ hp
  rcases List.mem_cons.mp hp with e | hp
  · cases e
    exact ⟨ho, hne, noObjs_get _ _⟩
  · obtain ⟨n1, n2, e⟩ := mem_ledger.mp hp
    exact ⟨e, n1, noObjs_get _ _⟩
theorem fr_all {h : Heap} {L : Addr} {m : Str → Option Value} (n : h.Ns L m) : Fr (noObjs h) L h m :=
  ⟨n, fun b o e => (by rw [noObjs_get] at e; cases e), Nat.zero_le _⟩
/-- Upd of the head entry (for append_K, setItem_K ..) -/
theorem upd_ledger {h : Heap} {L d : Addr} {o o' : Obj} : Upd d o o' ((d, o) :: ledger h L d) ((d, o') :: ledger h L d) :=
  .head fun ⟨_, _⟩ hp => (mem_ledger.mp hp).2.1

/-- x.name = v over any heap: L is any namespace of the heap (the frame's, say): its map stays, its object is not told; all else but the dict stays -/
theorem set_field {x C dx L : Addr} {ox : Obj} {m : Str → Option Value} {es es' : List DictEntry} {n n' : Nat} {name : Str} {v : Value} {Q : Unit → Shared → Prop}
    (X : K.In s.heap) (I : PySem.W.InstAt s.heap x ox C (some (dictOf es n))) (hd : ox.dict = some dx) (hL : s.heap.Ns L m) (hne : dx ≠ L)
    (hs : findIn K (.ref C) "__setattr__" = some (some (.builtin "object.__setattr__"))) (hp : plainOver K C = true) (ht : takerIn K C name = some none) (hh : hasDictIn K C = true) (hl : (getL name es).isSome = true)
    (e : (putL name (PyData.keyHash w.params name) (.str name (s.toks + 1)) v es, putN name es n) = (es', n')) (hz : es'.length ≤ 1000)
    (h : ∀ h' : Heap, h'.Ns L m → h'.get? dx = some (dictOf es' n') → (∀ b o, b ≠ dx → b ≠ L → s.heap.get? b = some o → h'.get? b = some o) → Q () { s with heap := h', toks := s.toks + 2 }) :
    wpAny (model prog w) A (setAttr (.ref x) name v) Q E s := by
  obtain ⟨e1, e2⟩ := Prod.mk.inj e
  have hdx : s.heap.get? dx = some (dictOf es n) := by
    have := I.dict
    rw [hd] at this
    exact this
  refine set_plain X I hs (osa_dict (s := { s with toks := s.toks + 1 }) (h₀ := noObjs s.heap) (L := L) (m := m) (od := dictOf es n) (od' := dictOf es' n') (es := es') (n := n') (pre := []) (post := ledger s.heap L dx)
    (fr_all hL) (news_ledger hne hdx) X I hd hp ht hh hl (fun _ q => nomatch q) (fun ⟨_, _⟩ q => (mem_ledger.mp q).2.1) (by rw [putName_dict, e1, e2]) rfl hz fun h' F' N' => ?_)
  exact h h' F'.ns (N'.get (List.Mem.head _)) fun b o n1 n2 ho => N'.get (List.Mem.tail _ (mem_ledger.mpr ⟨n2, n1, ho⟩))
end
end Att

namespace L2
open PySem PySem.Spec PyProof.Rows

theorem vals_ints : ∀ {vs : List Value} {ns : List Int}, IntsAre vs ns → Vals (ns.map V.int) vs
  | _, _, .nil => .nil
  | _, _, .cons n t h => .cons ⟨t, rfl⟩ (vals_ints h)

/-- nothing is tracked but the script, known to the object (or it is an object of the module) -/
def Only (H : Hp) : Prop := ∀ b, H b = none ∨ ∃ o xs, H b = some (.frz o (.lst xs))

/-- THE HEAD: the law's promise, at the heap behind the top. F, the promise of the law's def, may use that base is part of the heap (so K.In base, base.Ns mainGlobals mg stand in Mod) -/
theorem law_call {P : Program} {w : World} {K : PySem.W.Frag} {mg mb : Str → Option Value} {CX : CXT} {k : Nat} {fa a : Addr} {fd : FuncData} {x : Str} {sp : Sp} {s₁ : Shared} {vs : List Value} {ns : List Int}
    (KX : K.In s₁.heap) (hns : s₁.heap.Ns mainGlobals mg) (hb : s₁.heap.Ns builtinsNs mb) (hbb : ∀ x : Str, x ≠ "__name__" → mb x = bootBuiltins x) (hlim : s₁.heap.NoLimit) (hg : s₁.gens = #[])
    (ha : s₁.heap.get? a = some { cls := .type "list", data := .seq vs.toArray }) (hi : IntsAre vs ns) (hl : ns.length ≤ sizeLine) (hr : Room k callerA)
    (F : ∀ base : Heap, K.In base → base.Ns mainGlobals mg → FnOk P w K mg base CX k fa fd [x] sp) (hbind : ∀ (s : Shared) (u : Value), BindsTo s fd ⟨[u], []⟩ [(x, u)])
    (hsp : ∀ H : Hp, Only H → SqL K H a (ns.map V.int) → sp [.ref a] H (fun v _ => v = .bl true) fun _ _ _ => False)
    (hCX : ∀ H e s', CX [] H s₁ (fun _ _ _ => False) e s' → False) :
    codeAny (model P w) callerA (.call (.ref fa) ⟨[.ref a], []⟩) (fun r s' => r = .ok (.ret (.bool true)) ∧ OldK s₁.heap s'.heap ∧ s'.os = s₁.os ∧ AllBare s'.gens) s₁ := by
  have rv := vals_ints hi
  have lenV := hi.length
  -- from an abstract heap in which nothing but the script may be tracked
  have core : ∀ H : Hp, Only H → SqL K H a (ns.map V.int) → HOk P w H s₁.heap → (∀ b, H b ≠ none → b = a) → (H a ≠ none → K.lookup a = none) →
      codeAny (model P w) callerA (.call (.ref fa) ⟨[.ref a], []⟩) (fun r s' => r = .ok (.ret (.bool true)) ∧ OldK s₁.heap s'.heap ∧ s'.os = s₁.os ∧ AllBare s'.gens) s₁ := by
    intro H hO hS hok hA hK
    have base_of : ∀ {b : Addr} {o : Obj}, s₁.heap.get? b = some o → H b = none → (hidT s₁.heap H).get? b = some o := fun e n => hidT_get e n
    have noA : ∀ {b : Addr} {o : Obj} {es : Array DictEntry} {ep : Nat}, s₁.heap.get? b = some o → o.data = .dict es ep → H b = none := fun {b o es ep} e d => by
      cases q : H b with
      | none => rfl
      | some u =>
        have e' : b = a := hA b (by rw [q]; simp)
        subst e'
        rw [ha] at e; cases e
        have d' : Data.seq vs.toArray _ = Data.dict es ep := d
        cases d'
    have nsK : ∀ {b : Addr} {m : Str → Option Value}, s₁.heap.Ns b m → (hidT s₁.heap H).Ns b m := fun {b m} ⟨o, es, ep, e, d, r⟩ => ⟨o, es, ep, base_of e (noA e d), d, r⟩
    have hKb : K.In (hidT s₁.heap H) := fun b o e => base_of (KX b o e) (by
      cases q : H b with
      | none => rfl
      | some u =>
        have e' : b = a := hA b (by rw [q]; simp)
        subst e'
        rw [hK (by rw [q]; simp)] at e; cases e)
    have hM : Mod K mg (hidT s₁.heap H) := ⟨hKb, nsK hns, ⟨mb, nsK hb, hbb⟩, let ⟨mc, h1, h2⟩ := hlim; ⟨mc, nsK h1, h2⟩⟩
    have e0 : Env0 P w K mg (hidT s₁.heap H) callerA [] s₁ H := ⟨rfl, hM, fun b o e => of_hidT e, Nat.le_of_eq (hidT_size _ _), trivial, fun b hb => absurd (show b ∈ ([] : List Addr) from hb) (by simp), hok, .of_eq hg⟩
    refine codeAny_mono ((F _ hKb (nsK hns)).run callerA [] s₁ H ⟨[.ref a], []⟩ [.ref a] [.ref a] _ _ hr e0 (hbind s₁ (.ref a)) (.cons rfl .nil) (hsp H hO hS)) fun r s' h => ?_
    cases r with
    | error e => exact (hCX H e s' h).elim
    | ok fl =>
      cases fl with
      | next => exact False.elim h
      | brk => exact False.elim h
      | cont => exact False.elim h
      | ret u =>
        obtain ⟨v, H', os, bare, un, hok', r', q⟩ := h
        have q' : v = .bl true := q
        subst q'
        obtain rfl : u = Value.bool true := r'
        refine ⟨rfl, OldK.of_keep fun b o e => ?_, os, bare⟩
        cases q : H b with
        | none => exact un.keep b o e q (by intro z; exact absurd (show b ∈ ([] : List Addr) from z) (by simp)) (by simp)
        | some u =>
          rcases hO b with z | ⟨ob, xs, z⟩
          · rw [q] at z; cases z
          · have z2 := un.frzs b ob _ z
            obtain ⟨e1, _⟩ := hok b _ z
            obtain ⟨e2, _⟩ := hok' b _ z2
            rw [e] at e1; cases e1
            exact e2
  cases hk : K.lookup a with
  | some o =>
    -- the script is one of the module's own objects
    have e := KX a o hk
    rw [ha] at e
    cases e
    refine core (fun _ => none) (fun _ => .inl rfl) (.inr ⟨_, vs.toArray, _, hk, rfl, rfl, rfl, by rw [List.size_toArray, lenV]; exact hl, by simpa using rv⟩) (fun b u z => by have z' : (none : Option HO) = some u := z; cases z') (fun b z => absurd rfl z) fun z => absurd rfl z
  | none =>
    refine core (fun b => if b = a then some (.frz { cls := .type "list", data := .seq vs.toArray } (.lst (ns.map V.int))) else none) (fun b => ?_) (.inl (.inr ⟨{ cls := .type "list", data := .seq vs.toArray }, if_pos rfl⟩)) (fun b u z => ?_) (fun b z => ?_) fun _ => hk
    · by_cases hb : b = a
      · exact .inr ⟨_, _, if_pos hb⟩
      · exact .inl (if_neg hb)
    · by_cases hb : b = a
      · have z' := (if_pos hb).symm.trans z
        cases z'
        subst hb
        exact ⟨ha, by rw [List.length_map]; exact hl, vs, _, rv, ha⟩
      · have z' := (if_neg hb).symm.trans z
        cases z'
    · by_cases hb : b = a
      · exact hb
      · exact absurd (if_neg hb) z
end L2

namespace L2
open PySem PySem.Spec PyProof.Rows

abbrev KOf {K : PySem.W.Frag} {h : Heap} (_ : K.In h) : PySem.W.Frag := K

/-- the goal that k_head leaves (case hc), from the law's promise. F gives the function object fd (K's own) once, then the promise over every base -/
theorem walk_of {l : PySem.W.OpenLaw} {n k : Nat} {q : Program} {loose : List Str} {XP : (Str → Option Value) → Heap → Prop} {YP : World → Heap → Prop} {d : DefRec} {K : Params → PySem.W.Frag} {CX : World → CXT} {sp : World → Sp} {x : Str}
    (hn : l.most = some n) (hn2 : n ≤ sizeLine) (hdf : d.params.defaults = []) (hr : Room k callerA)
    (hY : ∀ (w : World) (h : Heap), YP w h → (K w.params).In h)
    (F : ∀ (w : World) (mg : Str → Option Value) (fa : Addr) (h : Heap), (K w.params).In h → h.Ns mainGlobals mg → mg d.name = some (.ref fa) →
      ∃ fd : FuncData, (∀ (s : Shared) (u : Value), BindsTo s fd ⟨[u], []⟩ [(x, u)]) ∧
        ∀ base : Heap, (K w.params).In base → base.Ns mainGlobals mg → FnOk l.prog w (K w.params) mg base (CX w) k fa fd [x] (sp w))
    (hsp : ∀ (w : World) (H : Hp) (a : Addr) (ns : List Int), ns.length ≤ n → Only H → SqL (K w.params) H a (ns.map V.int) → sp w [.ref a] H (fun v _ => v = .bl true) fun _ _ _ => False)
    (hCX : ∀ (w : World) (H : Hp) (s : Shared) (e : Value) (s' : Shared), CX w [] H s (fun _ _ _ => False) e s' → False) :
    PySem.W.WalkO q loose XP YP l.row.toRowW d [] (fun f vs => PySem.call f vs) := by
  refine Att.attach_call hn hdf fun w s₀ s₁ mg mb fa o pm cd doc a vs ns G Y ho hd hcd hmg hobj hints hlen hg => ?_
  have KX := hY w _ Y
  obtain ⟨fd, hb, hF⟩ := F w mg fa _ KX G.T.g hmg
  exact law_call KX G.T.g G.T.b G.T.builtins G.T.nolimit hg hobj hints (Nat.le_trans hlen hn2) hr hF hb (fun H hO hS => hsp w H a ns hlen hO hS) fun H e s' => hCX w H s₁ e s'
/-- the same where the promise hangs on the written part alone: (sp := My.sp_law), no hole under a binder -/
theorem walk_ofK {l : PySem.W.OpenLaw} {n k : Nat} {q : Program} {loose : List Str} {XP : (Str → Option Value) → Heap → Prop} {YP : World → Heap → Prop} {d : DefRec} {K : Params → PySem.W.Frag} {CX : CXT} {sp : PySem.W.Frag → Sp} {x : Str}
    (hn : l.most = some n) (hn2 : n ≤ sizeLine) (hdf : d.params.defaults = []) (hr : Room k callerA)
    (hY : ∀ (w : World) (h : Heap), YP w h → (K w.params).In h)
    (F : ∀ (w : World) (mg : Str → Option Value) (fa : Addr) (h : Heap), (K w.params).In h → h.Ns mainGlobals mg → mg d.name = some (.ref fa) →
      ∃ fd : FuncData, (∀ (s : Shared) (u : Value), BindsTo s fd ⟨[u], []⟩ [(x, u)]) ∧
        ∀ base : Heap, (K w.params).In base → base.Ns mainGlobals mg → FnOk l.prog w (K w.params) mg base CX k fa fd [x] (sp (K w.params)))
    (hsp : ∀ (K : PySem.W.Frag) (H : Hp) (a : Addr) (ns : List Int), ns.length ≤ n → Only H → SqL K H a (ns.map V.int) → sp K [.ref a] H (fun v _ => v = .bl true) fun _ _ _ => False)
    (hCX : ∀ (H : Hp) (s : Shared) (e : Value) (s' : Shared), CX [] H s (fun _ _ _ => False) e s' → False) :
    PySem.W.WalkO q loose XP YP l.row.toRowW d [] (fun f vs => PySem.call f vs) :=
  walk_of (K := K) (CX := fun _ => CX) (sp := fun w => sp (K w.params)) hn hn2 hdf hr hY F (fun w H a ns h1 h2 h3 => hsp (K w.params) H a ns h1 h2 h3) fun _ H s e s' => hCX H s e s'
end L2

/- THE LAST THEOREM (shape; LID, My.* are yours):
   My.Adr: a structure of the addresses that your layer names (classes, functions); My.Txt K t: a structure (Prop) of the equations over K;
   My.txt_mk : {K} {implicit addresses ..} (e1 : nsIn K mainGlobals "law" = some (some (.ref f))) (e2 : K.lookup f = some ⟨oc, od, .func (fnOf "law" "law" params body scope dV kV doc pm an cdv ct), sl⟩) (e3 : codeIn K cdv "law" = true) .. : ∃ t, My.Txt K t

set_option maxRecDepth 100000 in
set_option maxHeartbeats 0 in
theorem PySem.Challenge.cw_LID_holds : PySem.Challenge.rw_LID.Holds := by
  w_on; o_law; k_head; (case hw => w_witness2)
  k_fill
  refine L2.walk_of (l := PySem.Challenge.rw_LID) (n := 63) (k := 40) (x := "script") (CX := fun w => ..) (sp := fun _ => My.sp_law) rfl (by decide) rfl ⟨rfl, by decide, by decide⟩ (fun w h Y => PySem.W.kIn_of Y) ?F ?S ?C
  case F =>
    intro w mg fa h KX G hmg
    have T : ∃ t, My.Txt (L2.KOf KX) t := by
      dsimp only [L2.KOf]                          -- K must stand as «<heap const> w.params» for k_is
      refine' My.txt_mk ?e1 ?e2 ?e3 ..
      (case e1 => PySem.W.k_is)                    -- in the order: a name -> its address -> its object -> its parts
      (case e2 => PySem.W.k_is)
      ..
    obtain ⟨t, T⟩ := T
    have e0 := hmg.symm.trans (PySem.W.mg_of KX G T.law)
    cases e0                                       -- fa is the law's own address
    exact ⟨_, fun s u => .of_eq rfl, fun base kb nb => My.law_fn T kb nb⟩     -- if «.of_eq rfl» comes too early: refine' ⟨_, ?b, fun base kb nb => My.law_fn T kb nb⟩; exact fun s u => .of_eq rfl
  case S => exact fun w H a ns hl hO hS => ..
  case C => exact ..
(the tactic k_is has no namespace: write k_is) -/

/-! SHORT WORDS over the layer: a def of the text, its body, what a loop and a test want. -/
namespace L2
open PySem PySem.Spec PyProof.Rows

/-! ### the text by places -/
/-- the j-th statement of a class's body -/
def inClass (s : Stmt) (j : Nat) : Stmt := match s with
  | .ClassDef _ _ _ body _ _ _ _ _ _ _ => body.getD j (.Pass ⟨0, 0, 0, 0⟩)
  | _ => .Pass ⟨0, 0, 0, 0⟩
def defArgs (s : Stmt) : Arguments := match s with
  | .FunctionDef _ a _ _ _ _ _ _ _ _ => a
  | _ => { posonlyargs := [], args := [], vararg := none, kwonlyargs := [], kw_defaults := [], kwarg := none, defaults := [] }
def defBody (s : Stmt) : List Stmt := match s with
  | .FunctionDef _ _ b _ _ _ _ _ _ _ => b
  | _ => []
def defScope (s : Stmt) : Scope := match s with
  | .FunctionDef _ _ _ _ _ _ sc _ _ _ => sc
  | _ => { kind := .function, names := [], isGenerator := false, isCoroutine := false }

/-! ### no exception leaves a def -/
abbrev CX0 : CXT := fun _ _ _ _ _ _ => False
abbrev E0 : XK := fun _ _ _ => False
theorem pass0 {X : Cx} : Passes CX0 X E0 := fun _ _ _ _ _ _ _ h => h.elim

/-! ### a def (or method) of the text as it stands behind the top -/
structure Fun (K : PySem.W.Frag) (x qual : Str) (st : Stmt) (f : Addr) (fd : FuncData) : Prop where
  ex : ∃ (oc : Value) (od : Option Addr) (kV doc pm : Value) (an : Option Addr) (cdv ct : Value) (osl : Array (Option Value)),
    fd = PySem.W.fnOf x qual (defArgs st) (defBody st) (defScope st) .none kV doc pm an cdv ct ∧ K.lookup f = some ⟨oc, od, .func fd, osl⟩ ∧ PySem.W.codeIn K cdv qual = true
  kp : PySem.W.keepIn K (.ref f) = true
section
variable {P : Program} {w : World} {K : PySem.W.Frag} {mg : Str → Option Value} {base : Heap}
/-- THE RULE for a def: its body as a term of rules, and the reading of that term -/
theorem Fun.ok {x qual : Str} {st : Stmt} {f : Addr} {fd : FuncData} {N ps : List Str} {k : Nat} {sp : Sp} (F : Fun K x qual st f fd) (S : FnScope N ps (defScope st)) (len : ∀ vs H Q E, sp vs H Q E → vs.length = ps.length)
    (hbody : ∀ (cdv : Value) (A : Around) (outer : List Env) (s : Shared) (H : Hp) (vs : List V) (Q : VK) (E : XK), Room k (A.deeper (envOfC qual (defScope st) s.heap.objs.size f cdv)) → sp vs H Q E →
      ∃ t, PSs (cxOf CX0 P w K mg base N qual (defScope st) f cdv A outer s H E).nox (defBody st) t ∧ t { nx := fun _ H' => Q .non H', rt := Q } (start N vs) H) : FnOk P w K mg base CX0 (k + 1) f fd ps sp := by
  obtain ⟨oc, od, kV, doc, pm, an, cdv, ct, osl, rfl, lk, hcd⟩ := F.ex
  refine fn_of lk hcd S len fun A outer s H vs Q E hr hsp => ?_
  obtain ⟨t, h, q⟩ := hbody cdv A outer s H vs Q E hr hsp
  exact ⟨t, h.nox, q⟩
/-- how its arguments bind (no defaults): h is «fun _ _ _ _ _ _ us hl => match us, hl with | [_, _], _ => rfl», one _ a parameter -/
theorem Fun.binds {x qual : Str} {st : Stmt} {f : Addr} {fd : FuncData} {ps : List Str} (F : Fun K x qual st f fd)
    (h : ∀ (kV doc pm : Value) (an : Option Addr) (cdv ct : Value) (us : List Value), us.length = ps.length → bindArgs (PySem.W.fnOf x qual (defArgs st) (defBody st) (defScope st) .none kV doc pm an cdv ct) ⟨us, []⟩ = pure (ps.zip us)) : Binds K fd ps [] := by
  obtain ⟨oc, od, kV, doc, pm, an, cdv, ct, osl, rfl, lk, hcd⟩ := F.ex
  exact .all (h kV doc pm an cdv ct)
theorem fun_mk {x qual : Str} {st : Stmt} {f : Addr} {oc : Value} {od an : Option Addr} {osl : Array (Option Value)} {kV doc pm cdv ct : Value} (l : K.lookup f = some ⟨oc, od, .func (PySem.W.fnOf x qual (defArgs st) (defBody st) (defScope st) .none kV doc pm an cdv ct), osl⟩)
    (c : PySem.W.codeIn K cdv qual = true) (k : PySem.W.keepIn K (.ref f) = true) : Fun K x qual st f (PySem.W.fnOf x qual (defArgs st) (defBody st) (defScope st) .none kV doc pm an cdv ct) := ⟨⟨oc, od, kV, doc, pm, an, cdv, ct, osl, rfl, l, c⟩, k⟩
end
theorem hu_of {A : Around} {k : Nat} (hr : Room k A) : A.units + 1 < cLine := Nat.lt_of_le_of_lt (Nat.add_le_add_left (by decide : 1 ≤ 64) _) hr.units
theorem small1000 {n : Nat} (h : n ≤ 1000) : n < sizeLine := Nat.lt_of_le_of_lt h (by decide)

/-! ### expressions in short: the name that stands in the i-th slot -/
section
variable {X : Cx}
theorem pv (i : Nat) {x : Str} {pos : Pos} (hN : X.N[i]? = some x := by rfl) (hv : Vis X.env.scope x := by first | exact Or.inl rfl | exact Or.inr (Or.inl rfl) | exact Or.inr (Or.inr rfl)) (hd : (x == ("__debug__" : Str)) = false := by decide)
    (hcd : (x == ("__classdict__" : Str)) = false := by decide) : PE X (.Name x pos) (tVar i) := pe_var hN hv hd hcd
end

/-! ### tests -/
theorem iteF {A B : Prop} (h : B) : if false = true then A else B := by
  rw [if_neg Bool.false_ne_true]
  exact h
theorem iteT {A B : Prop} (h : A) : if true = true then A else B := by
  rw [if_pos rfl]
  exact h
theorem ite2 {c A B : Prop} [Decidable c] (h1 : c → A) (h2 : ¬ c → B) : if c then A else B := by
  by_cases h : c
  · rw [if_pos h]
    exact h1 h
  · rw [if_neg h]
    exact h2 h
theorem iteNS {c A B : Prop} [Decidable c] (hc : c) (h : B) : if (!decide c) = true then A else B := by
  rw [decide_eq_true hc]
  exact iteF h

/-! ### heaps -/
/-- all that was tracked is as it was -/
def Same (H H' : Hp) : Prop := ∀ b o, H b = some o → H' b = some o
theorem Same.refl (H : Hp) : Same H H := fun _ _ h => h
theorem Same.trans {H H1 H2 : Hp} (a : Same H H1) (b : Same H1 H2) : Same H H2 := fun c o h => b c o (a c o h)
theorem Same.free {H H' : Hp} (e : Same H H') {l : Addr} (h : H' l = Option.none) : H l = Option.none := by
  cases q : H l with
  | none => rfl
  | some o =>
    rw [e l o q] at h
    cases h
theorem Same.seq {K : PySem.W.Frag} {H H' : Hp} {a : Addr} {xs : List V} (e : Same H H') (h : SqL K H a xs) : SqL K H' a xs := by
  rcases h with (h | ⟨o, h⟩) | h
  · exact .inl (.inl (e _ _ h))
  · exact .inl (.inr ⟨o, e _ _ h⟩)
  · exact .inr h

end L2

set_option maxHeartbeats 1000000
/-! ### a list comprehension -/
namespace L2
open PySem PySem.Spec PyProof.Rows
section
variable {prog : Program} {w : World} {A : Around} {env : Env} {elt target iter : Expr} {ifs : List Expr} {scope : Scope} {pos : Pos} {it acc : Value}
/-- the tests of a block, one behind the other -/
abbrev testsOf (env : Env) (ifs : List Expr) : Sem Bool := forIn ifs true fun c r => (if r = true then (do let ok ← isTrue c env (eval c env); pure (ForInStep.yield ok)) else pure (ForInStep.yield r))
/-- one turn of a block: at its end `over`, else `on`; what the names' binding, the tests and the item raise is Ee's -/
abbrev OneTurn (prog : Program) (w : World) (A : Around) (env : Env) (elt target : Expr) (ifs : List Expr) (it acc : Value) (Ee : Value → Shared → Prop) (over on : Shared → Prop) : Shared → Prop :=
  wpAny (model prog w) A (pyNext it) (fun | none, s1 => over s1 | some v, s1 => wpAny (model prog w) A (letOwnedTupleGo target it v) (fun _ s2 => wpAny (model prog w) A (assign target env v) (fun _ s3 => wpAny (model prog w) A (testsOf env ifs) (fun ok s4 =>
    if ok = true then wpAny (model prog w) A (eval elt env) (fun x s5 => wpAny (model prog w) A (call (.builtin "list.append") [acc, x]) (fun _ => on) (fun _ _ => False) s5) Ee s4 else on s4) Ee s3) Ee s2) (fun _ _ => False) s1) (fun _ _ => False)
theorem comp_turnsX {R : Result → Shared → Prop} {Ee : Value → Shared → Prop} (I : Nat → Shared → Prop) (hE : ∀ x s, Ee x s → notedBy (model prog w) A env (fun x s => R (.error x) s) x s)
    (turn : ∀ n s, I n s → OneTurn prog w A env elt target ifs it acc Ee (R (.ok .next)) (fun s' => ∃ m, m < n ∧ I m s') s) (n : Nat) {s : Shared} (h : I n s) :
    codeAny (model prog w) A (.compLoop (.ListComp elt [⟨target, iter, ifs, 0⟩] scope pos) 0 it acc env) R s := by
  have none' : ∀ {Z : Value → Shared → Prop} (x : Value) (s : Shared), False → Z x s := fun _ _ z => z.elim
  refine codeAny_loop rfl I (fun k s1 h1 => ?_) n h
  change wpAny _ A ((compTurn (.ListComp elt [⟨target, iter, ifs, 0⟩] scope pos) 0 it acc env).onRaise (fun x => do noteFrame x env; theTreesLotGoes x)) _ _ s1
  refine wpAny_noted ?_
  rw [compTurn_list]
  refine wpAny_bind (wpAny_standAt (wpAny_bind (wpAny_mono (turn k s1 h1) (fun r s2 h2 => ?_) none')))
  match r, h2 with
  | none, h2 => exact wpAny_pure h2
  | some v, h2 =>
    refine wpAny_bind (wpAny_mono h2 (fun _ s3 h3 => wpAny_bind (wpAny_mono h3 (fun _ s4 h4 => wpAny_bind (wpAny_mono h4 (fun ok s5 h5 => ?_) hE)) hE)) none')
    match ok, h5 with
    | false, h5 => exact wpAny_pure ⟨rfl, h5⟩
    | true, h5 => exact wpAny_bind (wpAny_bind (wpAny_mono h5 (fun x s6 h6 => wpAny_bind (wpAny_mono h6 (fun _ s7 h7 => wpAny_pure (wpAny_pure ⟨rfl, h7⟩)) none')) hE))
theorem comp_turns {R : Result → Shared → Prop} (I : Nat → Shared → Prop) (turn : ∀ n s, I n s → OneTurn prog w A env elt target ifs it acc (fun _ _ => False) (R (.ok .next)) (fun s' => ∃ m, m < n ∧ I m s') s) (n : Nat) {s : Shared} (h : I n s) :
    codeAny (model prog w) A (.compLoop (.ListComp elt [⟨target, iter, ifs, 0⟩] scope pos) 0 it acc env) R s := comp_turnsX I (fun _ _ z => z.elim) turn n h
end

/-- the tests of a comprehension -/
def PIfs (X : Cx) (ifs : List Expr) (t : TT) : Prop :=
  ∀ (pins : List (Addr × Obj)) (s : Shared) (σ : St) (H : Hp) (Q : Bool → Hp → Prop), Inv X pins σ H s → t σ H Q →
    wpAny (model X.prog X.w) X.A (forIn ifs true fun c r => if r = true then do let ok ← isTrue c X.env (eval c X.env); pure (ForInStep.yield ok) else pure (ForInStep.yield r)) (TP X pins σ Q) X.xe s
def tYes : TT := fun _ H Q => Q true H
theorem pifs_nil {X : Cx} : PIfs X [] tYes := fun _ _ _ H _ I h => wpAny_tests_nil ⟨H, I, h⟩
theorem pifs_one {X : Cx} {c : Expr} {t : TT} (h : PT X c t) : PIfs X [c] t := fun pins s σ H Q I q => wpAny_tests_one (h pins s σ H Q I q)

/-- the block's context -/
def cxComp (X : Cx) (scope : Scope) (cl : List (Str × Addr)) (N : List Str) (C : Addr) (s : Shared) (H : Hp) (fp : List Addr) : Cx :=
  { prog := X.prog, w := X.w, K := X.K, mg := X.mg, base := X.base, A := X.A, N := N, s₀ := s, H₀ := H, env := compEnvC scope cl C X.env, outer := X.stack, stack := X.stack, ex := fp, fn := fun _ => false, calm := X.calm, pn := [], xe := fun _ _ => False }
/-- the block's names at its start: the free ones have the def's values -/
def stC (fr : List (Option Nat)) (σ : St) : St := fr.map fun o => o.bind fun i => (σ[i]?).bind id
def tCompK (fr : List (Option Nat)) (g : TG) (tt : TT) (te : TE) (σ : St) (Q : VK) (J : It) (H1 : Hp) : Prop := ∀ l, H1 l = none → ∃ W : Nat → Nat → St → Hp → Prop, (∃ m, W 0 m (stC fr σ) (upd H1 l (.lst []))) ∧ ∀ i m σ H, W i m σ H →
  (J.stop i H ∧ Q (.ref l) H) ∨ (J.go i H ∧ ∀ x H', J.yld i H x H' → g x σ H' fun σ2 H2 => tt σ2 H2 fun b H3 => if b = true then te σ2 H3 fun v H4 => ∃ xs, H4 l = some (.lst xs) ∧ xs.length < sizeLine ∧ ∃ m', m' < m ∧ W (i + 1) m' σ2 (upd H4 l (.lst (xs ++ [v])))
    else ∃ m', m' < m ∧ W (i + 1) m' σ2 H3)
def tComp (fr : List (Option Nat)) (wi : TI) (g : TG) (tt : TT) (te : TE) : TE := fun σ H Q => wi σ H (tCompK fr g tt te σ Q)
/-- what is looked up once of the written text -/
def compChk (XN : List Str) (xs sc : Scope) (N : List Str) (fr : List (Option Nat)) : Bool :=
  decide (sc.kind = .function) && decide (fr.length = N.length) && (sc.names.all fun y => !decide (y.2 = .cell)) && (sc.names.all fun y => !decide (y.2 = .local) || decide (sc.names.lookup y.1 = some .local)) &&
  (sc.names.all fun y => !decide (y.2 = .free) || (decide (xs.names.lookup y.1 = some .cell) || decide (xs.names.lookup y.1 = some .free))) &&
  ((N.zip fr).all fun p => match p.2 with | none => true | some i => decide (XN[i]? = some p.1) && decide (sc.names.lookup p.1 = some .free))
def ClOk (cells : List (Str × Addr)) : List (Str × Addr) → Prop
  | [] => True
  | p :: r => cells.lookup p.1 = some p.2 ∧ ClOk cells r
theorem ClOk.get {cells : List (Str × Addr)} : ∀ {cl : List (Str × Addr)}, ClOk cells cl → ∀ {x : Str} {c : Addr}, cl.lookup x = some c → cells.lookup x = some c
  | [], _, _, _, h => by cases h
  | (y, d) :: r, k, x, c, h => by
    rw [List.lookup_cons] at h
    cases e : x == y with
    | true =>
      rw [e] at h
      cases h
      rw [eq_of_beq e]
      exact k.1
    | false =>
      rw [e] at h
      exact ClOk.get k.2 h
def ClAll (cl : List (Str × Addr)) : List (Str × NameKind) → Prop
  | [] => True
  | p :: r => (p.2 = .free → ∃ c, cl.lookup p.1 = some c) ∧ ClAll cl r
theorem ClAll.get {cl : List (Str × Addr)} : ∀ {ns : List (Str × NameKind)}, ClAll cl ns → ∀ y ∈ ns, y.2 = .free → ∃ c, cl.lookup y.1 = some c
  | [], _, _, h => by cases h
  | p :: r, k, y, h => by
    rcases List.mem_cons.mp h with rfl | h
    · exact k.1
    · exact ClAll.get k.2 y h
theorem relabel_cell {env : Env} : ∀ {names : List (Str × NameKind)} {x : Str} {k : NameKind}, (names.map fun (n, k) => if (k == NameKind.free && env.scope.kind == .function && env.kindOf n == some .cell) then (n, NameKind.cell) else (n, k)).lookup x = some k →
    names.lookup x = some k ∨ (k = .cell ∧ names.lookup x = some .free)
  | [], _, _, h => by cases h
  | (n, k0) :: r, x, k, h => by
    have ih := @relabel_cell env r x k
    by_cases hc : (k0 == NameKind.free && env.scope.kind == .function && env.kindOf n == some .cell) = true
    · simp only [List.map_cons, if_pos hc, List.lookup_cons] at h
      rw [List.lookup_cons]
      cases e : x == n with
      | true =>
        rw [e] at h
        cases h
        simp only [Bool.and_eq_true] at hc
        have : k0 = .free := by simpa using hc.1.1
        exact .inr ⟨rfl, by rw [this]⟩
      | false => rw [e] at h; exact ih h
    · simp only [List.map_cons, if_neg hc, List.lookup_cons] at h
      rw [List.lookup_cons]
      cases e : x == n with
      | true => rw [e] at h; exact .inl h
      | false => rw [e] at h; exact ih h
theorem relabel_free {env : Env} : ∀ {names : List (Str × NameKind)} {x : Str}, names.lookup x = some .free →
    (names.map fun (n, k) => if (k == NameKind.free && env.scope.kind == .function && env.kindOf n == some .cell) then (n, NameKind.cell) else (n, k)).lookup x = some .cell ∨
    (names.map fun (n, k) => if (k == NameKind.free && env.scope.kind == .function && env.kindOf n == some .cell) then (n, NameKind.cell) else (n, k)).lookup x = some .free
  | [], _, h => by cases h
  | (n, k0) :: r, x, h => by
    have ih := @relabel_free env r x
    rw [List.lookup_cons] at h
    by_cases hc : (k0 == NameKind.free && env.scope.kind == .function && env.kindOf n == some .cell) = true
    · simp only [List.map_cons, if_pos hc, List.lookup_cons]
      cases e : x == n with
      | true => exact .inl rfl
      | false => rw [e] at h; exact ih h
    · simp only [List.map_cons, if_neg hc, List.lookup_cons]
      cases e : x == n with
      | true => rw [e] at h; exact .inr h
      | false => rw [e] at h; exact ih h

section
variable {X : Cx}
/-- a comprehension, its value told, or used ahead of its names being let go -/
theorem comp_core (N : List Str) (fr : List (Option Nat)) {elt tg iter : Expr} {ifs : List Expr} {scope : Scope} {pos fpos : Pos} {wi : TI} {g : TG} {tt : TT} {te : TE} {cl : List (Str × Addr)}
    (hc : X.calm = true) (hi : PI X tg iter wi) (hchk : compChk X.N X.env.scope scope N fr = true) (hclos : closureFor scope X.env = pure cl) (hcl : ClOk X.env.cells cl) (hall : ClAll cl scope.names)
    (hb : ∀ (C : Addr) (s : Shared) (H : Hp) (fp : List Addr), PG (cxComp X scope cl N C s H fp) tg g ∧ PIfs (cxComp X scope cl N C s H fp) ifs tt ∧ PE (cxComp X scope cl N C s H fp) elt te)
    (hs : ∀ x, foldedSetIterable iter X.env x = pure x) {pins : List (Addr × Obj)} {s : Shared} {σ : St} {H : Hp} {Q : VK} {use : Option (Value → Sem Unit)} {Qc : Value → Shared → Prop} (I : Inv X pins σ H s) (h : tComp fr wi g tt te σ H Q)
    (hfin : ∀ (l : Addr) (H' : Hp) (s' : Shared) (C : Addr), Inv X pins σ H' s' → FpOk X pins H' C → (∃ m, s'.heap.Ns C m) → Q (.ref l) H' → compPost (model X.prog X.w) X.A X.xe use Qc (.ref l) C (.ok .next) s') :
    wpAny (model X.prog X.w) X.A (comprehension (.ListComp elt [⟨tg, iter, ifs, 0⟩] scope pos) scope X.env fpos (newList []) (firstAsync [⟨tg, iter, ifs, 0⟩]) (firstIter [⟨tg, iter, ifs, 0⟩] X.env) use) Qc X.xe s := by
  simp only [compChk, Bool.and_eq_true, decide_eq_true_eq, List.all_eq_true, Bool.or_eq_true, Bool.not_eq_true', decide_eq_false_iff_not] at hchk
  obtain ⟨⟨⟨⟨⟨hkind, hlen⟩, hcell⟩, hnames⟩, hfree⟩, hfr⟩ := hchk
  have hnames' : ∀ x ∈ scope.names, x.2 = .local → scope.names.lookup x.1 = some .local := fun y hy e => (hnames y hy).resolve_left fun z => z e
  have hcell' : ∀ x ∈ scope.names, x.2 ≠ .cell := fun y hy => hcell y hy
  refine wpAny_comprehension_free (use := use) rfl hs hclos hkind hnames' (thn (hi pins s σ H _ I h) fun v s1 h1 => thn h1 fun itv s2 h2 => ?_)
  obtain ⟨it, fp, tn, J, H2, e, I2, T, st2, f2, hQ⟩ := h2
  subst e
  -- the new list, the block's own dict
  refine wpAny_newObj_type (hd := by size_fits) (wpAny_newFunctionEnv hcell' (by intro y hy; simp at hy) (fun h₁ hns hsb => ?_) hkind)
  dsimp only at hns hsb ⊢
  obtain ⟨W, ⟨m0, w0⟩, turn⟩ := hQ s2.heap.objs.size I2.fresh
  have I3 : Inv X pins σ (upd H2 s2.heap.objs.size (.lst [])) { s2 with heap := s2.heap.push { cls := .type "list", data := .seq ([] : List Value).toArray }, toks := s2.toks } := I2.lnew (its := []) .nil (Nat.zero_le _)
  generalize hh3 : s2.heap.push { cls := .type "list", dict := none, data := .seq ([] : List Value).toArray } = h3 at hns hsb ⊢
  rw [show s2.heap.push { cls := .type "list", data := .seq ([] : List Value).toArray } = h3 from hh3] at I3
  generalize hH3 : upd H2 s2.heap.objs.size (.lst []) = H3 at I3 w0
  generalize hl : s2.heap.objs.size = l at turn hH3 ⊢
  have hl3 : l < h3.objs.size := by rw [← hh3, ← hl, Heap.size_push]; exact Nat.lt_succ_self _
  generalize hs3 : ({ s2 with heap := h3, toks := s2.toks } : Shared) = s3 at I3
  have es3 : s3.heap = h3 := by rw [← hs3]
  have eos : s3.os = s2.os := by rw [← hs3]
  have egens : s3.gens = s2.gens := by rw [← hs3]
  generalize hC : h3.objs.size = C at hns hsb ⊢
  have old : ∀ b o, h3.get? b = some o → h₁.get? b = some o := fun b o e =>
    hsb.extBut b o (by rw [← hC]; exact Nat.ne_of_lt (Heap.lt_size e)) (Heap.get?_push_of_some _ e)
  have f3 : ∀ b ∈ fp, FpOk X pins H3 b := fun b hb => by
    obtain ⟨g0, g1⟩ := f2 b hb
    refine ⟨?_, g1⟩
    rw [← hH3]
    have : b ≠ l := by
      obtain ⟨o, e, _⟩ := T.obj _ _ st2 b hb
      rw [← hl]; exact Nat.ne_of_lt (Heap.lt_size e)
    rw [upd_ne this]; exact g0
  have st3 : tn 0 h₁ := T.keep _ _ _ st2 fun b hb o e => old b o (by rw [← hh3]; exact Heap.get?_push_of_some _ e)
  -- the block's context stands
  have ok : (cxComp X scope cl N C s3 H3 fp).Ok := by
    refine ⟨I3.ok.mod, ?_, I3.ok.glob, I3.ok.blt, ?_, fun x y c e1 e2 => I3.ok.inj x y c (hcl.get e1) (hcl.get e2), fun x hx => ?_, fun x c hx => (by cases hx), I3.ok.hd, I3.ok.frames, .inl rfl, fun b hb => ?_, fun b o e => ?_, ?_, fun b o e hb => ?_, fun b hb hb2 => ?_, ?_, fun b hb => ?_⟩
    · exact hkind
    · show s3.heap.objs.size ≤ C
      rw [es3, hC]; exact Nat.le_refl _
    · have hx' : (relabel scope X.env).names.lookup x = some .cell ∨ (relabel scope X.env).names.lookup x = some .free := hx
      have : scope.names.lookup x = some .free := by
        rcases hx' with z | z
        · rcases relabel_cell z with q | ⟨_, q⟩
          · exact absurd rfl (hcell' _ (PySem.mem_of_lookup q))
          · exact q
        · rcases relabel_cell z with q | ⟨q, _⟩
          · exact q
          · cases q
      exact hall.get _ (PySem.mem_of_lookup this) rfl
    · obtain ⟨g0, g1, g2, g3, g4, g5⟩ := f3 b hb
      obtain ⟨o, e, _⟩ := T.obj _ _ st2 b hb
      refine ⟨?_, fun x c e => g4 x c (hcl.get e)⟩
      show b ≠ C
      rw [← hC]
      exact Nat.ne_of_lt (Heap.lt_size (by rw [← hh3]; exact Heap.get?_push_of_some _ e))
    · have q := I3.bs b o e
      exact q
    · show X.base.objs.size ≤ s3.heap.objs.size
      exact Nat.le_trans I3.ok.bsz I3.sz
    · obtain ⟨g0, g1, g2, g3, g4, g5⟩ := f3 b hb
      rcases g3 with z | z
      · exact I3.ok.noex b o e z
      · exact absurd (Nat.lt_of_lt_of_le (Heap.lt_size e) (Nat.le_trans I3.ok.bsz z)) (Nat.lt_irrefl _)
    · obtain ⟨g0, g1, g2, g3, g4, g5⟩ := f3 b hb
      rcases List.mem_cons.mp (I3.stkSub b hb2) with z | z
      · exact g1 z
      · exact g2 z
    · show s3.heap.FunFrames X.base X.stack
      exact I3.stack
    · exact I3.stkFree b hb
  have I4 : Inv (cxComp X scope cl N C s3 H3 fp) [] (stC fr σ) H3 { s2 with heap := h₁, toks := s2.toks + ([] : List (Str × Value)).length } := by
    have hk3 : ∀ b o, s3.heap.get? b = some o → h₁.get? b = some o := fun b o e => old b o (by rw [← es3]; exact e)
    refine ⟨ok, eos.symm ▸ rfl, egens ▸ I3.bare, Un.kept hk3, ⟨_, hns, fun i x v e1 e2 e3 => ?_⟩, fun x c e => ?_, ?_, fun x c e => I3.freeC x c (hcl.get e), fun p hp => (by cases hp), I3.hok.kept hk3, ?_⟩
    · -- a free name of the block
      have e1' : N[i]? = some x := e1
      have e2' : (fr[i]?).map (fun o => o.bind fun i => (σ[i]?).bind id) = some (some v) := by
        have : (stC fr σ)[i]? = some (some v) := e2
        rw [stC, List.getElem?_map] at this
        exact this
      cases q : fr[i]? with
      | none => rw [q] at e2'; cases e2'
      | some o =>
        rw [q] at e2'
        cases o with
        | none => cases e2'
        | some j =>
          have e2'' : (σ[j]?).bind id = some v := Option.some.inj e2'
          obtain ⟨p1, p2⟩ : X.N[j]? = some x ∧ scope.names.lookup x = some .free := by
            have hz : (x, some j) ∈ N.zip fr := by
              have : (N.zip fr)[i]? = some (x, some j) := by
                rw [List.getElem?_zip_eq_some]; exact ⟨e1', q⟩
              exact List.mem_of_getElem? this
            have := hfr _ hz
            simpa using this
          have hv : X.env.scope.names.lookup x = some .cell ∨ X.env.scope.names.lookup x = some .free := by
            rcases hfree _ (PySem.mem_of_lookup p2) with z | z
            · exact absurd rfl z
            · simpa using z
          have e3' : σ[j]? = some (some v) := by
            cases q3 : σ[j]? with
            | none => rw [q3] at e2''; cases e2''
            | some w' => rw [q3] at e2''; have : w' = some v := e2''; rw [this]
          obtain ⟨m, hn, hl'⟩ := I3.loc
          obtain ⟨u, ru, lk⟩ := hl' j x v p1 e3' (.inr hv)
          refine ⟨u, ru, .inr ⟨relabel_free p2, ?_⟩⟩
          rcases lk with ⟨lk, _⟩ | ⟨_, c, ec, cc⟩
          · have lk' : X.env.scope.names.lookup x = some .local := lk
            rcases hv with z | z <;> (rw [z] at lk'; cases lk')
          · obtain ⟨c', ec'⟩ := hall.get _ (PySem.mem_of_lookup p2) rfl
            have := hcl.get ec'
            rw [ec] at this; cases this
            obtain ⟨o, ho, hd⟩ := cc
            exact ⟨c, ec', o, hk3 _ _ ho, hd⟩
    · obtain ⟨v, o, ho, hd⟩ := I3.cell x c (hcl.get e)
      exact ⟨v, o, hk3 _ _ ho, hd⟩
    · show H3 C = none
      exact I3.hok.fresh (by rw [es3, hC]; exact Nat.le_refl _)
    · show (stC fr σ).length = N.length
      rw [stC, List.length_map]; exact hlen
  obtain ⟨hg, ht, he⟩ := hb C s3 H3 fp
  have fpc : ∀ {H' : Hp}, (∀ b ∈ fp, H' b = none) → ∀ b ∈ fp, FpOk (cxComp X scope cl N C s3 H3 fp) [] H' b := fun hn b hb => by
    obtain ⟨q1, q2⟩ := ok.exf b hb
    exact ⟨hn b hb, q1, ok.exfs b hb, .inl hb, q2, fun p hp => by cases hp⟩
  -- behind the loop
  have fin : ∀ (σ' : St) (H' : Hp) (s' : Shared), Inv (cxComp X scope cl N C s3 H3 fp) [] σ' H' s' → Q (.ref l) H' → compPost (model X.prog X.w) X.A X.xe use Qc (.ref l) C (.ok .next) s' := fun σ' H' s' I' q => by
    obtain ⟨m, hn, _⟩ := I'.loc
    have nC : ∀ b o, s3.heap.get? b = some o → b ≠ C := fun b o e => by
      rw [← hC, ← es3]; exact Nat.ne_of_lt (Heap.lt_size e)
    have fC : H' C = none := I'.free
    have u := I'.base
    refine hfin l H' s' C ?_ (I3.fpOk (by rw [es3, hC]; exact Nat.le_refl _) fC) ⟨m, hn⟩ q
    refine I3.call' (s' := s') (ch := fp) I'.os ⟨fun b o e n hb hx => u.keep b o e n hb hx, fun b o e n hb hx => u.slot b o e n hb hx, u.free, fun b o e hx => u.there b o e hx, u.tups, u.frzs, u.tbls⟩ (fun b o e => I'.hok b o e) I'.bare fun b hb => ?_
    obtain ⟨g0, g1, g2, g3, g4, g5⟩ := f3 b hb
    exact ⟨g3, g1, g4, g5⟩
  have loop : codeAny (model X.prog X.w) X.A (.compLoop (.ListComp elt [⟨tg, iter, ifs, 0⟩] scope pos) 0 (.ref it) (.ref l) (compEnvC scope cl C X.env)) (compPost (model X.prog X.w) X.A X.xe use Qc (.ref l) C)
      { s2 with heap := h₁, toks := s2.toks + ([] : List (Str × Value)).length } := by
    refine comp_turns (fun n s' => ∃ i σ' H', Inv (cxComp X scope cl N C s3 H3 fp) [] σ' H' s' ∧ tn i s'.heap ∧ (∀ b ∈ fp, H' b = none) ∧ W i n σ' H') ?_ m0 ⟨0, _, H3, I4, st3, fun b hb => (f3 b hb).1, w0⟩
    rintro n s5 ⟨i, σ5, H5, I5, st5, fr5, w5⟩
    rcases turn i n σ5 H5 w5 with ⟨stop, qn⟩ | ⟨go, step⟩
    · refine thn (T.done (cxComp X scope cl N C s3 H3 fp) rfl rfl rfl hc i [] s5 σ5 H5 (fun _ _ => False) I5 (fpc fr5) st5 stop) fun r s6 ⟨hr, I6⟩ => ?_
      subst hr
      exact fin σ5 H5 s6 I6 qn
    · refine thn (T.item (cxComp X scope cl N C s3 H3 fp) rfl rfl rfl hc i [] s5 σ5 H5 (fun _ _ => False) I5 (fpc fr5) st5 go) fun r s6 ⟨u, hr, h6⟩ => ?_
      subst hr
      refine thn h6 fun _ s7 ⟨x, H7, I7, r7, y7, st7, fr7⟩ => ?_
      have I7' := I7.pinned (fpc fr7) (T.obj _ _ st7)
      refine thn (hg _ s7 σ5 H7 x u _ I7' r7 (step x H7 y7)) fun _ s8 ⟨σ8, H8, I8, q8⟩ => ?_
      have again : ∀ {σ9 : St} {H9 : Hp} {s9 : Shared}, Inv (cxComp X scope cl N C s3 H3 fp) ([] ++ pinsAt fp s7.heap) σ9 H9 s9 → (∃ m', m' < n ∧ W (i + 1) m' σ9 H9) → ∃ m, m < n ∧ ∃ i σ' H', Inv (cxComp X scope cl N C s3 H3 fp) [] σ' H' s9 ∧ tn i s9.heap ∧ (∀ b ∈ fp, H' b = none) ∧ W i m σ' H' := fun {σ9 H9 s9} I9 n9 => by
        obtain ⟨m', hm, w9⟩ := n9
        refine ⟨m', hm, i + 1, σ9, H9, I9.unpinned, T.keep _ _ _ st7 fun b hb o e => (I9.pin (b, o) (List.mem_append_right _ (List.mem_append_right _ (mem_pinsAt hb e)))).1, fun b hb => ?_, w9⟩
        obtain ⟨o, e, d⟩ := T.obj _ _ st7 b hb
        exact (I9.pin (b, o) (List.mem_append_right _ (List.mem_append_right _ (mem_pinsAt hb e)))).2.1
      refine thn (ht _ s8 σ8 H8 _ I8 q8) fun ok s9 ⟨H9, I9, q9⟩ => ?_
      cases ok with
      | false =>
        rw [if_neg Bool.false_ne_true] at q9 ⊢
        exact again I9 q9
      | true =>
        rw [if_pos rfl] at q9 ⊢
        refine thn (he _ s9 σ8 H9 _ I9 q9) fun y sa ⟨vy, Ha, Ia, ry, qa⟩ => ?_
        obtain ⟨xs, hla, hsz, n9⟩ := qa
        refine thn (mt_append _ sa σ8 Ha (.ref l) [vy] (.ref l) [y] (fun _ Hb => ∃ m', m' < n ∧ W (i + 1) m' σ8 Hb) Ia rfl (.cons ry .nil) ⟨l, xs, vy, rfl, rfl, hla, hsz, n9⟩) fun _ sb ⟨_, Hb, Ib, _, qb⟩ => ?_
        exact again Ib qb
  show codeAny (model X.prog X.w) X.A (.compStart (.ListComp elt [⟨tg, iter, ifs, 0⟩] scope pos) 0 (.ref it) (.ref l) (compEnvC scope cl C X.env)) (compPost (model X.prog X.w) X.A X.xe use Qc (.ref l) C) { s2 with heap := h₁, toks := s2.toks + ([] : List (Str × Value)).length }
  exact codeAny_compStart_list loop (T.self _ 0 _ _ _ st3 loop)
theorem pe_comp (N : List Str) (fr : List (Option Nat)) {elt tg iter : Expr} {ifs : List Expr} {scope : Scope} {pos : Pos} {wi : TI} {g : TG} {tt : TT} {te : TE} {cl : List (Str × Addr)}
    (hc : X.calm = true) (hi : PI X tg iter wi) (hchk : compChk X.N X.env.scope scope N fr = true) (hclos : closureFor scope X.env = pure cl) (hcl : ClOk X.env.cells cl) (hall : ClAll cl scope.names)
    (hb : ∀ (C : Addr) (s : Shared) (H : Hp) (fp : List Addr), PG (cxComp X scope cl N C s H fp) tg g ∧ PIfs (cxComp X scope cl N C s H fp) ifs tt ∧ PE (cxComp X scope cl N C s H fp) elt te)
    (hs : ∀ x, foldedSetIterable iter X.env x = pure x := by intro _; rfl) :
    PE X (.ListComp elt [⟨tg, iter, ifs, 0⟩] scope pos) (tComp fr wi g tt te) := by
  intro pins s σ H Q I h
  rw [eval_ListComp]
  refine comp_core N fr hc hi hchk hclos hcl hall hb hs I h fun l H' s' C I' fC ⟨m, hn⟩ q => ?_
  refine ⟨m, hn, fun h'' hs'' => ⟨.ref l, H', ?_, rfl, q⟩⟩
  obtain ⟨f0, f1, f2, f3, f4, f5⟩ := fC
  exact I'.turned (t' := s'.toks) (fun b o hb e => (hs''.2 b hb).trans e) f0 f1 f3 f4 f5
/-- name = [.. for ..] -/
theorem ps_setC (N : List Str) (fr : List (Option Nat)) {i : Nat} {x : Str} {elt tg iter : Expr} {ifs : List Expr} {scope : Scope} {cpos pos pos' : Pos} {wi : TI} {g : TG} {tt : TT} {te : TE} {cl : List (Str × Addr)}
    (hN : X.N.Nodup) (hi' : X.N[i]? = some x) (hx : Loc X.env.scope x)
    (hc : X.calm = true) (hi : PI X tg iter wi) (hchk : compChk X.N X.env.scope scope N fr = true) (hclos : closureFor scope X.env = pure cl) (hcl : ClOk X.env.cells cl) (hall : ClAll cl scope.names)
    (hb : ∀ (C : Addr) (s : Shared) (H : Hp) (fp : List Addr), PG (cxComp X scope cl N C s H fp) tg g ∧ PIfs (cxComp X scope cl N C s H fp) ifs tt ∧ PE (cxComp X scope cl N C s H fp) elt te)
    (hs : ∀ x, foldedSetIterable iter X.env x = pure x := by intro _; rfl)
    (hsw : swapsWith (.ListComp elt [⟨tg, iter, ifs, 0⟩] scope cpos) (some (.Name x pos')) pos.line X.env = pure true := by rfl)
    (hf : X.fn x = true ∨ X.env.scope.names.lookup x = some .local := by first | exact .inl rfl | exact .inr rfl | assumption) :
    PS X (.Assign [.Name x pos'] (.ListComp elt [⟨tg, iter, ifs, 0⟩] scope cpos) pos) (tAsg (tComp fr wi g tt te) (gName i)) := by
  intro pins s σ H D I h
  rw [exec_Assign_arm]
  refine wpAny_bind (wpAny_standAt ?_)
  rw [show swapsWithSole [.Name x pos'] (.ListComp elt [⟨tg, iter, ifs, 0⟩] scope cpos) pos.line X.env = pure true from hsw]
  refine wpAny_bind (wpAny_pure ?_)
  rw [if_pos rfl, arm_evalThenUse_ListComp]
  refine wpAny_bind (wpAny_bind ?_)
  have h1 : tComp fr wi g tt te σ H fun v H1 => D.nx (σ.set i (some v)) H1 := h
  refine comp_core (use := some _) N fr hc hi hchk hclos hcl hall hb hs I h1 fun l H' s' C I' fC ⟨m, hn⟩ q => ?_
  obtain ⟨f0, f1, f2, f3, f4, f5⟩ := fC
  obtain ⟨o, es, ep, ho, hd, hk, hm⟩ := hn
  have Ip : Inv X (pins ++ [(C, o)]) σ H' s' := I'.pins_of fun p hp => (List.mem_append.mp hp).elim (fun z => I'.pin p (List.mem_append_right _ z)) fun z => by
    rw [List.mem_singleton.mp z]
    exact ⟨ho, f0, f1, f2, fun v e => by rw [hd] at e; cases e⟩
  show wpAny _ _ (assignAll (.ref l) [assign (.Name x pos') X.env]) _ _ _
  rw [assignAll.eq_2]
  refine wpAny_assign_Name (store_ok Ip hN hi' hx (v := .ref l) rfl (fun s2 I2 => ?_) hf)
  have ho2 := (I2.pin (C, o) (List.mem_append_right _ (List.mem_append_right _ (List.mem_singleton_self _)))).1
  refine ⟨m, ⟨o, es, ep, ho2, hd, hk, hm⟩, fun h' hs' => wpAny_pure (wpAny_pure ⟨_, H', ?_, q⟩)⟩
  exact I2.unpinned.turned (t' := s2.toks) (fun b o hb e => (hs'.2 b hb).trans e) f0 f1 f3 f4 f5
/-- .. that names nothing of the def's own -/
def compChk0 (sc : Scope) : Bool :=
  decide (sc.kind = .function) && (sc.names.all fun y => !decide (y.2 = .cell)) && (sc.names.all fun y => !decide (y.2 = .local) || decide (sc.names.lookup y.1 = some .local)) && (sc.names.all fun y => !decide (y.2 = .free))
theorem pe_comp0 (N : List Str) {elt tg iter : Expr} {ifs : List Expr} {scope : Scope} {pos : Pos} {wi : TI} {g : TG} {tt : TT} {te : TE}
    (hc : X.calm = true) (hi : PI X tg iter wi) (hchk : compChk0 scope = true)
    (hb : ∀ (C : Addr) (s : Shared) (H : Hp) (fp : List Addr), PG (cxComp X scope [] N C s H fp) tg g ∧ PIfs (cxComp X scope [] N C s H fp) ifs tt ∧ PE (cxComp X scope [] N C s H fp) elt te)
    (hs : ∀ x, foldedSetIterable iter X.env x = pure x := by intro _; rfl) :
    PE X (.ListComp elt [⟨tg, iter, ifs, 0⟩] scope pos) (tComp (N.map fun _ => none) wi g tt te) := by
  simp only [compChk0, Bool.and_eq_true, decide_eq_true_eq, List.all_eq_true, Bool.or_eq_true, Bool.not_eq_true', decide_eq_false_iff_not] at hchk
  obtain ⟨⟨⟨hkind, hcell⟩, hnames⟩, hfree⟩ := hchk
  refine pe_comp (cl := []) N (N.map fun _ => none) hc hi ?_ (closureFor_none fun x hx => hfree x hx) trivial ?_ hb hs
  · simp only [compChk, Bool.and_eq_true, decide_eq_true_eq, List.all_eq_true, Bool.or_eq_true, Bool.not_eq_true', decide_eq_false_iff_not]
    refine ⟨⟨⟨⟨⟨hkind, by simp⟩, hcell⟩, hnames⟩, fun y hy => .inl (hfree y hy)⟩, fun p hp => ?_⟩
    have : p.2 ∈ N.map fun _ => (none : Option Nat) := (List.of_mem_zip hp).2
    obtain ⟨_, _, e⟩ := List.mem_map.mp this
    rw [← e]
  · have : ∀ ns : List (Str × NameKind), (∀ y ∈ ns, y.2 ≠ .free) → ClAll [] ns := by
      intro ns
      induction ns with
      | nil => intro _; exact trivial
      | cons p r ih => intro h; exact ⟨fun e => absurd e (h p List.mem_cons_self), ih fun y hy => h y (List.mem_cons_of_mem _ hy)⟩
    exact this _ fun y hy => hfree y hy
theorem ps_setC0 (N : List Str) {i : Nat} {x : Str} {elt tg iter : Expr} {ifs : List Expr} {scope : Scope} {cpos pos pos' : Pos} {wi : TI} {g : TG} {tt : TT} {te : TE}
    (hN : X.N.Nodup) (hi' : X.N[i]? = some x) (hx : Loc X.env.scope x)
    (hc : X.calm = true) (hi : PI X tg iter wi) (hchk : compChk0 scope = true)
    (hb : ∀ (C : Addr) (s : Shared) (H : Hp) (fp : List Addr), PG (cxComp X scope [] N C s H fp) tg g ∧ PIfs (cxComp X scope [] N C s H fp) ifs tt ∧ PE (cxComp X scope [] N C s H fp) elt te)
    (hs : ∀ x, foldedSetIterable iter X.env x = pure x := by intro _; rfl)
    (hsw : swapsWith (.ListComp elt [⟨tg, iter, ifs, 0⟩] scope cpos) (some (.Name x pos')) pos.line X.env = pure true := by rfl)
    (hf : X.fn x = true ∨ X.env.scope.names.lookup x = some .local := by first | exact .inl rfl | exact .inr rfl | assumption) :
    PS X (.Assign [.Name x pos'] (.ListComp elt [⟨tg, iter, ifs, 0⟩] scope cpos) pos) (tAsg (tComp (N.map fun _ => none) wi g tt te) (gName i)) := by
  simp only [compChk0, Bool.and_eq_true, decide_eq_true_eq, List.all_eq_true, Bool.or_eq_true, Bool.not_eq_true', decide_eq_false_iff_not] at hchk
  obtain ⟨⟨⟨hkind, hcell⟩, hnames⟩, hfree⟩ := hchk
  refine ps_setC (cl := []) N (N.map fun _ => none) hN hi' hx hc hi ?_ (closureFor_none fun x hx => hfree x hx) trivial ?_ hb hs hsw hf
  · simp only [compChk, Bool.and_eq_true, decide_eq_true_eq, List.all_eq_true, Bool.or_eq_true, Bool.not_eq_true', decide_eq_false_iff_not]
    refine ⟨⟨⟨⟨⟨hkind, by simp⟩, hcell⟩, hnames⟩, fun y hy => .inl (hfree y hy)⟩, fun p hp => ?_⟩
    have : p.2 ∈ N.map fun _ => (none : Option Nat) := (List.of_mem_zip hp).2
    obtain ⟨_, _, e⟩ := List.mem_map.mp this
    rw [← e]
  · have : ∀ ns : List (Str × NameKind), (∀ y ∈ ns, y.2 ≠ .free) → ClAll [] ns := by
      intro ns
      induction ns with
      | nil => intro _; exact trivial
      | cons p r ih => intro h; exact ⟨fun e => absurd e (h p List.mem_cons_self), ih fun y hy => h y (List.mem_cons_of_mem _ hy)⟩
    exact this _ fun y hy => hfree y hy
end
end L2

/-! my own rules over the hand layer -/
namespace L2
open PySem PySem.Spec PyProof.Rows

/-! ### a def of the module, bound to its name -/
def Def (P : Program) (w : World) (K : PySem.W.Frag) (mg : Str → Option Value) (base : Heap) (k : Nat) (x : Str) (ps : List Str) (sp : Sp) : Prop :=
  ∃ (f : Addr) (fd : FuncData), FnOk P w K mg base CX0 k f fd ps sp ∧ mg x = some (.ref f) ∧ PySem.W.keepIn K (.ref f) = true ∧ Binds K fd ps []
section
variable {X : Cx} {k : Nat} {x : Str} {ps : List Str} {sp : Sp} {e : Expr} {es : List Expr} {t : TA} {p pos : Pos}
theorem pe_fn (D : Def X.prog X.w X.K X.mg X.base k x ps sp) (hr : Room k X.A) (hg : Gl X x) (ha : PA X (e :: es) t)
    (hdb : (x == ("__debug__" : Str)) = false := by decide) (he : starEach (e :: es) X.env = (false, eval e X.env) :: starEach es X.env := by rfl) (hpl : (backTo pos (starEach es X.env)).any (·.1) = false := by rfl) :
    PE X (.Call (.Name x p) (e :: es) [] pos) (tCall sp [] E0 t) := by
  obtain ⟨f, fd, F, hm, hk, hb⟩ := D
  exact pe_call F hr hg hm hk hb .nil pass0 ha hdb he hpl
theorem pe_fn0 (D : Def X.prog X.w X.K X.mg X.base k x ps sp) (hr : Room k X.A) (hg : Gl X x)
    (hdb : (x == ("__debug__" : Str)) = false := by decide) :
    PE X (.Call (.Name x p) [] [] pos) (tCall sp [] E0 tNil) := by
  obtain ⟨f, fd, F, hm, hk, hb⟩ := D
  exact pe_call0 F hr hg hm hk hb .nil pass0 hdb
end

/-! ### the module's own numbers and texts -/
section
variable {X : Cx}
theorem pe_globI {x : Str} {i : Int} {pos : Pos} (hg : Gl X x) (hm : ∃ t, X.mg x = some (.int i t)) (hd : (x == ("__debug__" : Str)) = false := by decide) : PE X (.Name x pos) (tC (.int i)) := by
  obtain ⟨t, hm⟩ := hm
  exact pe_glob hg hm ⟨_, rfl⟩ hd
theorem pe_ty {x : Str} {T : String} {pos : Pos} (hg : Gl X x) (hm : X.mg x = none) (hv : bootBuiltins x = some (.type T)) (hn : x ≠ "__name__" := by decide) (hd : (x == ("__debug__" : Str)) = false := by decide) : PE X (.Name x pos) (tC (.ty T)) := pe_bltn hg hm hv rfl hn hd
theorem pe_globS {x z : Str} {pos : Pos} (hg : Gl X x) (hm : ∃ t, X.mg x = some (.str z t)) (hd : (x == ("__debug__" : Str)) = false := by decide) : PE X (.Name x pos) (tC (.str z)) := by
  obtain ⟨t, hm⟩ := hm
  exact pe_glob hg hm ⟨_, rfl⟩ hd
end
theorem bt_isinstance : bootBuiltins "isinstance" = some (.builtin "isinstance") := by decide +kernel
theorem bt_all : bootBuiltins "all" = some (.builtin "all") := by decide +kernel
theorem bt_any : bootBuiltins "any" = some (.builtin "any") := by decide +kernel
theorem bt_sum : bootBuiltins "sum" = some (.builtin "sum") := by decide +kernel
theorem bt_sorted : bootBuiltins "sorted" = some (.builtin "sorted") := by decide +kernel
theorem bt_len : bootBuiltins "len" = some (.builtin "len") := by decide +kernel
theorem bt_max : bootBuiltins "max" = some (.builtin "max") := by decide +kernel
theorem bt_min : bootBuiltins "min" = some (.builtin "min") := by decide +kernel
theorem bt_int : bootBuiltins "int" = some (.type "int") := by decide +kernel
theorem bt_bool : bootBuiltins "bool" = some (.type "bool") := by decide +kernel
theorem bt_str : bootBuiltins "str" = some (.type "str") := by decide +kernel
theorem bt_list : bootBuiltins "list" = some (.type "list") := by decide +kernel
theorem bt_tuple : bootBuiltins "tuple" = some (.type "tuple") := by decide +kernel
theorem bt_dict : bootBuiltins "dict" = some (.type "dict") := by decide +kernel
theorem bt_set : bootBuiltins "set" = some (.type "set") := by decide +kernel
theorem bt_range : bootBuiltins "range" = some (.type "range") := by decide +kernel
theorem bt_enumerate : bootBuiltins "enumerate" = some (.type "enumerate") := by decide +kernel
/-! ### isinstance against a built-in class -/
theorem kit_of {t c : String} {b : Bool} (h : (if (Value.type t == Value.type c) = true then some true else if PySem.W.kitMeta c = true then (fastBuiltinMro t).map (·.contains (.type c)) else none) = some b) (K : PySem.W.Frag) :
    PySem.W.kitOne K (.type t) (.type c) = some b := h
theorem kit_int_int (K : PySem.W.Frag) : PySem.W.kitOne K (.type "int") (.type "int") = some true := kit_of (by decide +kernel) K
theorem kit_int_bool (K : PySem.W.Frag) : PySem.W.kitOne K (.type "int") (.type "bool") = some false := kit_of (by decide +kernel) K
theorem kit_bool_int (K : PySem.W.Frag) : PySem.W.kitOne K (.type "bool") (.type "int") = some true := kit_of (by decide +kernel) K
theorem kit_bool_bool (K : PySem.W.Frag) : PySem.W.kitOne K (.type "bool") (.type "bool") = some true := kit_of (by decide +kernel) K
theorem kit_str_str (K : PySem.W.Frag) : PySem.W.kitOne K (.type "str") (.type "str") = some true := kit_of (by decide +kernel) K
theorem kit_list_list (K : PySem.W.Frag) : PySem.W.kitOne K (.type "list") (.type "list") = some true := kit_of (by decide +kernel) K
theorem kit_tuple_tuple (K : PySem.W.Frag) : PySem.W.kitOne K (.type "tuple") (.type "tuple") = some true := kit_of (by decide +kernel) K
section
variable {X : Cx}
def rIsi (K : PySem.W.Frag) : List V → Hp → VK → Prop := fun xs H Q => ∃ x c t b, xs = [x, .ty c] ∧ TyOf K H x t ∧ PySem.W.kitOne K t (.type c) = some b ∧ Q (.bl b) H
theorem call_isinst : CallR X (.builtin "isinstance") (rIsi X.K) := by
  intro pins s σ H xs us Q I r h
  obtain ⟨x, c, t, b, rfl, ty, e, q⟩ := h
  obtain ⟨u, v, rfl, ru, rv⟩ := vals2 r
  have ev : v = Value.type c := rv
  subst ev
  exact isinst_ok I ru ty e fun tk => ⟨.bl b, H, I.tok _, rfl, q⟩
end

/-! ### lists of plain values compared -/
def pureV : V → Bool
  | .non => true
  | .int _ => true
  | .str _ => true
  | _ => false
theorem pure_flat {x : V} (h : pureV x = true) : flatV x = true := by
  cases x <;> first | rfl | exact h
theorem pure_eq {x y : V} (hx : pureV x = true) (hy : pureV y = true) : eqV x y = decide (x = y) := by
  cases x <;> first | exact absurd (show false = true from hx) Bool.false_ne_true | skip
  all_goals (cases y <;> first | exact absurd (show false = true from hy) Bool.false_ne_true | skip)
  · rfl
  · rfl
  · rfl
  · rfl
  · exact dec_int.symm
  · rfl
  · rfl
  · rfl
  · exact dec_str.symm
theorem range_all_dec : ∀ (xs ys : List V), xs.length = ys.length → xs.all pureV = true → ys.all pureV = true →
    ((List.range xs.length).all fun i => eqV (xs.getD i .non) (ys.getD i .non)) = decide (xs = ys) := by
  intro xs
  induction xs with
  | nil =>
    intro ys hl _ _
    cases ys with
    | nil => rfl
    | cons _ _ => simp at hl
  | cons x xs ih =>
    intro ys hl hx hy
    cases ys with
    | nil => simp at hl
    | cons y ys =>
      rw [List.all_cons, Bool.and_eq_true] at hx hy
      have q := ih ys (by simpa using hl) hx.2 hy.2
      rw [List.length_cons, List.range_succ_eq_map, List.all_cons, List.all_map]
      have e0 : ((fun i => eqV ((x :: xs).getD i .non) ((y :: ys).getD i .non)) ∘ Nat.succ) = fun i => eqV (xs.getD i .non) (ys.getD i .non) := by
        funext i; simp
      rw [e0, q]
      show (eqV x y && decide (xs = ys)) = _
      rw [pure_eq hx.1 hy.1]
      by_cases h1 : x = y
      · by_cases h2 : xs = ys <;> simp [h1, h2]
      · simp [h1]
theorem all_get {xs : List V} {us : List Value} (r : Vals xs us) {j : Nat} (hj : j < us.length) : ∃ x, xs[j]? = some x ∧ RelV x us[j] := by
  have hl := r.length
  obtain ⟨u, e1, e2⟩ := r.get (i := j) (x := xs[j]'(by omega)) (by simp [show j < xs.length by omega])
  refine ⟨xs[j]'(by omega), by simp [show j < xs.length by omega], ?_⟩
  rw [List.getElem?_eq_getElem hj] at e1
  cases e1
  exact e2
section
variable {X : Cx}
theorem rc_lists {A : Around} {s : Shared} {a b : Addr} {xs ys : List V} {its its2 : List Value} (hu : A.units < cLine) (r1 : Vals xs its) (r2 : Vals ys its2) (h1 : s.heap.IsList a its.toArray) (h2 : s.heap.IsList b its2.toArray)
    (f1 : xs.all pureV = true) (f2 : ys.all pureV = true) : SeqAt.RcAt A s (.ref a) (.ref b) (decide (xs = ys)) := by
  have l1 := r1.length
  have l2 := r2.length
  by_cases hl : xs.length = ys.length
  · have q := SeqAt.RcAt.lists (A := A) (s := s) (e := fun i => eqV (xs.getD i .non) (ys.getD i .non)) h1 h2 (by simp; omega) hu (fun j g1 g2 => by
      have g1' : j < its.length := by simpa using g1
      have g2' : j < its2.length := by simpa using g2
      obtain ⟨x, e1, rx⟩ := all_get r1 g1'
      obtain ⟨y, e2, ry⟩ := all_get r2 g2'
      have p1 : pureV x = true := List.all_eq_true.mp f1 x (List.mem_of_getElem? e1)
      have p2 : pureV y = true := List.all_eq_true.mp f2 y (List.mem_of_getElem? e2)
      have := eqAt_V (A := A.in1) (s := s) rx ry (pure_flat p1) (pure_flat p2)
      simpa [List.getD, e1, e2] using this)
    have e : (its.toArray.size) = xs.length := by simp; omega
    rw [e, range_all_dec xs ys hl f1 f2] at q
    exact q
  · have e : decide (xs = ys) = false := decide_eq_false fun z => hl (by rw [z])
    rw [e]
    exact SeqAt.RcAt.lists_lengths h1 h2 (by simp; omega) hu
def rEqL (K : PySem.W.Frag) (neg : Bool) : R2 := fun x y H Q => ∃ a b xs ys, x = .ref a ∧ y = .ref b ∧ SqL K H a xs ∧ SqL K H b ys ∧ xs.all pureV = true ∧ ys.all pureV = true ∧ Q (.bl (if neg then !decide (xs = ys) else decide (xs = ys))) H
theorem op_eqD (hu : X.A.units + 1 < cLine) : OpR X (compareOp .Eq) (rEqL X.K false) := by
  intro pins s σ H x y v u Q I rx ry h
  obtain ⟨a, b, xs, ys, rfl, rfl, h1, h2, f1, f2, q⟩ := h
  cases rx
  cases ry
  obtain ⟨its, r1, p1, _⟩ := I.list h1
  obtain ⟨its2, r2, p2, _⟩ := I.list h2
  exact rc_lists (by omega) r1 r2 p1.isList p2.isList f1 f2 _ _ _ _ ⟨.bl _, H, I, rfl, q⟩
theorem rc_neLists {A : Around} {s : Shared} {a b : Addr} {xs ys : List V} {its its2 : List Value} (hu : A.units < cLine) (r1 : Vals xs its) (r2 : Vals ys its2) (h1 : s.heap.IsList a its.toArray) (h2 : s.heap.IsList b its2.toArray)
    (f1 : xs.all pureV = true) (f2 : ys.all pureV = true) : SeqAt.RcNeAt A s (.ref a) (.ref b) (!decide (xs = ys)) := by
  have l1 := r1.length
  have l2 := r2.length
  by_cases hl : xs.length = ys.length
  · have q := SeqAt.RcNeAt.lists (A := A) (s := s) (e := fun i => eqV (xs.getD i .non) (ys.getD i .non)) h1 h2 (by simp; omega) hu (fun j g1 g2 => by
      have g1' : j < its.length := by simpa using g1
      have g2' : j < its2.length := by simpa using g2
      obtain ⟨x, e1, rx⟩ := all_get r1 g1'
      obtain ⟨y, e2, ry⟩ := all_get r2 g2'
      have p1 : pureV x = true := List.all_eq_true.mp f1 x (List.mem_of_getElem? e1)
      have p2 : pureV y = true := List.all_eq_true.mp f2 y (List.mem_of_getElem? e2)
      have := eqAt_V (A := A.in1) (s := s) rx ry (pure_flat p1) (pure_flat p2)
      simpa [List.getD, e1, e2] using this)
    have e : (its.toArray.size) = xs.length := by simp; omega
    rw [e, range_all_dec xs ys hl f1 f2] at q
    exact q
  · have e : decide (xs = ys) = false := decide_eq_false fun z => hl (by rw [z])
    rw [e]
    exact SeqAt.RcNeAt.lists_lengths h1 h2 (by simp; omega) hu
theorem op_neD (hu : X.A.units + 1 < cLine) : OpR X (compareOp .NotEq) (rEqL X.K true) := by
  intro pins s σ H x y v u Q I rx ry h
  obtain ⟨a, b, xs, ys, rfl, rfl, h1, h2, f1, f2, q⟩ := h
  cases rx
  cases ry
  obtain ⟨its, r1, p1, _⟩ := I.list h1
  obtain ⟨its2, r2, p2, _⟩ := I.list h2
  exact rc_neLists (by omega) r1 r2 p1.isList p2.isList f1 f2 _ _ _ _ ⟨.bl _, H, I, rfl, q⟩
theorem all_pure_int (ns : List Int) : (ns.map V.int).all pureV = true := by simp [List.all_map, Function.comp_def, pureV]
theorem all_pure_str (ns : List Str) : (ns.map V.str).all pureV = true := by simp [List.all_map, Function.comp_def, pureV]
end

/-! ### all, any, sum of a list -/
theorem boolsAre_of : ∀ {bs : List Bool} {us : List Value}, Vals (bs.map V.bl) us → LSm.BoolsAre us bs
  | [], _, .nil => .nil
  | b :: bs, _, .cons r t => by
    have e : _ = Value.bool b := r
    subst e
    exact .cons b (boolsAre_of t)
section
variable {prog : Program} {w : World} {A : Around} {E : Value → Shared → Prop} {s : Shared} {l : Addr} {vs : List Value}
theorem all_kept {bs : List Bool} {Q : Value → Shared → Prop} (hh : A.handled = none) (hl : s.heap.IsList l vs.toArray) (hb : LSm.BoolsAre vs bs)
    (h : ∀ h' tk, (∀ b o, s.heap.get? b = some o → h'.get? b = some o) → Q (.bool (bs.all id)) { s with heap := h', toks := tk }) : wpAny (model prog w) A (call (.builtin "all") [.ref l]) Q E s := by
  have below : l < s.heap.objs.size := (fun ⟨_, e, _⟩ => Heap.lt_size e : s.heap.IsList l vs.toArray → _) hl
  have whole : ((List.range vs.toArray.size).all fun i => (bs[i]?).getD true) = bs.all id := by rw [List.size_toArray, hb.length, LSm.range_all]
  exact call_all_walk (wpAny_pyIter_list hl ⟨s.heap.objs.size, [s.heap.objs.size, l], [s.heap.objs.size], vs.toArray.size, _, _, fun i => (bs[i]?).getD true, rfl, Walks.list (A := A.in1) hh _ l (Nat.ne_of_lt below) vs.toArray, ⟨⟨_, Heap.get?_push_size _ rfl, rfl, rfl⟩, hl.push _⟩,
    (fun i v s' Q' E' hP hQ => by
      obtain ⟨b, hg, hv⟩ := hb.get i v (by simpa using hP)
      have hQ' : Q' b s' := by simpa [hg] using hQ
      subst hv
      exact wpAny_truthy_bool hQ'),
    fun h' tk hk => whole ▸ h h' tk (LSm.kept_iter hk)⟩)
end
section
variable {X : Cx}
theorem call_all (hc : X.calm = true) : CallR X (.builtin "all") (fun xs H Q => ∃ (a : Addr) (bs : List Bool), xs = [.ref a] ∧ SqL X.K H a (bs.map V.bl) ∧ Q (.bl (bs.all id)) H) := by
  intro pins s σ H xs us Q I r h
  obtain ⟨a, bs, rfl, h1, q⟩ := h
  obtain ⟨u, rfl, ru⟩ := vals1 r
  cases ru
  obtain ⟨its, r1, p1, _⟩ := I.list h1
  exact all_kept (I.ok.hd hc) p1.isList (boolsAre_of r1) fun h' tk hk => ⟨.bl _, H, I.kept hk, rfl, q⟩
theorem call_sum (hc : X.calm = true) : CallR X (.builtin "sum") (fun xs H Q => ∃ (a : Addr) (ns : List Int), xs = [.ref a] ∧ SqL X.K H a (ns.map V.int) ∧ Q (.int ns.sum) H) := by
  intro pins s σ H xs us Q I r h
  obtain ⟨a, ns, rfl, h1, q⟩ := h
  obtain ⟨u, rfl, ru⟩ := vals1 r
  cases ru
  obtain ⟨its, r1, p1, _⟩ := I.list h1
  have hi := intsAre_of r1
  obtain ⟨zs, hz⟩ := hi.allInts.items
  have due : preSum (numAt zs) zs.size = ns.sum := by
    have : zs.toList.map (·.1) = ns := by rw [← nums_intItems, ← hz]; exact hi.numsOf
    rw [← this, preSum_eq, List.take_of_length_le (by simp)]
  exact sum_intListG (I.ok.hd hc) (hz ▸ p1.isList) fun h' tk t' hk => ⟨.int ns.sum, H, I.kept hk, ⟨_, by rw [due]⟩, q⟩
/-- list + list, of any that are read -/
def rCatS (K : PySem.W.Frag) : R2 := fun x y H Q => ∃ l b xs zs, x = .ref l ∧ y = .ref b ∧ SqL K H l xs ∧ SqL K H b zs ∧ xs.length + zs.length ≤ sizeLine ∧ ∀ p, H p = none → Q (.ref p) (upd H p (.lst (xs ++ zs)))
theorem op_catS : OpR X (binaryOp .Add) (rCatS X.K) := by
  intro pins s σ H x y v u Q I rx ry h
  obtain ⟨l, b, xs, zs, rfl, rfl, h1, h2, hz, q⟩ := h
  cases rx
  cases ry
  obtain ⟨its, r, p1, _⟩ := I.list h1
  obtain ⟨its2, r2, p2, _⟩ := I.list h2
  have l1 := r.length
  have l2 := r2.length
  obtain ⟨⟨cls, dd, data, sl⟩, ho, hc, n, hd⟩ := id p1.isList
  obtain ⟨⟨cls2, dd2, data2, sl2⟩, ho2, hc2, n2, hd2⟩ := id p2.isList
  simp only at hc hd hc2 hd2
  subst hc hd hc2 hd2
  have e : its.toArray ++ its2.toArray = (its ++ its2).toArray := by simp
  refine concat_meets ⟨_, ho, rfl⟩ ⟨_, ho2, rfl⟩ noFill_list_add seq_list_add PySem.F.slot_list_add PySem.F.entry_list_add (PySem.F.args_list_add_2 _ _) (list_addW l b its.toArray its2.toArray n n2 dd dd2 sl sl2 (by rw [List.size_toArray, List.size_toArray]; omega)) ⟨ho, ho2, ?_⟩
  rw [e]
  exact ⟨.ref _, _, I.lnew (t' := s.toks) (r.append r2) (by rw [List.length_append]; omega), rfl, q _ I.fresh⟩
end

/-! ### short words for readings -/
theorem same_new {H : Hp} {p : Addr} (h : H p = none) (o : HO) : Same H (upd H p o) := fun b u q => by rw [upd_ne (ne_of_none q h)]; exact q
theorem same_upd {H H' : Hp} {p : Addr} (s : Same H H') (h : H p = none) (o : HO) : Same H (upd H' p o) := fun b u q => by rw [upd_ne (ne_of_none q h)]; exact s b u q
theorem Same.get {H H' : Hp} {a : Addr} {o : HO} (s : Same H H') (h : H a = some o) : H' a = some o := s a o h
theorem sizeLine_big : 1000000 ≤ sizeLine := by decide
theorem small {n : Nat} (h : n ≤ 1000000) : n ≤ sizeLine := Nat.le_trans h sizeLine_big
theorem smallLt {n : Nat} (h : n < 1000000) : n < sizeLine := Nat.lt_of_lt_of_le h sizeLine_big
theorem map_get {ns : List Int} {i : Nat} {y : V} (h : (ns.map V.int)[i]? = some y) : ∃ z, y = V.int z ∧ ns[i]? = some z := by
  rw [List.getElem?_map] at h
  cases e : ns[i]? with
  | none => rw [e] at h; cases h
  | some z => rw [e] at h; exact ⟨z, (Option.some.inj h).symm, rfl⟩
theorem at_int {ns : List Int} {i : Int} (h0 : 0 ≤ i) (h1 : i < ns.length) : atI (ns.map V.int) i = some (.int (ns.getD i.toNat 0)) := by
  have hk : i.toNat < ns.length := by omega
  have ek : i = ((i.toNat : Nat) : Int) := by omega
  have q : atI (ns.map V.int) ((i.toNat : Nat) : Int) = some (.int (ns.getD i.toNat 0)) := atI_nat (by rw [List.getElem?_map, List.getElem?_eq_getElem hk]; simp [List.getD, List.getElem?_eq_getElem hk])
  rw [← ek] at q
  exact q
theorem cut_lo {xs : List V} {i : Int} (h : 0 ≤ i) : cutV xs (some i) none = xs.drop i.toNat := by
  unfold cutV
  rw [show i = ((i.toNat : Nat) : Int) by omega, HT.sIx_nat, HT.sIx_none, Int.toNat_natCast]
  by_cases hl : i.toNat ≤ xs.length
  · rw [Nat.min_eq_left hl, List.take_of_length_le (by rw [List.length_drop]; exact Nat.le_refl _)]
  · rw [Nat.min_eq_right (by omega), List.drop_eq_nil_of_le (Nat.le_refl _), List.drop_eq_nil_of_le (by omega), List.take_nil]
theorem cut_hi {xs : List V} {j : Int} (h : 0 ≤ j) : cutV xs none (some j) = xs.take j.toNat := by
  unfold cutV
  rw [show j = ((j.toNat : Nat) : Int) by omega, HT.sIx_nat, HT.sIx_none, Int.toNat_natCast, List.drop_zero, Nat.sub_zero]
  by_cases hl : j.toNat ≤ xs.length
  · rw [Nat.min_eq_left hl]
  · rw [Nat.min_eq_right (by omega), List.take_of_length_le (Nat.le_refl _), List.take_of_length_le (by omega)]
theorem cut_lohi {xs : List V} {i j : Int} (hi : 0 ≤ i) (hj : 0 ≤ j) : cutV xs (some i) (some j) = (xs.drop i.toNat).take (j.toNat - i.toNat) := by
  unfold cutV
  rw [show i = ((i.toNat : Nat) : Int) by omega, show j = ((j.toNat : Nat) : Int) by omega, HT.sIx_nat, HT.sIx_nat, Int.toNat_natCast, Int.toNat_natCast]
  generalize i.toNat = a
  generalize j.toNat = b
  apply List.ext_getElem?
  intro k
  rw [List.getElem?_take, List.getElem?_take, List.getElem?_drop, List.getElem?_drop]
  by_cases ha : a ≤ xs.length
  · rw [Nat.min_eq_left ha]
    by_cases hb : b ≤ xs.length
    · rw [Nat.min_eq_left hb]
    · rw [Nat.min_eq_right (by omega)]
      by_cases h1 : k < xs.length - a
      · rw [if_pos h1, if_pos (by omega)]
      · rw [if_neg h1]
        split
        · rw [List.getElem?_eq_none (by omega)]
        · rfl
  · rw [Nat.min_eq_right (show xs.length ≤ a by omega)]
    rw [List.getElem?_eq_none (by omega), List.getElem?_eq_none (by omega)]
    split <;> split <;> rfl
theorem cut_ints (ns : List Int) (lo hi : Option Int) : ∃ ms : List Int, cutV (ns.map V.int) lo hi = ms.map V.int ∧ ms.length ≤ ns.length ∧ ∀ x ∈ ms, x ∈ ns := by
  refine ⟨(ns.drop (HT.sIx (ns.map V.int).length 0 lo)).take (HT.sIx (ns.map V.int).length (ns.map V.int).length hi - HT.sIx (ns.map V.int).length 0 lo), ?_, ?_, fun x hx => List.mem_of_mem_drop (List.mem_of_mem_take hx)⟩
  · unfold cutV; rw [List.map_take, List.map_drop]
  · rw [List.length_take, List.length_drop]; omega
theorem iteFc {c : Bool} {A B : Prop} (h : c = false) (b : B) : if c = true then A else B := by
  subst h
  rw [if_neg Bool.false_ne_true]
  exact b
theorem iteTc {c : Bool} {A B : Prop} (h : c = true) (b : A) : if c = true then A else B := by
  subst h
  rw [if_pos rfl]
  exact b
theorem dec_true {c : Prop} [Decidable c] (h : decide c = true) : c := of_decide_eq_true h
theorem dec_false {c : Prop} [Decidable c] (h : ¬ decide c = true) : ¬ c := fun z => h (decide_eq_true z)
/-- tests that leave the heap as it is -/
theorem tOr_p {t u : TT} {σ : St} {H : Hp} {Q : Bool → Hp → Prop} (c d : Bool) (ht : ∀ R : Bool → Hp → Prop, R c H → t σ H R) (hu : c = false → ∀ R : Bool → Hp → Prop, R d H → u σ H R) (q : Q (c || d) H) : tOr t u σ H Q := by
  refine ht _ ?_
  cases c with
  | true => rw [if_pos rfl]; exact q
  | false => rw [if_neg Bool.false_ne_true]; exact hu rfl _ q
theorem tAnd_p {t u : TT} {σ : St} {H : Hp} {Q : Bool → Hp → Prop} (c d : Bool) (ht : ∀ R : Bool → Hp → Prop, R c H → t σ H R) (hu : c = true → ∀ R : Bool → Hp → Prop, R d H → u σ H R) (q : Q (c && d) H) : tAnd t u σ H Q := by
  refine ht _ ?_
  cases c with
  | false => rw [if_neg Bool.false_ne_true]; exact q
  | true => rw [if_pos rfl]; exact hu rfl _ q
/-- what a loop walks is a list of values that stays -/
def ItIs (J : It) (H : Hp) (xs : List V) : Prop := ∀ H', Same H H' → ∀ i : Nat, (i < xs.length → J.go i H') ∧ (∀ x H'', J.yld i H' x H'' → H'' = H' ∧ (i < xs.length → xs[i]? = some x)) ∧ (xs.length ≤ i → J.stop i H')
theorem itIs_list {K : PySem.W.Frag} {a : Addr} {H : Hp} {xs : List V} (h : SqL K H a xs) : ItIs (Itl K a) H xs := fun H' s i =>
  ⟨fun hi => ⟨xs, xs[i], s.seq h, by simp [hi]⟩, fun x H'' y => ⟨y.1, fun _ => y.2 xs (s.seq h)⟩, fun hi => ⟨xs, s.seq h, hi⟩⟩
theorem itIs_range {lo : Int} {n : Nat} {H : Hp} : ItIs (Itr lo n) H ((List.range n).map fun (i : Nat) => V.int (lo + (i : Int))) := fun H' s i =>
  ⟨fun hi => (by simpa using hi : i < n), fun x H'' y => ⟨y.1, fun hi => by
    have hi' : i < n := by simpa using hi
    rw [List.getElem?_map, List.getElem?_range hi', y.2]; rfl⟩, fun hi => (by simpa using hi : n ≤ i)⟩
/-- [f(x) for x in ..]: each item new, nothing else turned -/
theorem comp_map {J : It} {xs : List V} {fr : List (Option Nat)} {k : Nat} {te : TE} {Q : VK} {σ : St} {H : Hp} (f : V → V) (hJ : ItIs J H xs) (hn : xs.length ≤ 1000000)
    (helt : ∀ (x : V) (H' : Hp) (R : VK), x ∈ xs → Same H H' → (∀ H'', Same H' H'' → R (f x) H'') → te ((stC fr σ).set k (some x)) H' R)
    (hQ : ∀ l H', H l = none → Same H H' → H' l = some (.lst (xs.map f)) → Q (.ref l) H') :
    tCompK fr (gName k) tYes te σ Q J H := by
  intro l hl
  refine ⟨fun i m σ' H' => m = xs.length - i ∧ i ≤ xs.length ∧ (∀ y, σ'.set k y = (stC fr σ).set k y) ∧ Same H H' ∧ H' l = some (.lst ((xs.take i).map f)), ⟨xs.length, by simp, Nat.zero_le _, fun _ => rfl, same_new hl _, by rw [upd_same, List.take_zero, List.map_nil]⟩, ?_⟩
  rintro i m σ' H' ⟨rfl, hi, hσ, hs, hl'⟩
  obtain ⟨h1, h2, h3⟩ := hJ H' hs i
  by_cases hlt : i < xs.length
  · refine .inr ⟨h1 hlt, fun x H'' y => ?_⟩
    obtain ⟨rfl, hx⟩ := h2 x H'' y
    have hx := hx hlt
    show te (σ'.set k (some x)) H'' _
    rw [hσ]
    refine helt x H'' _ (List.mem_of_getElem? hx) hs fun H4 s4 => ?_
    refine ⟨_, s4.get hl', smallLt (by rw [List.length_map, List.length_take]; omega), xs.length - (i + 1), by omega, rfl, hlt, fun y => by rw [List.set_set], same_upd (hs.trans s4) hl _, ?_⟩
    rw [upd_same, List.take_add_one, hx]
    simp
  · have e : i = xs.length := by omega
    subst e
    exact .inl ⟨h3 (Nat.le_refl _), hQ l H' hl hs (by rw [hl', List.take_of_length_le (Nat.le_refl _)])⟩
theorem tComp_map {J : It} {xs : List V} {fr : List (Option Nat)} {wi : TI} {k : Nat} {te : TE} {Q : VK} {σ : St} {H H1 : Hp} (f : V → V) (hJ : ItIs J H1 xs) (hw : ∀ R : It → Hp → Prop, R J H1 → wi σ H R) (hn : xs.length ≤ 1000000)
    (helt : ∀ (x : V) (H' : Hp) (R : VK), x ∈ xs → Same H1 H' → (∀ H'', Same H' H'' → R (f x) H'') → te ((stC fr σ).set k (some x)) H' R)
    (hQ : ∀ l H', H1 l = none → Same H1 H' → H' l = some (.lst (xs.map f)) → Q (.ref l) H') : tComp fr wi (gName k) tYes te σ H Q := hw _ (comp_map f hJ hn helt hQ)
/-! ### the rules that speak of the module's part, for a comprehension's block -/
section
variable {X : Cx} {K : PySem.W.Frag}
theorem ix_listK (h : X.K = K) : IxR X (rIxL K) := by subst h; exact ix_list
theorem ix_tupK (h : X.K = K) : IxR X (rIxT K) := by subst h; exact ix_tup
theorem call_isinstK (h : X.K = K) : CallR X (.builtin "isinstance") (rIsi K) := by subst h; exact call_isinst
theorem call_len_seqK (h : X.K = K) : CallR X (.builtin "len") (fun xs H Q => ∃ p ys, xs = [.ref p] ∧ (SqL K H p ys ∨ SqT K H p ys) ∧ Q (.int ys.length) H) := by subst h; exact call_len_seq
end
/-- [f(x) for x in .. if p(x)] -/
theorem comp_filter {J : It} {xs : List V} {fr : List (Option Nat)} {k : Nat} {tt : TT} {te : TE} {Q : VK} {σ : St} {H : Hp} (p : V → Bool) (f : V → V) (hJ : ItIs J H xs) (hn : xs.length ≤ 1000000)
    (htest : ∀ (x : V) (H' : Hp) (R : Bool → Hp → Prop), x ∈ xs → Same H H' → R (p x) H' → tt ((stC fr σ).set k (some x)) H' R)
    (helt : ∀ (x : V) (H' : Hp) (R : VK), x ∈ xs → p x = true → Same H H' → (∀ H'', Same H' H'' → R (f x) H'') → te ((stC fr σ).set k (some x)) H' R)
    (hQ : ∀ l H', H l = none → Same H H' → H' l = some (.lst ((xs.filter p).map f)) → Q (.ref l) H') : tCompK fr (gName k) tt te σ Q J H := by
  intro l hl
  refine ⟨fun i m σ' H' => m = xs.length - i ∧ i ≤ xs.length ∧ (∀ y, σ'.set k y = (stC fr σ).set k y) ∧ Same H H' ∧ H' l = some (.lst (((xs.take i).filter p).map f)), ⟨xs.length, by simp, Nat.zero_le _, fun _ => rfl, same_new hl _, by rw [upd_same]; rfl⟩, ?_⟩
  rintro i m σ' H' ⟨rfl, hi, hσ, hs, hl'⟩
  obtain ⟨h1, h2, h3⟩ := hJ H' hs i
  by_cases hlt : i < xs.length
  · refine .inr ⟨h1 hlt, fun x H'' y => ?_⟩
    obtain ⟨rfl, hx⟩ := h2 x H'' y
    have hx := hx hlt
    have hm := List.mem_of_getElem? hx
    have et : (xs.take (i + 1)).filter p = (xs.take i).filter p ++ (if p x = true then [x] else []) := by
      rw [List.take_add_one, hx, List.filter_append]
      cases q : p x <;> simp [q]
    show tt (σ'.set k (some x)) H'' _
    rw [hσ]
    refine htest x H'' _ hm hs ?_
    refine ite2 (fun c => ?_) (fun c => ?_)
    · refine helt x H'' _ hm c hs fun H4 s4 => ?_
      refine ⟨_, s4.get hl', smallLt ?_, xs.length - (i + 1), by omega, rfl, hlt, fun y => by rw [List.set_set], same_upd (hs.trans s4) hl _, ?_⟩
      · rw [List.length_map]
        have a := List.length_filter_le p (xs.take i)
        rw [List.length_take] at a
        omega
      · rw [upd_same, et, if_pos c, List.map_append]; rfl
    · exact ⟨xs.length - (i + 1), by omega, rfl, hlt, fun y => by rw [List.set_set], hs, by rw [hl', et, if_neg c, List.append_nil]⟩
  · have e : i = xs.length := by omega
    subst e
    exact .inl ⟨h3 (Nat.le_refl _), hQ l H' hl hs (by rw [hl', List.take_of_length_le (Nat.le_refl _)])⟩
/-! ### values of any kind, as far as they are looked at -/
def Ok (H : Hp) : V → Prop
  | .non => True
  | .bl _ => True
  | .int _ => True
  | .str z => z.length ≤ 1000
  | .ref a => (∃ xs, H a = some (.lst xs)) ∨ ∃ xs, H a = some (.tup xs)
  | _ => False
theorem Ok.same {H H' : Hp} {v : V} (h : Ok H v) (s : Same H H') : Ok H' v := by
  cases v <;> first | exact h | skip
  rcases h with ⟨xs, e⟩ | ⟨xs, e⟩
  · exact .inl ⟨xs, s.get e⟩
  · exact .inr ⟨xs, s.get e⟩
def tyN (H : Hp) : V → String
  | .non => "NoneType"
  | .bl _ => "bool"
  | .int _ => "int"
  | .str _ => "str"
  | .ref a => match H a with
    | some (.lst _) => "list"
    | some (.tup _) => "tuple"
    | _ => "?"
  | _ => "?"
theorem Ok.ty {H : Hp} {v : V} (h : Ok H v) (K : PySem.W.Frag) : TyOf K H v (.type (tyN H v)) := by
  cases v with
  | non => exact .non
  | bl b => exact .bl b
  | int i => exact .int i
  | str z => exact .str z
  | ref a =>
    rcases h with ⟨xs, e⟩ | ⟨xs, e⟩
    · have q : tyN H (.ref a) = "list" := by simp only [tyN, e]
      rw [q]; exact .lst e
    · have q : tyN H (.ref a) = "tuple" := by simp only [tyN, e]
      rw [q]; exact .tup e
  | _ => exact h.elim
def isA (t c : String) : Bool := t == c || (t == "bool" && c == "int")
theorem kit_any {t c : String} (K : PySem.W.Frag) (ht : t ∈ ["NoneType", "bool", "int", "str", "list", "tuple"]) (hc : c ∈ ["bool", "int", "str", "list", "tuple"]) : PySem.W.kitOne K (.type t) (.type c) = some (isA t c) := by
  have all : ∀ t ∈ ["NoneType", "bool", "int", "str", "list", "tuple"], ∀ c ∈ ["bool", "int", "str", "list", "tuple"], (if (Value.type t == Value.type c) = true then some true else if PySem.W.kitMeta c = true then (fastBuiltinMro t).map (·.contains (.type c)) else none) = some (isA t c) := by decide +kernel
  exact kit_of (all t ht c hc) K
theorem Ok.tyMem {H : Hp} {v : V} (h : Ok H v) : tyN H v ∈ ["NoneType", "bool", "int", "str", "list", "tuple"] := by
  cases v with
  | ref a =>
    rcases h with ⟨xs, e⟩ | ⟨xs, e⟩
    · simp only [tyN, e]; decide
    · simp only [tyN, e]; decide
  | byt _ => exact h.elim
  | flt _ => exact h.elim
  | ty _ => exact h.elim
  | _ => simp only [tyN]; decide
theorem Ok.kit {H : Hp} {v : V} (h : Ok H v) (K : PySem.W.Frag) {c : String} (hc : c ∈ ["bool", "int", "str", "list", "tuple"] := by decide) : PySem.W.kitOne K (.type (tyN H v)) (.type c) = some (isA (tyN H v) c) := kit_any K h.tyMem hc
theorem tAndV_p {t u : TE} {σ : St} {H : Hp} {Q : VK} (c d : Bool) (ht : ∀ R : VK, R (.bl c) H → t σ H R) (hu : c = true → ∀ R : VK, R (.bl d) H → u σ H R) (q : Q (.bl (c && d)) H) : tAndV t u σ H Q := by
  refine ht _ ⟨c, rfl, ?_⟩
  cases c with
  | false => rw [if_neg Bool.false_ne_true]; exact q
  | true => rw [if_pos rfl]; exact hu rfl _ q
theorem tOrV_p {t u : TE} {σ : St} {H : Hp} {Q : VK} (c d : Bool) (ht : ∀ R : VK, R (.bl c) H → t σ H R) (hu : c = false → ∀ R : VK, R (.bl d) H → u σ H R) (q : Q (.bl (c || d)) H) : tOrV t u σ H Q := by
  refine ht _ ⟨c, rfl, ?_⟩
  cases c with
  | true => rw [if_pos rfl]; exact q
  | false => rw [if_neg Bool.false_ne_true]; exact hu rfl _ q
theorem tyN_lst {H : Hp} {a : Addr} {xs : List V} (e : H a = some (.lst xs)) : tyN H (.ref a) = "list" := by simp only [tyN, e]
theorem tyN_tup {H : Hp} {a : Addr} {xs : List V} (e : H a = some (.tup xs)) : tyN H (.ref a) = "tuple" := by simp only [tyN, e]
/-- a value's kinds, one by one -/
theorem Ok.elim {H : Hp} {v : V} (ok : Ok H v) {C : Prop} (c1 : v = .non → tyN H v = "NoneType" → C) (c2 : ∀ b, v = .bl b → tyN H v = "bool" → C) (c3 : ∀ i, v = .int i → tyN H v = "int" → C) (c4 : ∀ z, v = .str z → z.length ≤ 1000 → tyN H v = "str" → C)
    (c5 : ∀ a xs, v = .ref a → H a = some (.lst xs) → tyN H v = "list" → C) (c6 : ∀ a xs, v = .ref a → H a = some (.tup xs) → tyN H v = "tuple" → C) : C := by
  cases v with
  | non => exact c1 rfl rfl
  | bl b => exact c2 b rfl rfl
  | int i => exact c3 i rfl rfl
  | str z => exact c4 z rfl ok rfl
  | ref a =>
    rcases ok with ⟨xs, e⟩ | ⟨xs, e⟩
    · exact c5 a xs rfl e (tyN_lst e)
    · exact c6 a xs rfl e (tyN_tup e)
  | _ => exact (show False from ok).elim
def wholeB (H : Hp) (v : V) : Bool := isA (tyN H v) "int" && !isA (tyN H v) "bool"
theorem whole_int (H : Hp) (i : Int) : wholeB H (.int i) = true := by
  show (isA "int" "int" && !isA "int" "bool") = true
  decide
theorem whole_of {H : Hp} {v : V} (ok : Ok H v) (h : wholeB H v = true) : ∃ i, v = .int i := by
  unfold wholeB at h
  refine ok.elim (fun _ e => ?_) (fun _ _ e => ?_) (fun i e _ => ⟨i, e⟩) (fun _ _ _ e => ?_) (fun _ _ _ _ e => ?_) (fun _ _ _ _ e => ?_)
  all_goals (rw [e] at h; exact absurd h (by decide))
def betw (a b : Int) : V → Bool
  | .int i => decide (a ≤ i) && decide (i ≤ b)
  | _ => false
theorem betw_eq {H : Hp} {v : V} {a b : Int} (h : wholeB H v = false) : betw a b v = false := by
  cases v with
  | int i => rw [whole_int] at h; cases h
  | _ => rfl
theorem tuple_of {H : Hp} {v : V} (ok : Ok H v) (h : isA (tyN H v) "tuple" = true) : ∃ a xs, v = .ref a ∧ H a = some (.tup xs) := by
  refine ok.elim (fun _ e => ?_) (fun _ _ e => ?_) (fun _ _ e => ?_) (fun _ _ _ e => ?_) (fun _ _ _ _ e => ?_) (fun a xs e1 e2 _ => ⟨a, xs, e1, e2⟩)
  all_goals (rw [e] at h; exact absurd h (by decide))
theorem str_of {H : Hp} {v : V} (ok : Ok H v) (h : isA (tyN H v) "str" = true) : ∃ z, v = .str z ∧ z.length ≤ 1000 := by
  refine ok.elim (fun _ e => ?_) (fun _ _ e => ?_) (fun _ _ e => ?_) (fun z e1 e2 _ => ⟨z, e1, e2⟩) (fun _ _ _ _ e => ?_) (fun _ _ _ _ e => ?_)
  all_goals (rw [e] at h; exact absurd h (by decide))
end L2

/-! ### texts: loops over signs, index, join -/
namespace L2
open PySem PySem.Spec PyProof.Rows
/-- the signs of a text -/
def Itx (x : Str) : It := ⟨fun i _ => i < x.cps.size, fun i H v H' => H' = H ∧ ∃ c, x.cps[i]? = some c ∧ v = .str ⟨#[c]⟩, fun i _ => x.cps.size ≤ i⟩
theorem turn_ascii {P : Program} {w : World} {K : PySem.W.Frag} {tg : Expr} (it : Addr) (x : Str) (t : Tok) : Turn P w K tg (Itx x) [it] it (fun i h => h.IsStrIter it "str_ascii_iterator" x t i) where
  mem := by simp
  obj := fun i h st b hb => by
    have e : b = it := by simpa using hb
    subst e
    obtain ⟨o, e, c, d⟩ := st
    exact ⟨o, e, fun v z => by rw [d] at z; cases z⟩
  keep := fun i h h' st k => by
    obtain ⟨o, e, c, d⟩ := st
    exact ⟨o, k it (by simp) o e, c, d⟩
  item := by
    intro X hP hw hK hc i pins s σ H E I hf st hg
    subst hP hw hK
    have hg' : i < x.cps.size := hg
    obtain ⟨f0, f1, f2, f3, f4, f5⟩ := hf it (by simp)
    refine wpAny_pyNext_ascii_item st (c := x.cps[i]) (by simp [hg']) fun h' st' sb => ?_
    have I1 : Inv X pins σ H { s with heap := h', toks := s.toks + 1 } := I.turned (fun b o hb e => (sb.2 b hb).trans e) f0 f1 f3 f4 f5
    obtain ⟨o, e, c, d⟩ := id st'
    exact ⟨_, rfl, go_of (s := { s with heap := h', toks := s.toks + 1 }) e c d (by decide) ⟨.str ⟨#[x.cps[i]]⟩, H, I1, ⟨_, rfl⟩, ⟨rfl, _, by simp [hg'], rfl⟩, st', fun b hb => (hf b hb).1⟩⟩
  done := by
    intro X hP hw hK hc i pins s σ H E I hf st hg
    subst hP hw hK
    have hg' : x.cps.size ≤ i := hg
    obtain ⟨f0, f1, f2, f3, f4, f5⟩ := hf it (by simp)
    exact wpAny_pyNext_ascii_end (I.ok.hd hc) st (by simp [hg']) fun h' eb => ⟨rfl, I.turned (t' := s.toks) (fun b o hb e => eb b o hb e) f0 f1 f3 f4 f5⟩
  self := fun _ _ _ _ _ st h => wpAny_pyIter_striter_ascii st h
theorem turn_wide {P : Program} {w : World} {K : PySem.W.Frag} {tg : Expr} (it : Addr) (x : Str) (t : Tok) : Turn P w K tg (Itx x) [it] it (fun i h => h.IsStrIter it "str_iterator" x t i) where
  mem := by simp
  obj := fun i h st b hb => by
    have e : b = it := by simpa using hb
    subst e
    obtain ⟨o, e, c, d⟩ := st
    exact ⟨o, e, fun v z => by rw [d] at z; cases z⟩
  keep := fun i h h' st k => by
    obtain ⟨o, e, c, d⟩ := st
    exact ⟨o, k it (by simp) o e, c, d⟩
  item := by
    intro X hP hw hK hc i pins s σ H E I hf st hg
    subst hP hw hK
    have hg' : i < x.cps.size := hg
    obtain ⟨f0, f1, f2, f3, f4, f5⟩ := hf it (by simp)
    refine wpAny_pyNext_wide_item st (c := x.cps[i]) (by simp [hg']) fun h' st' sb => ?_
    have I1 : Inv X pins σ H { s with heap := h', toks := s.toks + 1 } := I.turned (fun b o hb e => (sb.2 b hb).trans e) f0 f1 f3 f4 f5
    obtain ⟨o, e, c, d⟩ := id st'
    exact ⟨_, rfl, go_of (s := { s with heap := h', toks := s.toks + 1 }) e c d (by decide) ⟨.str ⟨#[x.cps[i]]⟩, H, I1, ⟨_, rfl⟩, ⟨rfl, _, by simp [hg'], rfl⟩, st', fun b hb => (hf b hb).1⟩⟩
  done := by
    intro X hP hw hK hc i pins s σ H E I hf st hg
    subst hP hw hK
    have hg' : x.cps.size ≤ i := hg
    obtain ⟨f0, f1, f2, f3, f4, f5⟩ := hf it (by simp)
    exact wpAny_pyNext_wide_end (I.ok.hd hc) st (by simp [hg']) fun h' eb => ⟨rfl, I.turned (t' := s.toks) (fun b o hb e => eb b o hb e) f0 f1 f3 f4 f5⟩
  self := fun _ _ _ _ _ st h => wpAny_pyIter_striter_wide st h
section
variable {X : Cx} {tg : Expr}
def iStr (tl : TE) : TI := fun σ H R => tl σ H fun x H1 => ∃ z, x = .str z ∧ R (Itx z) H1
theorem pi_str {l : Expr} {tl : TE} (hl : PE X l tl) : PI X tg l (iStr tl) := by
  intro pins s σ H R I h
  refine thn (hl pins s σ H _ I h) fun v s1 ⟨x, H1, I1, r1, q1⟩ => ?_
  obtain ⟨z, e, q⟩ := q1
  subst e
  obtain ⟨t, rfl⟩ := r1
  have fp : ∀ b ∈ [s1.heap.objs.size], FpOk X pins H1 b := fun b hb => by
    have e : b = s1.heap.objs.size := by simpa using hb
    subst e
    exact I1.fpOk (Nat.le_refl _) (I1.hok.fresh (Nat.le_refl _))
  cases ha : z.cps.all (· < 128)
  · exact wpAny_pyIter_wide ha ⟨s1.heap.objs.size, [s1.heap.objs.size], _, _, H1, rfl, I1.kept (t' := s1.toks) (fun b o e => Heap.get?_push_of_some _ e), turn_wide _ z t, ⟨_, Heap.get?_push_size _ rfl, rfl, rfl⟩, fp, q⟩
  · exact wpAny_pyIter_ascii ha ⟨s1.heap.objs.size, [s1.heap.objs.size], _, _, H1, rfl, I1.kept (t' := s1.toks) (fun b o e => Heap.get?_push_of_some _ e), turn_ascii _ z t, ⟨_, Heap.get?_push_size _ rfl, rfl, rfl⟩, fp, q⟩
end
/-- over the signs of a text -/
theorem for_str {x : Str} {g : TG} {tb : TS} {D : Ends} {σ : St} {H : Hp} (Pv : Nat → St → Hp → Prop) (h0 : Pv 0 σ H)
    (hs : ∀ i c σ H, x.cps[i]? = some c → Pv i σ H → g (.str ⟨#[c]⟩) σ H fun σ2 H2 => tb { D with nx := Pv (i + 1), ct := Pv (i + 1), bk := D.nx } σ2 H2) (hd : ∀ σ H, Pv x.cps.size σ H → D.nx σ H) :
    ∃ W : Nat → Nat → St → Hp → Prop, (∃ m, W 0 m σ H) ∧ ∀ i m σ H, W i m σ H →
      ((Itx x).stop i H ∧ D.nx σ H) ∨ ((Itx x).go i H ∧ ∃ N : St → Hp → Prop, (∀ σ' H', N σ' H' → ∃ m', m' < m ∧ W (i + 1) m' σ' H') ∧ ∀ v H', (Itx x).yld i H v H' → g v σ H' fun σ2 H2 => tb { D with nx := N, ct := N, bk := D.nx } σ2 H2) := by
  refine ⟨fun i m σ H => m = x.cps.size - i ∧ i ≤ x.cps.size ∧ Pv i σ H, ⟨x.cps.size, by simp, Nat.zero_le _, h0⟩, ?_⟩
  rintro i m σ H ⟨rfl, hi, p⟩
  by_cases hlt : i < x.cps.size
  · refine .inr ⟨hlt, Pv (i + 1), fun σ' H' p' => ⟨x.cps.size - (i + 1), by omega, rfl, hlt, p'⟩, fun v H' y => ?_⟩
    obtain ⟨e, c, hc, e2⟩ := y
    subst e e2
    exact hs i c σ _ hc p
  · have e : i = x.cps.size := by omega
    subst e
    exact .inl ⟨Nat.le_refl _, hd σ H p⟩
theorem itIs_str {x : Str} {H : Hp} : ItIs (Itx x) H (x.cps.toList.map fun c => V.str ⟨#[c]⟩) := fun H' s i =>
  ⟨fun hi => (by simpa using hi : i < x.cps.size), fun v H'' y => ⟨y.1, fun hi => by
    obtain ⟨_, c, hc, e⟩ := y
    rw [List.getElem?_map, Array.getElem?_toList, hc, e]; rfl⟩, fun hi => (by simpa using hi : x.cps.size ≤ i)⟩
section
variable {X : Cx}
/-- t.index(u): where u stands in t -/
def rIndex : V → List V → Hp → VK → Prop := fun x vs H Q => ∃ t u, x = .str t ∧ vs = [.str u] ∧ 0 ≤ Txt.find t u ∧ Q (.int (Txt.find t u)) H
theorem mt_index (hc : X.calm = true) : MtR X "str.index" rIndex := by
  intro pins s σ H x vs v us Q I rx rv h
  obtain ⟨t, u, rfl, rfl, h0, q⟩ := h
  obtain ⟨tk, rfl⟩ := rx
  obtain ⟨y, rfl, ry⟩ := rv.one
  obtain ⟨tk2, rfl⟩ := ry
  refine index_or (I.ok.hd hc) (fun e => absurd e (by omega)) fun _ _ => ⟨.int (Txt.find t u), H, I.tok _, ⟨_, rfl⟩, q⟩
end
end L2
namespace L2
open PySem PySem.Spec PyProof.Rows
/-! ### range objects, list(range(..)) -/
section
variable {X : Cx}
theorem call_range1 : CallR X (.type "range") (fun xs H Q => ∃ j : Int, xs = [.int j] ∧ ∀ p, H p = none → Q (.ref p) (upd H p (.rng 0 j))) := by
  intro pins s σ H xs us Q I r h
  obtain ⟨j, rfl, q⟩ := h
  obtain ⟨u, rfl, ru⟩ := vals1 r
  obtain ⟨t, rfl⟩ := ru
  refine call_range_1 ?_
  refine ⟨.ref s.heap.objs.size, _, I.laid (fun b o e => Heap.get?_push_of_some _ e) (Nat.le_refl _) (show ObjOk X.prog X.w _ _ _ (.rng 0 j) from ⟨_, _, _, Heap.get?_push_size _ rfl⟩), rfl, q _ I.fresh⟩
theorem vals_items {n : Nat} {lo : Int} {acc : Array Value} (h : ItemsOf (fun (i : Nat) v => ∃ t, v = .int (lo + i * 1) t) acc n) : Vals ((List.range n).map fun (i : Nat) => V.int (lo + (i : Int))) acc.toList := by
  obtain ⟨hs, hi⟩ := h
  have key : ∀ (vs : List Value) (k : Nat), (∀ (i : Nat) v, vs[i]? = some v → ∃ t, v = Value.int (lo + ((k + i : Nat) : Int)) t) → Vals ((List.range' k vs.length).map fun (i : Nat) => V.int (lo + (i : Int))) vs := by
    intro vs
    induction vs with
    | nil => intro k _; exact .nil
    | cons v vs ih =>
      intro k hv
      rw [List.length_cons, List.range'_succ, List.map_cons]
      refine .cons ?_ (ih (k + 1) fun i v' e => ?_)
      · obtain ⟨t, e⟩ := hv 0 v rfl
        exact ⟨t, by rw [e]; rfl⟩
      · obtain ⟨t, e'⟩ := hv (i + 1) v' (by simpa using e)
        exact ⟨t, by rw [e']; congr 2; omega⟩
  have hl : acc.toList.length = n := by simpa using hs
  have q := key acc.toList 0 fun i v e => by
    obtain ⟨t, e'⟩ := hi i v (by simpa using e)
    exact ⟨t, by rw [e']; congr 1 <;> omega⟩
  rw [hl, ← List.range_eq_range'] at q
  exact q
theorem call_list_rng (hc : X.calm = true) : CallR X (.type "list") (fun xs H Q => ∃ (p : Addr) (lo hi : Int), xs = [.ref p] ∧ H p = some (.rng lo hi) ∧ -(2 ^ 62) ≤ lo ∧ lo ≤ hi ∧ hi < 2 ^ 62 ∧ hi - lo ≤ 1000000 ∧
    ∀ l, H l = none → Q (.ref l) (upd H l (.lst ((List.range (hi - lo).toNat).map fun (i : Nat) => V.int (lo + (i : Int)))))) := by
  intro pins s σ H xs us Q I r h
  obtain ⟨p, lo, hi, rfl, hp, h1, h2, h3, h4, q⟩ := h
  obtain ⟨u, rfl, ru⟩ := vals1 r
  cases ru
  obtain ⟨t, u, v, e⟩ := I.hok p _ hp
  have hsz : Builtin.Range.rangeSize lo hi 1 = (((hi - lo).toNat : Nat) : Int) := by rw [rangeSize_one]; split <;> omega
  refine call_list_range (I.ok.hd hc) e (small_one h1 (by omega) (by omega) h3) hsz (by omega) fun h' tk acc c' hk e' hacc => ?_
  refine ⟨.ref s.heap.objs.size, _, I.laid hk (Nat.le_refl _) (show ObjOk X.prog X.w _ h' _ (.lst _) from ⟨?_, acc.toList, c', vals_items hacc, by simpa using e'⟩), rfl, q _ I.fresh⟩
  rw [List.length_map, List.length_range]; exact small (by omega)
end
end L2
namespace L2
open PySem PySem.Spec PyProof.Rows
/-! ### slices, products and joins of texts -/
section
variable {X : Cx}
def rSlS : V → Option Int → Option Int → Hp → VK → Prop := fun x lo hi H Q => ∃ z : Str, x = .str z ∧ z.length ≤ sizeLine ∧ Q (.str (PySem.Txt.slice z lo hi)) H
theorem sl_str : SlR X rSlS := by
  intro pins s σ H x v vl vu lo hi sl Q I rx hs pl pu h
  obtain ⟨z, rfl, hz, q⟩ := h
  obtain ⟨t, rfl⟩ := rx
  refine ⟨"str", _, slot_str_getitem.lookup, typeIs_str _ _ _, ?_⟩
  cases pl with
  | none =>
    cases pu with
    | none => exact wpAny_getItem_str_slice (l := none) (u := none) (st := none) hs rfl (post_val_or_str ⟨Nat.le_trans (PySem.Txt.slice_le z _ _) hz, fun t' k => ⟨.str _, H, I.tok k, ⟨_, rfl⟩, q⟩⟩)
    | int j tj => exact wpAny_getItem_str_slice (l := none) (u := some (j, tj)) (st := none) hs rfl (post_val_or_str ⟨Nat.le_trans (PySem.Txt.slice_le z _ _) hz, fun t' k => ⟨.str _, H, I.tok k, ⟨_, rfl⟩, q⟩⟩)
  | int i ti =>
    cases pu with
    | none => exact wpAny_getItem_str_slice (l := some (i, ti)) (u := none) (st := none) hs rfl (post_val_or_str ⟨Nat.le_trans (PySem.Txt.slice_le z _ _) hz, fun t' k => ⟨.str _, H, I.tok k, ⟨_, rfl⟩, q⟩⟩)
    | int j tj => exact wpAny_getItem_str_slice (l := some (i, ti)) (u := some (j, tj)) (st := none) hs rfl (post_val_or_str ⟨Nat.le_trans (PySem.Txt.slice_le z _ _) hz, fun t' k => ⟨.str _, H, I.tok k, ⟨_, rfl⟩, q⟩⟩)
def rMulS : R2 := fun x y H Q => ∃ (z : Str) (n : Int), x = .str z ∧ y = .int n ∧ n ≤ 1000 ∧ -1000 ≤ n ∧ z.length ≤ 1000 ∧ Q (.str (PySem.Txt.mul z n)) H
theorem mulOk_of {z : Str} {n : Int} (h1 : n ≤ 1000) (h0 : -1000 ≤ n) (h2 : z.length ≤ 1000) : MulOk z n := by
  refine ⟨?_, fun h3 _ => ?_, fun h3 _ => ?_⟩
  · rw [decide_eq_false (by omega), decide_eq_false (by omega)]; rfl
  · have : (2 ^ 63 - 1 : Int) / n ≥ (2 ^ 63 - 1 : Int) / 1000 := by
      have hn : 0 < n := by omega
      have a : (2 ^ 63 - 1 : Int) / 1000 * n ≤ 2 ^ 63 - 1 := by
        have b : (2 ^ 63 - 1 : Int) / 1000 * n ≤ (2 ^ 63 - 1 : Int) / 1000 * 1000 := Int.mul_le_mul_of_nonneg_left h1 (by decide)
        have c : (2 ^ 63 - 1 : Int) / 1000 * 1000 ≤ 2 ^ 63 - 1 := by decide
        omega
      exact (Int.le_ediv_iff_mul_le hn).mpr a
    have d : (1000 : Int) ≤ (2 ^ 63 - 1 : Int) / 1000 := by decide
    omega
  · have : z.length * n.toNat ≤ 1000 * 1000 := Nat.mul_le_mul h2 (by omega)
    have e : Builtin.Str.tooLong (z.length * n.toNat) = decide (z.length * n.toNat > sizeLine) := rfl
    rw [e]
    exact decide_eq_false (by have := sizeLine_big; omega)
theorem op_mul_str : OpR X (binaryOp .Mult) rMulS := by
  intro pins s σ H x y v u Q I rx ry h
  obtain ⟨z, n, rfl, rfl, h1, h0, h2, q⟩ := h
  obtain ⟨t, rfl⟩ := rx
  obtain ⟨t', rfl⟩ := ry
  exact SB.mul (mulOk_of h1 h0 h2) fun t' k => ⟨.str _, H, I.tok k, ⟨_, rfl⟩, q⟩
theorem strsAre_of {ys : List Str} : ∀ {us : List Value}, Vals (ys.map V.str) us → StrsAre us ys := by
  induction ys with
  | nil => intro us r; rw [List.map_nil] at r; cases r; exact .nil
  | cons n ns ih =>
    intro us r
    rw [List.map_cons] at r
    cases r with
    | cons r1 r2 =>
      obtain ⟨t, e⟩ := r1
      subst e
      exact .cons n t (ih r2)
def rJoin (K : PySem.W.Frag) : V → List V → Hp → VK → Prop := fun x vs H Q => ∃ (a : Addr) (z : Str) (ys : List Str), x = .str z ∧ vs = [.ref a] ∧ SqL K H a (ys.map V.str) ∧ (ys.map (·.length)).sum + ys.length * z.length ≤ 16777216 ∧ Q (.str (PySem.Txt.join z ys)) H
theorem mt_join (_ : X.calm = true) : MtR X "str.join" (rJoin X.K) := by
  intro pins s σ H x vs v us Q I rx rv h
  obtain ⟨a, z, ys, rfl, rfl, hq, hz, q⟩ := h
  obtain ⟨tk, rfl⟩ := rx
  obtain ⟨y, rfl, ry⟩ := rv.one
  cases ry
  obtain ⟨its, r1, p1, _⟩ := I.list hq
  exact join_list p1.isList (strsAre_of (by simpa using r1)) hz fun t' k => ⟨.str _, H, I.tok k, ⟨_, rfl⟩, q⟩
end
end L2
namespace L2
open PySem PySem.Spec PyProof.Rows PySem.Builtin.Str
/-! ### the codes of a text -/
abbrev cod (z : Str) : List Nat := z.cps.toList
theorem cod_len (z : Str) : (cod z).length = z.length := by simp [Str.length]
theorem str_ext {x y : Str} (h : cod x = cod y) : x = y := by
  obtain ⟨a⟩ := x
  obtain ⟨b⟩ := y
  have : a = b := Array.toList_inj.mp h
  rw [this]
theorem cod_app (a y : Str) : cod (a ++ y) = cod a ++ cod y := by
  show (a.cps ++ y.cps).toList = _
  simp
theorem sl_mid (z : Str) {i j : Int} (h0 : 0 ≤ i) (h1 : i ≤ j) (h2 : j ≤ z.length) : cod (PySem.Txt.slice z (some i) (some j)) = ((cod z).drop i.toNat).take (j - i).toNat := by
  have e := StrLaws.sliceText_plain (x := z) (i := i) (j := j) ⟨h0, h1, by rw [cod_len z]; exact h2⟩
  show cod (StrLaws.sliceText z (some i) (some j)) = _
  rw [e]
theorem sl_to (z : Str) {j : Int} (h0 : 0 ≤ j) : cod (PySem.Txt.slice z none (some j)) = (cod z).take j.toNat := by
  have hc : StrLaws.sliceText z none (some j) = StrLaws.sliceText z none (some (min j z.length)) := by
    have e : strSliceIndices none (some j) 1 z.length = strSliceIndices none (some (min j z.length)) 1 z.length := by
      unfold strSliceIndices
      have e1 : (if j < 0 then j + (z.length : Int) else j) = j := if_neg (by omega)
      have e2 : (if min j (z.length : Int) < 0 then min j (z.length : Int) + (z.length : Int) else min j (z.length : Int)) = min j z.length := if_neg (by omega)
      simp only [e1, e2]
      have e3 : max 0 (min j (z.length : Int)) = max 0 (min (min j (z.length : Int)) z.length) := by omega
      rw [e3]
      simp only [if_pos (show (1 : Int) > 0 by decide)]
    unfold StrLaws.sliceText
    rw [e]
  show cod (StrLaws.sliceText z none (some j)) = _
  rw [hc, StrLaws.sliceText_to ⟨by omega, by rw [cod_len z]; omega⟩]
  show ((cod z).drop 0).take (min j (z.length : Int) - 0).toNat = _
  rw [List.drop_zero]
  by_cases h : j ≤ z.length
  · congr 1; omega
  · have hl := cod_len z
    rw [List.take_of_length_le (by omega), List.take_of_length_le (by omega)]
theorem mem_foldl_app {c : Nat} : ∀ (xs : List (Array Nat)) (acc : Array Nat), c ∈ (xs.foldl (· ++ ·) acc).toList → c ∈ acc.toList ∨ ∃ x ∈ xs, c ∈ x.toList
  | [], acc, h => .inl h
  | x :: xs, acc, h => by
    rcases mem_foldl_app xs (acc ++ x) h with q | ⟨y, hy, q⟩
    · rw [Array.toList_append] at q
      rcases List.mem_append.mp q with q | q
      · exact .inl q
      · exact .inr ⟨x, List.mem_cons_self, q⟩
    · exact .inr ⟨y, List.mem_cons_of_mem _ hy, q⟩
theorem mul_mem {z : Str} {n : Int} {c : Nat} (h : c ∈ cod (PySem.Txt.mul z n)) : c ∈ cod z := by
  unfold PySem.Txt.mul at h
  split at h
  · cases h
  · split at h
    · exact h
    · rcases mem_foldl_app _ _ h with q | ⟨x, hx, q⟩
      · cases q
      · rw [List.eq_of_mem_replicate hx] at q; exact q
theorem mem_foldl_glue {c : Nat} {g : Array Nat} (hg : g.toList = []) : ∀ (xs : List Str) (acc : Array Nat), c ∈ (xs.foldl (fun acc p => acc ++ g ++ p.cps) acc).toList → c ∈ acc.toList ∨ ∃ x ∈ xs, c ∈ cod x
  | [], acc, h => .inl h
  | x :: xs, acc, h => by
    rcases mem_foldl_glue hg xs (acc ++ g ++ x.cps) h with q | ⟨y, hy, q⟩
    · rw [Array.toList_append, Array.toList_append, hg, List.append_nil] at q
      rcases List.mem_append.mp q with q | q
      · exact .inl q
      · exact .inr ⟨x, List.mem_cons_self, q⟩
    · exact .inr ⟨y, List.mem_cons_of_mem _ hy, q⟩
theorem join_mem {g : Str} {ys : List Str} {c : Nat} (hg : cod g = []) (h : c ∈ cod (PySem.Txt.join g ys)) : ∃ y ∈ ys, c ∈ cod y := by
  unfold PySem.Txt.join glued at h
  rcases mem_foldl_glue (g := g.cps) hg _ _ h with q | ⟨x, hx, q⟩
  · cases ys with
    | nil => cases q
    | cons y ys => exact ⟨y, List.mem_cons_self, q⟩
  · exact ⟨x, List.mem_of_mem_drop hx, q⟩
theorem join_len (g : Str) (ys : List Str) : (PySem.Txt.join g ys).length = (ys.map (·.length)).sum + (ys.length - 1) * g.length := size_glued g ys
theorem sum_ones : ∀ (ys : List Str), (∀ y ∈ ys, y.length = 1) → (ys.map (·.length)).sum = ys.length
  | [], _ => rfl
  | y :: ys, h => by
    rw [List.map_cons, List.sum_cons, h y List.mem_cons_self, sum_ones ys fun z hz => h z (List.mem_cons_of_mem _ hz), List.length_cons, Nat.add_comm]
end L2

/-! ### great numbers, truths by `is`, lists of the very same items, lists of new items -/
namespace L2
open PySem PySem.Spec PyProof.Rows
theorem bt_abs : bootBuiltins "abs" = some (.builtin "abs") := by decide +kernel
theorem bits_lt {x : Int} {m : Nat} (h : x.natAbs < 2 ^ m) : Builtin.Int.intBits x ≤ m := by
  unfold Builtin.Int.intBits
  by_cases hx : x = 0
  · subst hx; simp
  · rw [if_neg (by simpa using hx)]
    have h0 : x.natAbs ≠ 0 := by omega
    have := (Nat.log2_lt h0).mpr h
    omega
theorem mulOk {a b : Int} {m n : Nat} (ha : a.natAbs < 2 ^ m) (hb : b.natAbs < 2 ^ n) (h : m + n ≤ 2 ^ 27 := by decide) : IntMulOk a b := by
  have h1 := bits_lt ha
  have h2 := bits_lt hb
  unfold IntMulOk Builtin.Int.intTooBig bitsLine
  intro z
  simp only [Bool.and_eq_true, decide_eq_true_eq] at z
  have h3 := z.2
  omega
theorem divOk {x y : Int} (h : y.natAbs < 2 ^ 8000) : Builtin.divisionGoesByPylong x y = false := by
  unfold Builtin.divisionGoesByPylong
  have : ¬ ((if (y == 0) = true then 0 else y.natAbs.log2 / 30 + 1) > 300) := by
    by_cases hy : y = 0
    · subst hy; simp
    · rw [if_neg (by simpa using hy)]
      have h0 : y.natAbs ≠ 0 := by omega
      have := (Nat.log2_lt h0).mpr h
      omega
  simp only [decide_eq_false this, Bool.false_and]
theorem abs_mul_lt {a b : Int} {m n : Nat} (ha : a.natAbs < 2 ^ m) (hb : b.natAbs < 2 ^ n) : (a * b).natAbs < 2 ^ (m + n) := by
  rw [Int.natAbs_mul, Nat.pow_add]
  exact Nat.mul_lt_mul'' ha hb
theorem abs_add_lt {a b : Int} {m : Nat} (ha : a.natAbs < 2 ^ m) (hb : b.natAbs < 2 ^ m) : (a + b).natAbs < 2 ^ (m + 1) := by
  rw [Nat.pow_succ]
  omega
theorem abs_lt_le {a : Int} {m n : Nat} (ha : a.natAbs < 2 ^ m) (h : m ≤ n) : a.natAbs < 2 ^ n := Nat.lt_of_lt_of_le ha (Nat.pow_le_pow_right (by decide) h)
def CDivW (_ j : Int) : Prop := 0 < j ∧ j.natAbs < 2 ^ 8000
section
variable {X : Cx}
theorem op_mulW : OpR X (binaryOp .Mult) (rI IntMulOk fun i j => .int (i * j)) := opI fun _ _ _ _ _ _ _ hc q => mul_int q hc
theorem op_fdivW : OpR X (binaryOp .FloorDiv) (rI CDivW fun i j => .int (i / j)) := opI fun i j _ _ _ _ _ hc q => by
  have h1 : (0 : Int) < j := hc.1
  exact floordiv_int (by omega) (by rw [Int.fdiv_eq_ediv_of_nonneg i (Int.le_of_lt h1)]; exact q) (.inl (divOk hc.2))
def rIsB : R2 := fun x y H Q => ∃ a b, x = .bl a ∧ y = .bl b ∧ Q (.bl (a == b)) H
theorem op_is_bl : OpR X (compareOp .Is) rIsB := by
  intro pins s σ H x y v u Q I rx ry h
  obtain ⟨a, b, rfl, rfl, q⟩ := h
  cases rx
  cases ry
  exact is_bool ⟨.bl _, H, I, rfl, q⟩
/-- two lists of the very same items (no numbers) -/
def refV : V → Bool
  | .ref _ => true
  | _ => false
theorem vals_refs : ∀ {xs : List V} {us us2 : List Value}, Vals xs us → Vals xs us2 → xs.all refV = true → us = us2
  | [], _, _, .nil, .nil, _ => rfl
  | x :: xs, _, _, .cons r t, .cons r2 t2, h => by
    rw [List.all_cons, Bool.and_eq_true] at h
    cases x <;> first | exact absurd (show false = true from h.1) Bool.false_ne_true | skip
    cases r
    cases r2
    rw [vals_refs t t2 h.2]
def rNeS (K : PySem.W.Frag) (neg : Bool) : R2 := fun x y H Q => ∃ a b xs, x = .ref a ∧ y = .ref b ∧ SqL K H a xs ∧ SqL K H b xs ∧ xs.all refV = true ∧ Q (.bl (!neg)) H
theorem op_neS (hu : X.A.units + 1 < cLine) : OpR X (compareOp .NotEq) (rNeS X.K true) := by
  intro pins s σ H x y v u Q I rx ry h
  obtain ⟨a, b, xs, rfl, rfl, h1, h2, hf, q⟩ := h
  cases rx
  cases ry
  obtain ⟨its, r1, p1, _⟩ := I.list h1
  obtain ⟨its2, r2, p2, _⟩ := I.list h2
  have e := vals_refs r1 r2 hf
  subst e
  have q2 := SeqAt.RcNeAt.lists (A := X.A) (s := s) (e := fun _ => true) p1.isList p2.isList rfl (by omega) (fun j g1 g2 => SeqAt.EqAt.same _)
  have e2 : (!(List.range its.toArray.size).all fun _ => true) = false := by simp
  rw [e2] at q2
  exact q2 _ _ _ _ ⟨.bl _, H, I, rfl, q⟩
theorem op_eqS (hu : X.A.units + 1 < cLine) : OpR X (compareOp .Eq) (rNeS X.K false) := by
  intro pins s σ H x y v u Q I rx ry h
  obtain ⟨a, b, xs, rfl, rfl, h1, h2, hf, q⟩ := h
  cases rx
  cases ry
  obtain ⟨its, r1, p1, _⟩ := I.list h1
  obtain ⟨its2, r2, p2, _⟩ := I.list h2
  have e := vals_refs r1 r2 hf
  subst e
  have q2 := SeqAt.RcAt.lists (A := X.A) (s := s) (e := fun _ => true) p1.isList p2.isList rfl (by omega) (fun j g1 g2 => SeqAt.EqAt.same _)
  have e2 : ((List.range its.toArray.size).all fun _ => true) = true := by simp
  rw [e2] at q2
  exact q2 _ _ _ _ ⟨.bl _, H, I, rfl, q⟩
end
/-- [e for x in ..], each item a new object, with what is told of it -/
theorem comp_rel {J : It} {xs : List V} {fr : List (Option Nat)} {k : Nat} {te : TE} {Q : VK} {σ : St} {H : Hp} (P : V → V → Hp → Prop) (hP : ∀ x y H1 H2, P x y H1 → Same H1 H2 → P x y H2)
    (hU : ∀ x y H1 l us us', P x y H1 → H1 l = some (.lst us) → y ≠ .ref l → P x y (upd H1 l (.lst us'))) (hJ : ItIs J H xs) (hn : xs.length ≤ 1000000)
    (helt : ∀ (x : V) (H' : Hp) (R : VK), x ∈ xs → Same H H' → (∀ y H'', Same H' H'' → (∀ a, y = .ref a → H' a = none) → P x y H'' → R y H'') → te ((stC fr σ).set k (some x)) H' R)
    (hQ : ∀ l H' (ys : List V), H l = none → Same H H' → H' l = some (.lst ys) → ys.length = xs.length → (∀ (i : Nat) x y, xs[i]? = some x → ys[i]? = some y → P x y H' ∧ y ≠ .ref l) → Q (.ref l) H') :
    tCompK fr (gName k) tYes te σ Q J H := by
  intro l hl
  refine ⟨fun i m σ' H' => m = xs.length - i ∧ i ≤ xs.length ∧ (∀ y, σ'.set k y = (stC fr σ).set k y) ∧ Same H H' ∧ ∃ ys : List V, H' l = some (.lst ys) ∧ ys.length = i ∧ (∀ (i : Nat) x y, xs[i]? = some x → ys[i]? = some y → P x y H' ∧ y ≠ .ref l),
    ⟨xs.length, by simp, Nat.zero_le _, fun _ => rfl, same_new hl _, [], upd_same, rfl, fun i x y _ h => by simp at h⟩, ?_⟩
  rintro i m σ' H' ⟨rfl, hi, hσ, hs, ys, hl', hlen, hp⟩
  obtain ⟨h1, h2, h3⟩ := hJ H' hs i
  by_cases hlt : i < xs.length
  · refine .inr ⟨h1 hlt, fun x H'' y => ?_⟩
    obtain ⟨rfl, hx⟩ := h2 x H'' y
    have hx := hx hlt
    show te (σ'.set k (some x)) H'' _
    rw [hσ]
    refine helt x H'' _ (List.mem_of_getElem? hx) hs fun y H4 s4 fy py => ?_
    have yl : y ≠ .ref l := fun z => by rw [fy l z] at hl'; cases hl'
    refine ⟨_, s4.get hl', smallLt (by omega), xs.length - (i + 1), by omega, rfl, hlt, fun y => by rw [List.set_set], same_upd (hs.trans s4) hl _, ys ++ [y], upd_same, by rw [List.length_append, hlen]; rfl, fun j x' y' hx' hy' => ?_⟩
    by_cases hj : j < ys.length
    · rw [List.getElem?_append_left hj] at hy'
      obtain ⟨q1, q2⟩ := hp j x' y' hx' hy'
      exact ⟨hU _ _ _ _ _ _ (hP _ _ _ _ q1 s4) (s4.get hl') q2, q2⟩
    · rw [List.getElem?_append_right (by omega)] at hy'
      by_cases hj2 : j = ys.length
      · subst hj2
        rw [Nat.sub_self] at hy'
        cases (Option.some.inj hy' : y = y')
        rw [hlen] at hx'
        cases (Option.some.inj (hx.symm.trans hx') : x = x')
        exact ⟨hU _ _ _ _ _ _ py (s4.get hl') yl, yl⟩
      · rw [List.getElem?_eq_none (by simp; omega)] at hy'
        cases hy'
  · have e : i = xs.length := by omega
    subst e
    exact .inl ⟨h3 (Nat.le_refl _), hQ l H' ys hl hs hl' hlen hp⟩
theorem tComp_rel {J : It} {xs : List V} {fr : List (Option Nat)} {wi : TI} {k : Nat} {te : TE} {Q : VK} {σ : St} {H H1 : Hp} (P : V → V → Hp → Prop) (hP : ∀ x y H1 H2, P x y H1 → Same H1 H2 → P x y H2)
    (hU : ∀ x y H1 l us us', P x y H1 → H1 l = some (.lst us) → y ≠ .ref l → P x y (upd H1 l (.lst us'))) (hJ : ItIs J H1 xs) (hw : ∀ R : It → Hp → Prop, R J H1 → wi σ H R) (hn : xs.length ≤ 1000000)
    (helt : ∀ (x : V) (H' : Hp) (R : VK), x ∈ xs → Same H1 H' → (∀ y H'', Same H' H'' → (∀ a, y = .ref a → H' a = none) → P x y H'' → R y H'') → te ((stC fr σ).set k (some x)) H' R)
    (hQ : ∀ l H' (ys : List V), H1 l = none → Same H1 H' → H' l = some (.lst ys) → ys.length = xs.length → (∀ (i : Nat) x y, xs[i]? = some x → ys[i]? = some y → P x y H' ∧ y ≠ .ref l) → Q (.ref l) H') : tComp fr wi (gName k) tYes te σ H Q := hw _ (comp_rel P hP hU hJ hn helt hQ)
/-- a <= b < c, of numbers, as a test -/
theorem chain_p {ta tb tc : TE} {σ : St} {H : Hp} {Q : Bool → Hp → Prop} (i j k : Int) (ha : ∀ R : VK, R (.int i) H → ta σ H R) (hb : ∀ R : VK, R (.int j) H → tb σ H R) (hc : ∀ R : VK, R (.int k) H → tc σ H R) (q : Q (decide (i ≤ j ∧ j < k)) H) :
    tTest (tChain (rI0 fun i j => .bl (decide (i ≤ j))) (rI0 fun i j => .bl (decide (i < j))) ta tb tc) σ H Q := by
  refine ha _ (hb _ ⟨_, _, rfl, rfl, _, rfl, ?_⟩)
  by_cases h : i ≤ j
  · refine iteTc (decide_eq_true h) (hc _ ⟨_, _, rfl, rfl, _, rfl, ?_⟩)
    have e : decide (i ≤ j ∧ j < k) = decide (j < k) := by simp [h]
    rw [e] at q
    exact q
  · refine iteFc (decide_eq_false h) ⟨_, rfl, ?_⟩
    have e : decide (i ≤ j ∧ j < k) = false := decide_eq_false fun z => h z.1
    rw [e] at q
    exact q
end L2

/-! ### enumerate(list, start=1), walked by a pair of names -/
namespace L2
open PySem PySem.Spec PyProof.Rows
theorem tc_enum (a v : Value) : checkTypeCall "enumerate" ⟨[a], [("start", v)]⟩ = pure () := by kernel_rfl
theorem nc_enum (a v : Value) : checkBuiltinCall "enumerate.__new__" ⟨[.type "enumerate", a], [("start", v)]⟩ = pure () := by kernel_rfl
theorem ao_enum (obj a v : Value) : argsOk "object.__init__" ⟨[obj, a], [("start", v)]⟩ := by kernel_rfl
theorem mt_enum (l : Addr) (items : Array Value) (m : Nat) (sl : Array (Option Value)) (t : Tok) : Meets (Builtin.«enumerate.__new__» ⟨[.type "enumerate", .ref l], [("start", .int 1 t)]⟩) fun _ R s =>
    s.heap.get? l = some { cls := .type "list", dict := none, data := .seq items m, slots := sl } ∧ R (.ok (.ret (.ref (s.heap.objs.size + 1))))
      { s with heap := (s.heap.push { cls := .type "list_iterator", data := .fields #[.ref l, .int 0 0] }).push { cls := .type "enumerate", data := .fields #[.none, .bool false, .ref s.heap.objs.size, rawInt 1, .none, .none] } } := by
  refine .of_wp fun prog w A R s h => ?_
  obtain ⟨hl, h⟩ := h
  have hsub := sub_enumerate
  have hL : s.heap.IsList l items := ⟨_, hl, rfl, m, rfl⟩
  obtain ⟨hp, g, d, tk, os⟩ := s
  wp_walk using PySem.AutoSeq1.wpAny_loadPart' hl
  refine wpAny_stack_any fun st => wpAny_pure ?_
  split
  · rename_i c _ _ _ _ _
    cases hcc : (c == Value.type "enumerate") <;> wp_walk using PySem.AutoSeq1.wpAny_loadPart' hl, wpAny_pyIter_list hL
    all_goals (refine ⟨_, rfl, ?_⟩; rw [Heap.size_push]; exact h)
  · wp_walk using PySem.AutoSeq1.wpAny_loadPart' hl, wpAny_pyIter_list hL
    refine ⟨_, rfl, ?_⟩; rw [Heap.size_push]; exact h
theorem oi_enum {self a v : Value} : Meets (Builtin.«object.__init__» ⟨[self, a], [("start", v)]⟩) fun _ R s => s.TypeIs self "enumerate" ∧ R (.ok (.ret .none)) s := by
  have hl := F.called_enumerate.init.lookup
  have hm := F.called_enumerate.made
  have hne : (some "enumerate.__new__" != some "object.__new__") = true := by decide
  refine .of_wp fun prog w A R s h => ?_
  obtain ⟨hT, hq⟩ := h
  repeat (any_goals (first | wp_step | assumption))
  all_goals exact ⟨_, rfl, hq⟩
section
variable {prog : Program} {w : World} {A : Around} {E : Value → Shared → Prop} {s : Shared}
theorem call_enum {l : Addr} {items : Array Value} {m : Nat} {sl : Array (Option Value)} {t : Tok} {Q : Value → Shared → Prop} (hl : s.heap.get? l = some { cls := .type "list", dict := none, data := .seq items m, slots := sl })
    (h : Q (.ref (s.heap.objs.size + 1)) { s with heap := (s.heap.push { cls := .type "list_iterator", data := .fields #[.ref l, .int 0 0] }).push { cls := .type "enumerate", data := .fields #[.none, .bool false, .ref s.heap.objs.size, rawInt 1, .none, .none] } }) :
    wpAny (model prog w) A (call (.type "enumerate") [.ref l] [("start", .int 1 t)]) Q E s := by
  have ft := F.called_enumerate
  obtain ⟨c, tl, hmro⟩ := ft.mro
  have hmade := ft.made
  have hsub := ft.sub
  have hct := tc_enum (.ref l) (.int 1 t)
  refine wpAny_call (codeAny_of_tree (wpAny_pure (?_ : _ ∧ _)))
  refine ⟨Code.quiet_builtin _ (by decide +kernel), codeAny_builtin F.entry_type_call ?_⟩
  rw [Around.under_plain (weight_type_call_type "enumerate" _ _) (units_type_call_type "enumerate" _ _)]
  have h1 := ft.notType
  have h2 := ft.canCreate
  repeat (any_goals (first | wp_step | assumption))
  let s' : Shared := { s with heap := (s.heap.push { cls := .type "list_iterator", data := .fields #[.ref l, .int 0 0] }).push { cls := .type "enumerate", data := .fields #[.none, .bool false, .ref s.heap.objs.size, rawInt 1, .none, .none] } }
  have key : codeAny (model prog w) A.in1 (.call (.builtin "enumerate.__new__") ⟨[.type "enumerate", .ref l], [("start", .int 1 t)]⟩) (fun r s1 => r = .ok (.ret (.ref (s.heap.objs.size + 1))) ∧ s1 = s') s :=
    codeAny_call_builtin ft.plain F.entry_enumerate_new (wpAny_of_eq (nc_enum _ _) (mt_enum l items m sl t prog w A.in1 (fun r s1 => r = .ok (.ret (.ref (s.heap.objs.size + 1))) ∧ s1 = s') s ⟨hl, rfl, rfl⟩))
  refine codeAny_mono key fun r s₁ hr => ?_
  obtain ⟨rfl, rfl⟩ := hr
  have hz : (s.heap.push { cls := .type "list_iterator", data := .fields #[.ref l, .int 0 0] }).objs.size = s.heap.objs.size + 1 := Heap.size_push ..
  have hT : s'.TypeIs (.ref (s.heap.objs.size + 1)) "enumerate" := ⟨_, by rw [← hz]; exact Heap.get?_push_size _ rfl, rfl⟩
  have hq : Q (.ref (s.heap.objs.size + 1)) s' := h
  clear_value s'
  have hli := ft.init.lookup
  have hbi := ft.init.bind (.ref (s.heap.objs.size + 1))
  show wpAny _ _ _ _ _ _
  repeat (any_goals (first | wp_step | assumption))
  have key2 : codeAny (model prog w) A.in1 (.call (.builtin "object.__init__") ⟨[.ref (s.heap.objs.size + 1), .ref l], [("start", .int 1 t)]⟩) (fun r s1 => r = .ok (.ret .none) ∧ s1 = s') s' :=
    codeAny_call_builtin ft.init.plain F.entry_object_init (ft.init.check _ _ _ _ _ _ _ _ hT (ao_enum _ _ _) (oi_enum prog w A.in1 (fun r s1 => r = .ok (.ret .none) ∧ s1 = s') s' ⟨hT, rfl, rfl⟩))
  refine codeAny_mono key2 fun r s₂ hr => ?_
  obtain ⟨rfl, rfl⟩ := hr
  show wpAny _ _ _ _ _ _
  repeat (any_goals (first | wp_step | assumption))
/-- a list's iterator, its items counted from 1 -/
theorem draws_from1 (hh : A.handled = none) (it l : Addr) (hne : l ≠ it) (items : Array Value) :
    Draws prog w A it [it, l] (items.size + 1) (fun j v => ∃ i, j = i + 1 ∧ items[i]? = some v) (fun j h => ∃ i, j = i + 1 ∧ h.IsListIter it l i ∧ h.IsList l items) := by
  have D := Draws.list (prog := prog) (w := w) (A := A) hh it l hne items
  refine ⟨fun j h ⟨i, _, st⟩ => D.live i h st, fun j h h' ⟨i, e, st⟩ hk => ⟨i, e, D.frame i h h' st hk⟩, fun j s Q E hj ⟨i, e, st⟩ hQ => ?_, fun s Q E ⟨i, e, st⟩ hE => ?_⟩
  · subst e
    exact D.item i s Q E (by omega) st fun x h' tk hx st' hs => hQ x h' tk ⟨i, rfl, hx⟩ ⟨i + 1, rfl, st'⟩ hs
  · have e' : i = items.size := by omega
    subst e'
    exact D.done s Q E st hE
end
section
variable {X : Cx} {pins : List (Addr × Obj)} {σ : St} {H : Hp} {s : Shared} {h' : Heap}
/-- two records of ours have turned, a tuple is new -/
theorem Inv.turned2 {t' : Nat} {e it T : Addr} {xs : List V} {us : List Value} (I : Inv X pins σ H s) (fe : FpOk X pins H e) (fi : FpOk X pins H it) (k : ∀ b o, b ≠ e → b ≠ it → s.heap.get? b = some o → h'.get? b = some o)
    (hT : s.heap.objs.size ≤ T) (r : Vals xs us) (hz : xs.length ≤ sizeLine) (ht : IsTup h' T us.toArray) : Inv X pins σ (upd H T (.tup xs)) { s with heap := h', toks := t' } := by
  obtain ⟨e0, e1, e2, e3, e4, e5⟩ := fe
  obtain ⟨i0, i1, i2, i3, i4, i5⟩ := fi
  have hn : H T = none := I.hok.fresh hT
  have nT : ∀ b o, s.heap.get? b = some o → b ≠ T := fun b o q => Nat.ne_of_lt (Nat.lt_of_lt_of_le (Heap.lt_size q) hT)
  have kc : ∀ b o, b ∉ [e, it] → s.heap.get? b = some o → h'.get? b = some o := fun b o hb q => k b o (fun z => hb (by simp [z])) (fun z => hb (by simp [z])) q
  have up : ∀ b u, H b = some u → upd H T (.tup xs) b = some u := fun b u q => by rw [upd_ne (ne_of_none q hn)]; exact q
  refine I.step (g' := s.gens) (d' := s.drawn) (ch := [e, it]) (fun b hb => ?_) (fun b o _ _ hc q _ => kc b o hc q) (fun b o _ _ hc q _ => ⟨o.slots, kc b o hc q⟩) (fun b o _ q n => by rw [upd_ne (nT b o q)]; exact n)
    (fun b o hc q => ⟨o, kc b o hc q⟩) (fun b ys q => up b _ q) (fun b o u q => up b _ q) (fun b ps q => ⟨#[], by rw [up b _ q]; simp⟩) (fun m hm => ?_) (fun b u q => ?_) I.bare
  · rcases List.mem_cons.mp hb with rfl | hb
    · exact ⟨e3, e1, e4, e5⟩
    · rw [List.mem_singleton.mp hb]; exact ⟨i3, i1, i4, i5⟩
  · obtain ⟨o, es, ep, ho, hr⟩ := hm
    exact ⟨o, es, ep, k _ o (Ne.symm e1) (Ne.symm i1) ho, hr⟩
  · by_cases hb : b = T
    · subst hb; rw [upd_same] at q; cases q; exact ⟨hz, us, r, ht⟩
    · rw [upd_ne hb] at q
      have nn : ∀ c v, H c = some v → c ≠ e ∧ c ≠ it := fun c v z => ⟨fun y => (by rw [y, e0] at z; cases z), fun y => (by rw [y, i0] at z; cases z)⟩
      refine (I.hok b u q).stay (fun c v hc z => ?_) (fun c z => up c _ z) fun c ys z => up c _ z
      rcases hc with y | y
      · subst y; exact k c v (nn c u q).1 (nn c u q).2 z
      · exact k c v (nn c _ y).1 (nn c _ y).2 z
theorem Inv.turned2n {t' : Nat} {e it : Addr} (I : Inv X pins σ H s) (fe : FpOk X pins H e) (fi : FpOk X pins H it) (k : ∀ b o, b ≠ e → b ≠ it → s.heap.get? b = some o → h'.get? b = some o) : Inv X pins σ H { s with heap := h', toks := t' } := by
  obtain ⟨e0, e1, e2, e3, e4, e5⟩ := fe
  obtain ⟨i0, i1, i2, i3, i4, i5⟩ := fi
  have kc : ∀ b o, b ∉ [e, it] → s.heap.get? b = some o → h'.get? b = some o := fun b o hb q => k b o (fun z => hb (by simp [z])) (fun z => hb (by simp [z])) q
  refine I.step (g' := s.gens) (d' := s.drawn) (ch := [e, it]) (fun b hb => ?_) (fun b o _ _ hc q _ => kc b o hc q) (fun b o _ _ hc q _ => ⟨o.slots, kc b o hc q⟩) (fun b o _ q n => n)
    (fun b o hc q => ⟨o, kc b o hc q⟩) (fun b ys q => q) (fun b o u q => q) (fun b ps q => ⟨#[], by rw [q]; simp⟩) (fun m hm => ?_) (fun b u q => ?_) I.bare
  · rcases List.mem_cons.mp hb with rfl | hb
    · exact ⟨e3, e1, e4, e5⟩
    · rw [List.mem_singleton.mp hb]; exact ⟨i3, i1, i4, i5⟩
  · obtain ⟨o, es, ep, ho, hr⟩ := hm
    exact ⟨o, es, ep, k _ o (Ne.symm e1) (Ne.symm i1) ho, hr⟩
  · have nn : ∀ c v, H c = some v → c ≠ e ∧ c ≠ it := fun c v z => ⟨fun y => (by rw [y, e0] at z; cases z), fun y => (by rw [y, i0] at z; cases z)⟩
    refine (I.hok b u q).stay (fun c v hc z => ?_) (fun c z => z) fun c ys z => z
    rcases hc with y | y
    · subst y; exact k c v (nn c u q).1 (nn c u q).2 z
    · exact k c v (nn c _ y).1 (nn c _ y).2 z
end
/-- enumerate's pairs from 1 on, of the list at a -/
def Ite (K : PySem.W.Frag) (a : Addr) : It :=
  ⟨fun i H => ∃ xs x, SqL K H a xs ∧ xs[i]? = some x, fun i H v H' => ∃ T x, H T = none ∧ v = .ref T ∧ (∀ xs, SqL K H a xs → xs[i]? = some x) ∧ H' = upd H T (.tup [.int ((i : Int) + 1), x]), fun i H => ∃ xs, SqL K H a xs ∧ xs.length = i⟩
theorem turn_enum {P : Program} {w : World} {K : PySem.W.Frag} {els : List Expr} {kk : Nat} {pp : Pos} (a e it : Addr) (hei : e ≠ it) : Turn P w K (.Tuple els kk pp) (Ite K a) [e, it] e (fun i h => (∃ old, IsEnum h e it ((i : Int) + 1) old) ∧ h.IsListIter it a i) where
  mem := by simp
  obj := fun i h st b hb => by
    obtain ⟨⟨old, he⟩, o, ho, _, hd⟩ := st
    rcases List.mem_cons.mp hb with rfl | hb
    · exact ⟨_, he, fun v z => by cases z⟩
    · rw [List.mem_singleton.mp hb]; exact ⟨o, ho, fun v z => by rw [hd] at z; cases z⟩
  keep := fun i h h' st hk => by
    obtain ⟨⟨old, he⟩, o, ho, r⟩ := st
    exact ⟨⟨old, hk e (by simp) _ he⟩, o, hk it (by simp) o ho, r⟩
  item := fun X hP hw hK hc i pins s σ H E I hf st hg => by
    subst hP hw hK
    obtain ⟨xs, x, hq, hx⟩ := hg
    obtain ⟨its, rv, p, hz⟩ := I.list hq
    obtain ⟨⟨old, he⟩, hit⟩ := st
    have fe := hf e (by simp)
    have fi := hf it (by simp)
    obtain ⟨u, hu, ru⟩ := rv.get hx
    have il := p.isList
    have nae : a ≠ e := fun z => by
      obtain ⟨o, ho, c1, _⟩ := il
      rw [z, he] at ho; cases ho; injection c1 with y; exact absurd y (by decide)
    have nai : a ≠ it := fun z => by
      obtain ⟨o, ho, c1, _⟩ := il
      obtain ⟨o2, ho2, c2, _⟩ := hit
      rw [z, ho2] at ho; cases ho; rw [c2] at c1; injection c1 with y; exact absurd y (by decide)
    have W := WalksT.enumerateD (prog := X.prog) (w := X.w) (A := X.A) (draws_from1 (prog := X.prog) (w := X.w) (A := X.A.in1) (I.ok.hd hc) it a nai its.toArray) e hei (by simp [hei, Ne.symm nae]) (by simp)
    refine W.item (i + 1) s _ E (by have := (List.getElem?_eq_some_iff.mp hu).1; simp; omega) ⟨⟨old, by simpa using he⟩, i, rfl, hit, il⟩ fun T vals h1 tk ⟨t, y, ⟨i', ei, hy⟩, ev⟩ hT htu hm hk => ?_
    refine ⟨.ref T, rfl, W.go els kk pp (i + 1) T _ _ E hm fun h2 st2 hk2 => ?_⟩
    obtain ⟨⟨old2, he2⟩, i2, e2, hit2, _⟩ := st2
    have e3 : i' = i := by omega
    have e4 : i2 = i + 1 := by omega
    subst e3 e4 ev
    have ey : y = u := by
      have q1 : its.toArray[i']? = some u := by simpa using hu
      exact Option.some.inj (hy.symm.trans q1)
    subst ey
    have hTw : T ∉ [e, it] := W.apart _ _ _ hm
    have ht2 : IsTup h2 T #[.int ((i' : Int) + 1) t, y] := by
      obtain ⟨o, ho, c⟩ := htu
      exact ⟨o, hk2 T o hTw ho, c⟩
    refine ⟨.ref T, upd H T (.tup [.int ((i' : Int) + 1), x]), ?_, rfl, ⟨T, x, I.hok.fresh hT, rfl, fun zs hzs => (by rw [I.list_inj hzs hq]; exact hx), rfl⟩, ⟨⟨old2, by simpa using he2⟩, hit2⟩, fun b hb => ?_⟩
    · have I2 := I.turned2 (h' := h2) (t' := tk) (xs := [.int ((i' : Int) + 1), x]) (us := [.int ((i' : Int) + 1) t, y]) fe fi (fun b o b1 b2 q => hk2 b o (by simp [b1, b2]) (hk b o (by simp [b1, b2]) q)) hT (.cons ⟨_, rfl⟩ (.cons ru .nil)) (by show 2 ≤ sizeLine; decide) ht2
      exact I2
    · have nb : b ≠ T := fun z => hTw (z ▸ hb)
      rw [upd_ne nb]; exact (hf b hb).1
  done := fun X hP hw hK hc i pins s σ H E I hf st hg => by
    subst hP hw hK
    obtain ⟨xs, hq, hx⟩ := hg
    obtain ⟨its, rv, p, hz⟩ := I.list hq
    obtain ⟨⟨old, he⟩, hit⟩ := st
    have fe := hf e (by simp)
    have fi := hf it (by simp)
    have il := p.isList
    have nae : a ≠ e := fun z => by
      obtain ⟨o, ho, c1, _⟩ := il
      rw [z, he] at ho; cases ho; injection c1 with y; exact absurd y (by decide)
    have nai : a ≠ it := fun z => by
      obtain ⟨o, ho, c1, _⟩ := il
      obtain ⟨o2, ho2, c2, _⟩ := hit
      rw [z, ho2] at ho; cases ho; rw [c2] at c1; injection c1 with y; exact absurd y (by decide)
    have W := WalksT.enumerateD (prog := X.prog) (w := X.w) (A := X.A) (draws_from1 (prog := X.prog) (w := X.w) (A := X.A.in1) (I.ok.hd hc) it a nai its.toArray) e hei (by simp [hei, Ne.symm nae]) (by simp)
    have el : its.toArray.size + 1 = i + 1 := by rw [List.size_toArray, ← rv.length, hx]
    refine W.done s _ E (by rw [el]; exact ⟨⟨old, by simpa using he⟩, i, rfl, hit, il⟩) fun h' tk hk => ⟨rfl, ?_⟩
    exact I.turned2n (h' := h') (t' := tk) fe fi fun b o b1 b2 q => hk b o (by simp [b1, b2]) q
  self := fun A i s Q E st h => by
    obtain ⟨⟨old, he⟩, _⟩ := st
    exact wpAny_pyIter_enum he h
theorem cw_type_kw {M : Model} {A : Around} {E : Value → Shared → Prop} {s : Shared} {pos : Pos} {T : String} {args : List (Bool × Sem Value)} {kws : List (Option Str × Sem Value)} {Q : Value → Shared → Prop} (hp : args.any (·.1) = false) (hk : kws.any (·.1.isNone) = false)
    (h : wpAny M A (evalArgs (.type T) true args kws) (fun z sz => wpAny M A (call (.type T) z.pos z.kw) Q E sz) E s) : wpAny M A (callWith pos (.type T) [] args kws) Q E s := by
  unfold callWith
  refine wpAny_bind (wpAny_holding (wpAny_mono h (fun z sz hz => wpAny_bind (wpAny_standAt ?_)) fun _ _ y => y))
  simp only [hp, hk, Bool.or_false]
  refine wpAny_bind (wpAny_pure (wpAny_bind (wpAny_mono hz (fun v sv hv => wpAny_bind (wpAny_holding (wpAny_point (wpAny_pure hv)))) fun _ _ y => y)))
section
variable {X : Cx} {els : List Expr} {kk : Nat} {pp : Pos}
def iEnum (K : PySem.W.Frag) (ta : TA) : TI := fun σ H R => ta σ H fun vs H1 => ∃ a xs, vs = [.ref a] ∧ SqL K H1 a xs ∧ R (Ite K a) H1
theorem pi_enum {l : Expr} {ta : TA} {p pos kp cp : Pos} {j} (hg : Gl X "enumerate") (hm : X.mg "enumerate" = none) (ha : PA X [l] ta)
    (he : backTo pos (starEach [l] X.env) = (false, eval l X.env) :: backTo pos (starEach [] X.env) := by rfl)
    (hpl : (backTo pos (starEach [l] X.env)).any (·.1) = false := by rfl) :
    PI X (.Tuple els kk pp) (.Call (.Name "enumerate" p) [l] [⟨some "start", .Constant (.int 1) j cp, kp⟩] pos) (iEnum X.K ta) := by
  intro pins s σ H R I h
  refine wpAny_Call_Name_kw (ld_blt I hg hm bt_enumerate (cw_type_kw hpl rfl ?_))
  have hsp := ha pos pins s σ H _ I h
  rw [he] at hsp ⊢
  refine evalArgs_kwB rfl (thn hsp fun us s1 ⟨vs, H1, I1, r1, q1⟩ => ?_)
  refine kws_cons (wpAny_Constant_int (kws_nil ?_))
  obtain ⟨a, xs, rfl, hq, q⟩ := q1
  obtain ⟨u, rfl, ru⟩ := vals1 r1
  cases ru
  have I2 := I1.tok (s1.toks + 1)
  obtain ⟨its, rv, ⟨⟨oc, od, odt, sl⟩, m, pl, c1, c2, c3⟩, hz⟩ := I2.list hq
  simp only at c1 c2 c3
  subst c1 c2 c3
  refine call_enum (items := its.toArray) (m := m) (sl := sl) pl ?_
  have hs : (s1.heap.push { cls := .type "list_iterator", data := .fields #[.ref a, .int 0 0] }).objs.size = s1.heap.objs.size + 1 := Heap.size_push ..
  have hE : IsEnum ((s1.heap.push { cls := .type "list_iterator", data := .fields #[.ref a, .int 0 0] }).push { cls := .type "enumerate", data := .fields #[.none, .bool false, .ref s1.heap.objs.size, rawInt 1, .none, .none] }) (s1.heap.objs.size + 1) s1.heap.objs.size 1 .none := by
    rw [← hs]; exact Heap.get?_push_size _ rfl
  refine wpAny_pyIter_enum hE ?_
  refine ⟨s1.heap.objs.size + 1, [s1.heap.objs.size + 1, s1.heap.objs.size], _, Ite X.K a, H1, rfl, I2.kept (t' := s1.toks + 1) fun b o e => Heap.get?_push_of_some _ (Heap.get?_push_of_some _ e), turn_enum a (s1.heap.objs.size + 1) s1.heap.objs.size (Nat.succ_ne_self _), ⟨⟨_, hE⟩, _, Heap.get?_push_of_some _ (Heap.get?_push_size _ rfl), rfl, rfl⟩, fun b hb => ?_, q⟩
  rcases List.mem_cons.mp hb with rfl | hb
  · exact I2.fpOk (Nat.le_succ _) (I2.hok.fresh (Nat.le_succ _))
  · rw [List.mem_singleton.mp hb]; exact I2.fpOk (Nat.le_refl _) (I2.hok.fresh (Nat.le_refl _))
end
/-- for place, word in enumerate(list, start=1): the list stays -/
theorem for_enum {K : PySem.W.Frag} {a : Addr} {xs : List V} {g : TG} {tb : TS} {D : Ends} {σ : St} {H : Hp} (Pv : Nat → St → Hp → Prop) (h0 : Pv 0 σ H) (hl : ∀ (i : Nat) (σ : St) (H : Hp), i ≤ xs.length → Pv i σ H → SqL K H a xs)
    (turn : ∀ (i : Nat) (x : V) (σ : St) (H : Hp) (T : Addr), xs[i]? = some x → Pv i σ H → H T = none → g (.ref T) σ (upd H T (.tup [.int ((i : Int) + 1), x])) fun σ2 H2 => tb { nx := Pv (i + 1), rt := D.rt, bk := D.nx, ct := Pv (i + 1) } σ2 H2)
    (done : ∀ (σ : St) (H : Hp), Pv xs.length σ H → D.nx σ H) :
    ∃ W : Nat → Nat → St → Hp → Prop, (∃ m, W 0 m σ H) ∧ ∀ i m σ H, W i m σ H →
      ((Ite K a).stop i H ∧ D.nx σ H) ∨ ((Ite K a).go i H ∧ ∃ N : St → Hp → Prop, (∀ σ' H', N σ' H' → ∃ m', m' < m ∧ W (i + 1) m' σ' H') ∧ ∀ x H', (Ite K a).yld i H x H' → g x σ H' fun σ2 H2 => tb { D with nx := N, ct := N, bk := D.nx } σ2 H2) := by
  refine ⟨fun i m σ H => m = xs.length - i ∧ i ≤ xs.length ∧ Pv i σ H, ⟨_, rfl, Nat.zero_le _, h0⟩, ?_⟩
  rintro i m σ H ⟨rfl, hi, hp⟩
  by_cases hlt : i < xs.length
  · refine .inr ⟨⟨xs, xs[i], hl i σ H hi hp, by simp [hlt]⟩, Pv (i + 1), fun σ' H' hn => ⟨xs.length - (i + 1), by omega, rfl, hlt, hn⟩, ?_⟩
    rintro x H' ⟨T, y, hT, rfl, hy, rfl⟩
    exact turn i y σ H T (hy xs (hl i σ H hi hp)) hp hT
  · have e : i = xs.length := by omega
    subst e
    exact .inl ⟨⟨xs, hl _ σ H hi hp, rfl⟩, done σ H hp⟩
/-- [f(place, word) for place, word in enumerate(list, start=1)] -/
theorem comp_enum {K : PySem.W.Frag} {a : Addr} {xs : List V} {fr : List (Option Nat)} {i0 i1 : Nat} {n : Nat} {te : TE} {Q : VK} {σ : St} {H : Hp} (f : Nat → V → V) (h1 : H a = some (.lst xs)) (hn : xs.length ≤ 1000000) (h2 : n = 2)
    (helt : ∀ (i : Nat) (x : V) (H' : Hp) (R : VK), xs[i]? = some x → Same H H' → (∀ H'', Same H' H'' → R (f i x) H'') → te (((stC fr σ).set i0 (some (.int ((i : Int) + 1)))).set i1 (some x)) H' R) (hne : i0 ≠ i1)
    (hQ : ∀ l H', H l = none → Same H H' → H' l = some (.lst ((List.range xs.length).map fun i => f i (xs.getD i .non))) → Q (.ref l) H') :
    tCompK fr (gTup K n (gCons (gName i0) (gCons (gName i1) gNil))) tYes te σ Q (Ite K a) H := by
  intro l hl
  have hal : a ≠ l := ne_of_none h1 hl
  refine ⟨fun i m σ' H' => m = xs.length - i ∧ i ≤ xs.length ∧ (∀ y z, (σ'.set i0 y).set i1 z = ((stC fr σ).set i0 y).set i1 z) ∧ Same H H' ∧ H' l = some (.lst ((List.range i).map fun i => f i (xs.getD i .non))), ⟨xs.length, by simp, Nat.zero_le _, fun _ _ => rfl, same_new hl _, by rw [upd_same]; rfl⟩, ?_⟩
  rintro i m σ' H' ⟨rfl, hi, hσ, hs, hl'⟩
  have ha' := hs.get h1
  by_cases hlt : i < xs.length
  · refine .inr ⟨⟨xs, xs[i], SqL.of ha', by simp [hlt]⟩, ?_⟩
    rintro x H'' ⟨T, y, hT, rfl, hy, rfl⟩
    have hyi := hy xs (SqL.of ha')
    have st := same_new hT (.tup [.int ((i : Int) + 1), y])
    subst h2
    refine ⟨T, _, rfl, SqT.of upd_same, rfl, _, _, rfl, _, _, rfl, rfl, ?_⟩
    show te ((σ'.set i0 (some (.int ((i : Int) + 1)))).set i1 (some y)) _ _
    rw [hσ]
    refine helt i y _ _ hyi (hs.trans st) fun H4 s4 => ?_
    refine ⟨_, s4.get (st.get hl'), smallLt (by rw [List.length_map, List.length_range]; omega), xs.length - (i + 1), by omega, rfl, hlt, fun y z => ?_, same_upd ((hs.trans st).trans s4) hl _, ?_⟩
    · rw [List.set_comm _ _ (Ne.symm hne), List.set_set, List.set_set]
    · rw [upd_same, List.range_succ, List.map_append]
      simp [List.getD, hyi]
  · have e : i = xs.length := by omega
    subst e
    exact .inl ⟨⟨xs, SqL.of ha', rfl⟩, hQ l H' hl hs hl'⟩
end L2

/-! ### pairs in a comprehension, None against a list, the last one left out -/
namespace L2
open PySem PySem.Spec PyProof.Rows
theorem pg_tupK {X : Cx} {K : PySem.W.Frag} {pos : Pos} {es : List Expr} {k : Nat} {t : TGs} {n : Nat} (hK : X.K = K) (hc : X.calm = true) (h : PGs X es t) (hn : (assignEach es X.env).length = n := by rfl) (hs : (assignEach es X.env).findIdx? (·.1) = none := by rfl) : PG X (.Tuple es k pos) (gTup K n t) := by
  subst hK
  exact pg_tup hc h hn hs
section
variable {X : Cx}
def rEqN (K : PySem.W.Frag) (neg : Bool) : R2 := fun x y H Q => rEqL K neg x y H Q ∨ (x = .non ∧ ∃ b ys, y = .ref b ∧ SqL K H b ys ∧ Q (.bl neg) H)
theorem op_eqN (hu : X.A.units + 1 < cLine) : OpR X (compareOp .Eq) (rEqN X.K false) := by
  intro pins s σ H x y v u Q I rx ry h
  rcases h with h | ⟨rfl, b, ys, rfl, h2, q⟩
  · exact op_eqD hu pins s σ H x y v u Q I rx ry h
  · cases rx
    cases ry
    obtain ⟨its2, r2, p2, _⟩ := I.list h2
    exact SeqAt.RcAt.none_list p2.isList (by omega) _ _ _ _ ⟨.bl _, H, I, rfl, q⟩
theorem op_neN (hu : X.A.units + 1 < cLine) : OpR X (compareOp .NotEq) (rEqL X.K true) := op_neD hu
end
theorem cut_last {xs : List V} : cutV xs none (some (-1)) = xs.dropLast := by
  unfold cutV HT.sIx
  rw [List.dropLast_eq_take]
  simp only [List.drop_zero, Nat.sub_zero]
  rw [if_pos (by decide)]
  congr 1
  omega
end L2


namespace L2
open PySem PySem.Spec PyProof.Rows

/-! ### lists of pairs as tables -/
section
variable {κ : Type} [DecidableEq κ]
def valV (kvs : List (κ × V)) (k : κ) : Option V := (kvs.find? fun kv => decide (kv.1 = k)).map (·.2)
/-- in its place, or at the end -/
def putK (kvs : List (κ × V)) (k : κ) (v : V) : List (κ × V) :=
  if (kvs.any fun kv => decide (kv.1 = k)) = true then kvs.map (fun kv => if kv.1 = k then (kv.1, v) else kv) else kvs ++ [(k, v)]
def dropK (kvs : List (κ × V)) (k : κ) : List (κ × V) := kvs.filter fun kv => decide (kv.1 ≠ k)

theorem valV_nil {k : κ} : valV ([] : List (κ × V)) k = none := rfl
theorem valV_pos {p : κ × V} {r : List (κ × V)} {k : κ} (e : p.1 = k) : valV (p :: r) k = some p.2 := by simp [valV, List.find?_cons, e]
theorem valV_neg {p : κ × V} {r : List (κ × V)} {k : κ} (e : ¬ p.1 = k) : valV (p :: r) k = valV r k := by simp [valV, List.find?_cons, e]
theorem valV_any (k : κ) : ∀ kvs : List (κ × V), (kvs.any fun kv => decide (kv.1 = k)) = (valV kvs k).isSome
  | [] => rfl
  | p :: r => by
    rw [List.any_cons]
    by_cases e : p.1 = k
    · simp only [valV_pos e, decide_eq_true e, Bool.true_or, Option.isSome_some]
    · rw [valV_neg e, decide_eq_false e, Bool.false_or]; exact valV_any k r
theorem valV_map (k j : κ) (y : V) : ∀ kvs : List (κ × V), valV (kvs.map fun kv => if kv.1 = k then (kv.1, y) else kv) j = (valV kvs j).map fun x => if j = k then y else x
  | [] => rfl
  | p :: r => by
    have ih := valV_map k j y r
    rw [List.map_cons]
    by_cases h : p.1 = k
    · rw [if_pos h]
      by_cases e : p.1 = j
      · rw [valV_pos (p := (p.1, y)) e, valV_pos e, Option.map_some, if_pos (e.symm.trans h)]
      · rw [valV_neg (p := (p.1, y)) e, valV_neg e, ih]
    · rw [if_neg h]
      by_cases e : p.1 = j
      · rw [valV_pos (p := p) e, valV_pos e, Option.map_some, if_neg (fun z => h (e.trans z))]
      · rw [valV_neg (p := p) e, valV_neg e, ih]
theorem valV_snoc (k j : κ) (y : V) : ∀ kvs : List (κ × V), valV kvs k = none → valV (kvs ++ [(k, y)]) j = if j = k then some y else valV kvs j
  | [], _ => by
    by_cases e : k = j
    · rw [if_pos e.symm]; exact valV_pos (p := (k, y)) e
    · rw [if_neg (fun z => e z.symm)]; exact valV_neg (p := (k, y)) e
  | p :: r, hn => by
    rw [List.cons_append]
    have hk : ¬ p.1 = k := fun z => by rw [valV_pos z] at hn; cases hn
    rw [valV_neg hk] at hn
    have ih := valV_snoc k j y r hn
    by_cases e : p.1 = j
    · rw [valV_pos e, valV_pos e, if_neg (fun z => hk (e.trans z))]
    · rw [valV_neg e, valV_neg e, ih]
theorem valV_put (kvs : List (κ × V)) (k j : κ) (y : V) : valV (putK kvs k y) j = if j = k then some y else valV kvs j := by
  unfold putK
  by_cases a : (kvs.any fun kv => decide (kv.1 = k)) = true
  · rw [if_pos a, valV_map]
    rw [valV_any] at a
    by_cases e : j = k
    · obtain ⟨x, hx⟩ := Option.isSome_iff_exists.mp a
      rw [if_pos e, e, hx, Option.map_some, if_pos rfl]
    · rw [if_neg e]
      cases valV kvs j with
      | none => rfl
      | some x => rw [Option.map_some, if_neg e]
  · rw [if_neg a]
    refine valV_snoc k j y kvs ?_
    rw [valV_any] at a
    cases q : valV kvs k with
    | none => rfl
    | some x => rw [q] at a; exact (a rfl).elim
theorem length_putK (kvs : List (κ × V)) (k : κ) (v : V) : (putK kvs k v).length ≤ kvs.length + 1 := by
  unfold putK
  split
  · rw [List.length_map]; omega
  · rw [List.length_append, List.length_cons, List.length_nil]; omega
theorem putK_new {kvs : List (κ × V)} {k : κ} (v : V) (h : valV kvs k = none) : putK kvs k v = kvs ++ [(k, v)] := by
  unfold putK
  rw [valV_any, h]
  exact if_neg (by decide)

theorem RelO.isSome_eq {o : Option V} {u : Option Value} (r : RelO o u) : o.isSome = u.isSome := by
  cases o with
  | none => cases u with
    | none => rfl
    | some _ => exact (show False from r).elim
  | some _ => cases u with
    | none => exact (show False from r).elim
    | some _ => rfl
theorem RelO.getD {o : Option V} {u : Option Value} {d : V} {d' : Value} (r : RelO o u) (rd : RelV d d') : RelV (o.getD d) (u.getD d') := by
  cases o with
  | none => cases u with
    | none => exact rd
    | some _ => exact (show False from r).elim
  | some _ => cases u with
    | none => exact (show False from r).elim
    | some _ => exact r

/-- raw tables of the same keys -/
theorem KV.val {kvs : List (κ × V)} {vs : List (κ × Value)} (r : KV kvs vs) (k : κ) : RelO (valV kvs k) (valueAt vs k) := by
  unfold KV at r
  induction r with
  | nil => exact True.intro
  | @cons p q ps qs h t ih =>
    obtain ⟨h1, h2⟩ := h
    by_cases e : p.1 = k
    · have e' : q.1 = k := h1.symm.trans e
      have b : valueAt (q :: qs) k = some q.2 := by simp [valueAt, List.find?_cons, e']
      rw [valV_pos e, b]; exact h2
    · have e' : ¬ q.1 = k := fun z => e (h1.trans z)
      have b : valueAt (q :: qs) k = valueAt qs k := by simp [valueAt, List.find?_cons, e']
      rw [valV_neg e, b]; exact ih
theorem KV.any {kvs : List (κ × V)} {vs : List (κ × Value)} (r : KV kvs vs) (k : κ) : (kvs.any fun kv => decide (kv.1 = k)) = vs.any fun kv => decide (kv.1 = k) := by
  unfold KV at r
  induction r with
  | nil => rfl
  | cons h t ih => rw [List.any_cons, List.any_cons, ih, h.1]
theorem KV.repl {kvs : List (κ × V)} {vs : List (κ × Value)} (r : KV kvs vs) (k : κ) {y : V} {u : Value} (ry : RelV y u) :
    KV (kvs.map fun kv => if kv.1 = k then (kv.1, y) else kv) (vs.map fun kv => if kv.1 = k then (kv.1, u) else kv) := by
  unfold KV at r ⊢
  induction r with
  | nil => exact .nil
  | @cons p q ps qs h t ih =>
    rw [List.map_cons, List.map_cons]
    refine .cons ?_ ih
    obtain ⟨h1, h2⟩ := h
    by_cases e : p.1 = k
    · rw [if_pos e, if_pos (h1.symm.trans e)]; exact ⟨h1, ry⟩
    · rw [if_neg e, if_neg (fun z => e (h1.trans z))]; exact ⟨h1, h2⟩
theorem KV.put {kvs : List (κ × V)} {vs : List (κ × Value)} (r : KV kvs vs) (k : κ) {y : V} {u : Value} (ry : RelV y u) : KV (putK kvs k y) (stored vs k u) := by
  unfold putK stored
  rw [r.any k]
  by_cases e : (vs.any fun kv => decide (kv.1 = k)) = true
  · rw [if_pos e, if_pos e]; exact r.repl k ry
  · rw [if_neg e, if_neg e]; exact Paired.snoc r ⟨rfl, ry⟩
theorem KV.drop {kvs : List (κ × V)} {vs : List (κ × Value)} (r : KV kvs vs) (k : κ) : KV (dropK kvs k) (without vs k) := by
  unfold KV at r ⊢
  unfold dropK without
  induction r with
  | nil => exact .nil
  | @cons p q ps qs h t ih =>
    obtain ⟨h1, h2⟩ := h
    rw [List.filter_cons, List.filter_cons]
    by_cases e : p.1 = k
    · have a : ¬ decide (p.1 ≠ k) = true := by simp [e]
      have b : ¬ decide (q.1 ≠ k) = true := by simp [h1.symm.trans e]
      rw [if_neg a, if_neg b]; exact ih
    · have e' : ¬ q.1 = k := fun z => e (h1.trans z)
      have a : decide (p.1 ≠ k) = true := by simp [e]
      have b : decide (q.1 ≠ k) = true := by simp [e']
      rw [if_pos a, if_pos b]; exact .cons ⟨h1, h2⟩ ih
theorem KV.keys {kvs : List (κ × V)} {vs : List (κ × Value)} (r : KV kvs vs) : kvs.map (·.1) = vs.map (·.1) := by
  unfold KV at r
  induction r with
  | nil => rfl
  | cons h t ih => rw [List.map_cons, List.map_cons, ih, h.1]
theorem KV.length {kvs : List (κ × V)} {vs : List (κ × Value)} (r : KV kvs vs) : kvs.length = vs.length := Paired.length r
theorem dropK_le (kvs : List (κ × V)) (k : κ) : (dropK kvs k).length ≤ kvs.length := List.length_filter_le _ _
end


/-! ### a tracked dict, its keys ints and texts or tuples of these -/
theorem kV_is {P : Program} {w : World} {k : Key} {u : Value} (r : RelV (kV k) u) : (mixKind P w).is k u = true := by
  cases k with
  | inl i => obtain ⟨t, e⟩ := (show ∃ t, u = Value.int i t from r); subst e; exact mixKind_int P w i t
  | inr x => obtain ⟨t, e⟩ := (show ∃ t, u = Value.str x t from r); subst e; exact mixKind_str P w x t
theorem kV_inj {a b : Key} (e : kV a = kV b) : a = b := by
  cases a with
  | inl i => cases b with
    | inl j => have e' : V.int i = V.int j := e; injection e' with e'; rw [e']
    | inr y => exact nomatch (show V.int i = V.str y from e)
  | inr x => cases b with
    | inl j => exact nomatch (show V.str x = V.int j from e)
    | inr y => have e' : V.str x = V.str y := e; injection e' with e'; rw [e']
theorem kVs_inj : ∀ {a b : List Key}, a.map kV = b.map kV → a = b
  | [], [], _ => rfl
  | [], _ :: _, e => by simp at e
  | _ :: _, [], e => by simp at e
  | x :: xs, y :: ys, e => by
    rw [List.map_cons, List.map_cons] at e
    injection e with e1 e2
    rw [kV_inj e1, kVs_inj e2]
theorem items_are {P : Program} {w : World} : ∀ {ks : List Key} {us : List Value}, Vals (ks.map kV) us → ItemsAre (mixKind P w) ks us
  | [], _, r => by rw [List.map_nil] at r; cases r; exact .nil
  | k :: ks, _, r => by
    rw [List.map_cons] at r
    cases r with
    | cons h t => exact .cons (kV_is h) (items_are t)

/-- raw entries of a dict with tuple keys -/
abbrev KT (H : Hp) : List (List Key × V) → List (List Key × Addr × Value) → Prop := Paired fun p q => p.1 = q.1 ∧ H q.2.1 = some (.tup (p.1.map kV)) ∧ RelV p.2 q.2.2
theorem KT.val {H : Hp} {kvs : List (List Key × V)} {xs : List (List Key × Addr × Value)} (r : KT H kvs xs) (k : List Key) : RelO (valV kvs k) ((atKey xs k).map (·.2)) := by
  induction r with
  | nil => exact True.intro
  | @cons p q ps qs h t ih =>
    obtain ⟨h1, _, h2⟩ := h
    by_cases e : p.1 = k
    · have e' : q.1 = k := h1.symm.trans e
      have b : atKey (q :: qs) k = some q.2 := by simp [atKey, List.find?_cons, e']
      rw [valV_pos e, b]; exact h2
    · have e' : ¬ q.1 = k := fun z => e (h1.trans z)
      have b : atKey (q :: qs) k = atKey qs k := by simp [atKey, List.find?_cons, e']
      rw [valV_neg e, b]; exact ih
theorem KT.repl {H : Hp} {kvs : List (List Key × V)} {xs : List (List Key × Addr × Value)} (r : KT H kvs xs) (k : List Key) {y : V} {u : Value} (ry : RelV y u) :
    KT H (kvs.map fun kv => if kv.1 = k then (kv.1, y) else kv) (xs.map (putAt k u)) := by
  induction r with
  | nil => exact .nil
  | @cons p q ps qs h t ih =>
    rw [List.map_cons, List.map_cons]
    refine .cons ?_ ih
    obtain ⟨h1, h2, h3⟩ := h
    unfold putAt
    by_cases e : p.1 = k
    · rw [if_pos e, if_pos (h1.symm.trans e)]; exact ⟨h1, h2, ry⟩
    · rw [if_neg e, if_neg (fun z => e (h1.trans z))]; exact ⟨h1, h2, h3⟩
theorem KT.put {H : Hp} {kvs : List (List Key × V)} {xs : List (List Key × Addr × Value)} (r : KT H kvs xs) (k : List Key) {b : Addr} {y : V} {u : Value} (hb : H b = some (.tup (k.map kV))) (ry : RelV y u) :
    KT H (putK kvs k y) (storedH xs k b u) := by
  have e : (kvs.any fun kv => decide (kv.1 = k)) = (atKey xs k).isSome := by
    rw [valV_any, (r.val k).isSome_eq, Option.isSome_map]
  unfold putK storedH
  rw [e]
  by_cases q : (atKey xs k).isSome = true
  · rw [if_pos q, if_pos q]; exact r.repl k ry
  · rw [if_neg q, if_neg q]; exact Paired.snoc r ⟨rfl, hb, ry⟩
theorem KT.keeps {H H' : Hp} {kvs : List (List Key × V)} {xs : List (List Key × Addr × Value)} (r : KT H kvs xs) (ht : ∀ b ys, H b = some (.tup ys) → H' b = some (.tup ys)) : KT H' kvs xs :=
  Paired.mapP r fun _ _ z => ⟨z.1, ht _ _ z.2.1, z.2.2⟩

section
variable {P : Program} {w : World} {H : Hp} {h : Heap} {a : Addr}
theorem rd_of {u : HO} (ok : HOk P w H h) (e : Rd H a u) : ObjOk P w H h a u := e.ok ok
theorem dk_rd {kvs : List (Key × V)} (ok : HOk P w H h) (e : Rd H a (.dK kvs)) : kvs.length ≤ sizeLine ∧ (a == sysModules) = false ∧ ∃ vs, KV kvs vs ∧ h.DictOf (mixKind P w) a vs :=
  show ObjOk P w H h a (.dK kvs) from rd_of ok e
theorem dk_of {kvs : List (Key × V)} (ok : HOk P w H h) (e : H a = some (.dK kvs)) : kvs.length ≤ sizeLine ∧ (a == sysModules) = false ∧ ∃ vs, KV kvs vs ∧ h.DictOf (mixKind P w) a vs := dk_rd ok (.inl e)
/-- a tracked tuple of ints and texts is a key -/
theorem key_of {ks : List Key} (ok : HOk P w H h) (e : H a = some (.tup (ks.map kV))) : (tupleKind (mixKind P w)).is h ks a := by
  obtain ⟨_, its, r, o, h1, h2, n, h3⟩ := (show ObjOk P w H h a (.tup (ks.map kV)) from ok a _ e)
  exact ⟨o, its.toArray, n, h1, h2, h3, by simpa using items_are r⟩
theorem dt_rd {kvs : List (List Key × V)} (ok : HOk P w H h) (e : Rd H a (.dT kvs)) : kvs.length ≤ sizeLine ∧ (a == sysModules) = false ∧
    ∃ xs, KT H kvs xs ∧ h.DictOfH (tupleKind (mixKind P w)) a xs := by
  obtain ⟨z, y, xs, r, o, es, ep, h1, h2, h3, h4, h5⟩ := (show ObjOk P w H h a (.dT kvs) from rd_of ok e)
  refine ⟨z, y, xs, r, o, es, ep, h1, h2, h3, h4, fun x hx => ?_, h5⟩
  have all : ∀ {l : List (List Key × V)} {m : List (List Key × Addr × Value)}, KT H l m → ∀ x ∈ m, (tupleKind (mixKind P w)).is h x.1 x.2.1 := by
    intro l m q
    induction q with
    | nil => intro x hx; exact nomatch hx
    | @cons p q ps qs hq t ih =>
      intro x hx
      rcases List.mem_cons.mp hx with e | hx
      · subst e
        exact key_of ok (by rw [← hq.1]; exact hq.2.1)
      · exact ih x hx
  exact all r x hx
theorem dt_of {kvs : List (List Key × V)} (ok : HOk P w H h) (e : H a = some (.dT kvs)) : kvs.length ≤ sizeLine ∧ (a == sysModules) = false ∧
    ∃ xs, KT H kvs xs ∧ h.DictOfH (tupleKind (mixKind P w)) a xs := dt_rd ok (.inl e)
end

/-- what the dict at a holds at the key y -/
def DGet (H : Hp) (a : Addr) (y : V) (r : Option V) : Prop :=
  (∃ kvs k, Rd H a (.dK kvs) ∧ y = kV k ∧ r = valV kvs k) ∨ ∃ kvs k b, Rd H a (.dT kvs) ∧ y = .ref b ∧ H b = some (.tup (k.map kV)) ∧ r = valV kvs k
/-- the heap behind a[y] = v -/
def DPut (H : Hp) (a : Addr) (y v : V) (H' : Hp) : Prop :=
  (∃ kvs k, H a = some (.dK kvs) ∧ y = kV k ∧ kvs.length < sizeLine ∧ H' = upd H a (.dK (putK kvs k v))) ∨
  ∃ kvs k b, H a = some (.dT kvs) ∧ y = .ref b ∧ H b = some (.tup (k.map kV)) ∧ kvs.length < sizeLine ∧ H' = upd H a (.dT (putK kvs k v))
theorem DGet.k {H : Hp} {a : Addr} {kvs : List (Key × V)} {k : Key} (e : H a = some (.dK kvs)) : DGet H a (kV k) (valV kvs k) := .inl ⟨kvs, k, .inl e, rfl, rfl⟩
theorem DGet.t {H : Hp} {a b : Addr} {kvs : List (List Key × V)} {k : List Key} (e : H a = some (.dT kvs)) (eb : H b = some (.tup (k.map kV))) : DGet H a (.ref b) (valV kvs k) := .inr ⟨kvs, k, b, .inl e, rfl, eb, rfl⟩
theorem DPut.k {H : Hp} {a : Addr} {kvs : List (Key × V)} {k : Key} {v : V} (e : H a = some (.dK kvs)) (hl : kvs.length < sizeLine) : DPut H a (kV k) v (upd H a (.dK (putK kvs k v))) := .inl ⟨kvs, k, e, rfl, hl, rfl⟩
theorem DPut.t {H : Hp} {a b : Addr} {kvs : List (List Key × V)} {k : List Key} {v : V} (e : H a = some (.dT kvs)) (eb : H b = some (.tup (k.map kV))) (hl : kvs.length < sizeLine) :
    DPut H a (.ref b) v (upd H a (.dT (putK kvs k v))) := .inr ⟨kvs, k, b, e, rfl, eb, hl, rfl⟩


section
variable {X : Cx} {pins : List (Addr × Obj)} {σ : St} {H : Hp} {s : Shared} {a : Addr} {y v : V} {u r : Value} {o : Option V} {A : Around} {E : Value → Shared → Prop}

theorem Inv.big (I : Inv X pins σ H s) : sysModules < s.heap.objs.size := by
  have h : mainGlobals < s.heap.objs.size := (I.mod.glob.keeps I.bk).lt
  exact Nat.lt_trans (by decide) h

/-- d[y], there -/
theorem d_getItem {Q : Value → Shared → Prop} (hu : A.units + 1 < cLine) (I : Inv X pins σ H s) (g : DGet H a y (some v)) (ry : RelV y u) (h : ∀ w' s', Inv X pins σ H s' → RelV v w' → Q w' s') :
    wpAny (model X.prog X.w) A (getItem (.ref a) u) Q E s := by
  rcases g with ⟨kvs, k, e, ey, l⟩ | ⟨kvs, k, b, e, ey, eb, l⟩
  · subst ey
    obtain ⟨z, hd, vs, rel, dd⟩ := dk_rd I.hok e
    obtain ⟨w', hw, rw'⟩ := RelO.some_of (v := v) (o := valueAt vs k) (by rw [l]; exact rel.val k)
    exact wpAny_getItem_of (kV_is ry) dd.mapOf hw (h w' _ (I.tok _) rw')
  · subst ey
    cases (show u = Value.ref b from ry)
    obtain ⟨z, hd, xs, rel, dd⟩ := dt_rd I.hok e
    obtain ⟨w', hw, rw'⟩ := RelO.some_of (v := v) (o := (atKey xs k).map (·.2)) (by rw [l]; exact rel.val k)
    obtain ⟨p, hp, hp2⟩ := Option.map_eq_some_iff.mp hw
    refine wpAny_getItem_heap (tupleKind_room_in1 hu) (key_of I.hok eb) dd hp ?_
    rw [hp2]
    exact h w' _ (I.tok _) rw'
/-- y in d -/
theorem d_in {Q : Value → Shared → Prop} (hu : A.units + 1 < cLine) (I : Inv X pins σ H s) (g : DGet H a y o) (ry : RelV y u) (h : ∀ s', Inv X pins σ H s' → Q (.bool o.isSome) s') :
    wpAny (model X.prog X.w) A (compareOp .In u (.ref a)) Q E s := by
  rcases g with ⟨kvs, k, e, ey, l⟩ | ⟨kvs, k, b, e, ey, eb, l⟩
  · subst ey
    obtain ⟨z, hd, vs, rel, dd⟩ := dk_rd I.hok e
    refine wpAny_in_of (kV_is ry) hd dd.mapOf ?_
    rw [← (rel.val k).isSome_eq, ← l]
    exact h _ (I.tok _)
  · subst ey
    cases (show u = Value.ref b from ry)
    obtain ⟨z, hd, xs, rel, dd⟩ := dt_rd I.hok e
    refine wpAny_in_heap (tupleKind_room_in1 hu) (key_of I.hok eb) hd dd ?_
    have q := (rel.val k).isSome_eq
    rw [Option.isSome_map] at q
    rw [← q, ← l]
    exact h _ (I.tok _)
theorem d_notIn {Q : Value → Shared → Prop} (hu : A.units + 1 < cLine) (I : Inv X pins σ H s) (g : DGet H a y o) (ry : RelV y u) (h : ∀ s', Inv X pins σ H s' → Q (.bool (!o.isSome)) s') :
    wpAny (model X.prog X.w) A (compareOp .NotIn u (.ref a)) Q E s := by
  rcases g with ⟨kvs, k, e, ey, l⟩ | ⟨kvs, k, b, e, ey, eb, l⟩
  · subst ey
    obtain ⟨z, hd, vs, rel, dd⟩ := dk_rd I.hok e
    refine wpAny_notIn_of (kV_is ry) hd dd.mapOf ?_
    rw [← (rel.val k).isSome_eq, ← l]
    exact h _ (I.tok _)
  · subst ey
    cases (show u = Value.ref b from ry)
    obtain ⟨z, hd, xs, rel, dd⟩ := dt_rd I.hok e
    refine wpAny_notIn_heap (tupleKind_room_in1 hu) (key_of I.hok eb) hd dd ?_
    have q := (rel.val k).isSome_eq
    rw [Option.isSome_map] at q
    rw [← q, ← l]
    exact h _ (I.tok _)
/-- a dict's object is replaced -/
theorem d_write {h' : Heap} {t' : Nat} {ob : HO} (I : Inv X pins σ H s) (mu : Mut (H a)) (hs : Heap.SameBut a s.heap h') (he : ∃ q, h'.get? a = some q) (new : ObjOk X.prog X.w (upd H a ob) h' a ob) :
    Inv X pins σ (upd H a ob) { s with heap := h', toks := t' } :=
  I.write (x := a) (e := a) mu (.inl rfl) (fun b q hb z => (hs.2 b hb).trans z) he new
theorem dk_new {P : Program} {w : World} {H' : Hp} {h' : Heap} {kvs : List (Key × V)} {vs : List (Key × Value)} (z : kvs.length ≤ sizeLine) (hd : (a == sysModules) = false) (rel : KV kvs vs) (dd : h'.DictOf (mixKind P w) a vs) :
    ObjOk P w H' h' a (.dK kvs) := ⟨z, hd, vs, rel, dd⟩
/-- d[y] = v -/
theorem d_setItem {H' : Hp} {Q : Unit → Shared → Prop} (hu : A.units + 1 < cLine) (I : Inv X pins σ H s) (g : DPut H a y v H') (ry : RelV y u) (rv : RelV v r) (h : ∀ s', Inv X pins σ H' s' → Q () s') :
    wpAny (model X.prog X.w) A (setItem (.ref a) u r) Q E s := by
  rcases g with ⟨kvs, k, e, ey, l, eH⟩ | ⟨kvs, k, b, e, ey, eb, l, eH⟩
  · subst ey eH
    obtain ⟨z, hd, vs, rel, dd⟩ := dk_of I.hok e
    have hz : vs.length ≤ sizeLine := by rw [← rel.length]; exact z
    have hl : (putK kvs k v).length ≤ sizeLine := by have := length_putK kvs k v; omega
    refine wpAny_setItem_pairs (hsz := hz) (kV_is ry) dd fun h' dd' hs => h _ ?_
    have he : ∃ q, h'.get? a = some q := let ⟨q, _, _, hq, _⟩ := dd'; ⟨q, hq⟩
    exact d_write I (by rw [e]; exact True.intro) hs he (dk_new hl hd (rel.put k rv) dd')
  · subst ey eH
    cases (show u = Value.ref b from ry)
    obtain ⟨z, hd, xs, rel, dd⟩ := dt_of I.hok e
    have hz : xs.length ≤ sizeLine := by rw [← Paired.length rel]; exact z
    have hl : (putK kvs k v).length ≤ sizeLine := by have := length_putK kvs k v; omega
    refine wpAny_setItem_heap (hsz := hz) (tupleKind_room_in1 hu) (key_of I.hok eb) dd fun h' dd' hs => h _ ?_
    obtain ⟨q, es, ep, hq, h2, h3, h4, _, h5⟩ := dd'
    refine d_write I (by rw [e]; exact True.intro) hs ⟨q, hq⟩ ⟨hl, hd, _, (rel.put k eb rv).keeps fun c ys ec => ?_, q, es, ep, hq, h2, h3, h4, h5⟩
    rw [upd_ne (ne_of ec e (fun z => nomatch z))]
    exact ec
end

section
variable {X : Cx} {pins : List (Addr × Obj)} {σ : St} {H : Hp} {s : Shared} {a : Addr} {kvs : List (Key × V)} {k : Key} {u : Value} {A : Around} {E : Value → Shared → Prop}
/-- del d[k] -/
theorem d_delItem {Q : Unit → Shared → Prop} (I : Inv X pins σ H s) (e : H a = some (.dK kvs)) (ry : RelV (kV k) u) (l : (valV kvs k).isSome = true) (h : ∀ s', Inv X pins σ (upd H a (.dK (dropK kvs k))) s' → Q () s') :
    wpAny (model X.prog X.w) A (delItem (.ref a) u) Q E s := by
  obtain ⟨z, hd, vs, rel, dd⟩ := dk_of I.hok e
  refine wpAny_delItem_slot dd.typeIs (by decide) PySem.F.slot_dict_delitem
    (call_meetsIn PySem.F.slot_dict_delitem dd.typeIs PySem.F.entry_dict_delitem (PySem.F.args_dict_delitem_2 _ _) (meets_dict_delitem_pairs (mixKind X.prog X.w) a (kV_is ry)) ⟨vs, dd, by rw [← rel.length]; exact z, by rw [← (rel.val k).isSome_eq]; exact l, fun h' dd' hs => h _ ?_⟩)
  have he : ∃ q, h'.get? a = some q := let ⟨q, _, _, hq, _⟩ := dd'; ⟨q, hq⟩
  exact d_write I (by rw [e]; exact True.intro) hs he (dk_new (Nat.le_trans (dropK_le kvs k) z) hd (rel.drop k) dd')
/-- d.pop(k[, x]), there -/
theorem d_pop {v : V} {more : List Value} {Q : Value → Shared → Prop} (I : Inv X pins σ H s) (e : H a = some (.dK kvs)) (ry : RelV (kV k) u) (l : valV kvs k = some v) (hm : more = [] ∨ ∃ x, more = [x])
    (h : ∀ w' s', Inv X pins σ (upd H a (.dK (dropK kvs k))) s' → RelV v w' → Q w' s') : wpAny (model X.prog X.w) A (call (.builtin "dict.pop") (.ref a :: u :: more)) Q E s := by
  obtain ⟨z, hd, vs, rel, dd⟩ := dk_of I.hok e
  obtain ⟨w', hw, rw'⟩ := RelO.some_of (v := v) (o := valueAt vs k) (by rw [← l]; exact rel.val k)
  have hp : (keyPart u).isSome = true := by
    cases k with
    | inl i => obtain ⟨t, q⟩ := (show ∃ t, u = Value.int i t from ry); subst q; rfl
    | inr x => obtain ⟨t, q⟩ := (show ∃ t, u = Value.str x t from ry); subst q; rfl
  have ha : argsOk "dict.pop" ⟨.ref a :: u :: more, []⟩ := by
    rcases hm with q | ⟨x, q⟩
    · subst q; exact PySem.F.args_dict_pop_2 _ _
    · subst q; exact PySem.F.args_dict_pop_3 _ _ _
  refine call_meetsIn PySem.F.slot_dict_pop dd.typeIs PySem.F.entry_dict_pop ha (meets_dict_pop_there (mixKind X.prog X.w) a (kV_is ry) more hm hp)
    ⟨vs, w', dd, by rw [← rel.length]; exact z, hw, fun h' dd' hs => h w' _ ?_ rw'⟩
  have he : ∃ q, h'.get? a = some q := let ⟨q, _, _, hq, _⟩ := dd'; ⟨q, hq⟩
  exact d_write I (by rw [e]; exact True.intro) hs he (dk_new (Nat.le_trans (dropK_le kvs k) z) hd (rel.drop k) dd')
/-- d.pop(k, x), not there -/
theorem d_popD {r : Value} {Q : Value → Shared → Prop} (I : Inv X pins σ H s) (e : H a = some (.dK kvs)) (ry : RelV (kV k) u) (l : valV kvs k = none) (h : ∀ s', Inv X pins σ H s' → Q r s') :
    wpAny (model X.prog X.w) A (call (.builtin "dict.pop") [.ref a, u, r]) Q E s := by
  obtain ⟨z, hd, vs, rel, dd⟩ := dk_of I.hok e
  have hn : valueAt vs k = none := RelO.none_of (by rw [← l]; exact rel.val k)
  have hp : (keyPart u).isSome = true := by
    cases k with
    | inl i => obtain ⟨t, q⟩ := (show ∃ t, u = Value.int i t from ry); subst q; rfl
    | inr x => obtain ⟨t, q⟩ := (show ∃ t, u = Value.str x t from ry); subst q; rfl
  exact call_meetsIn PySem.F.slot_dict_pop dd.typeIs PySem.F.entry_dict_pop (PySem.F.args_dict_pop_3 _ _ _) (meets_dict_pop_default (mixKind X.prog X.w) a (kV_is ry) hd hp r) ⟨vs, dd, hn, h _ (I.tok _)⟩
/-- d.clear() -/
theorem d_clear {Q : Value → Shared → Prop} (I : Inv X pins σ H s) (e : H a = some (.dK kvs)) (h : ∀ s', Inv X pins σ (upd H a (.dK [])) s' → Q .none s') : wpAny (model X.prog X.w) A (call (.builtin "dict.clear") [.ref a]) Q E s := by
  obtain ⟨z, hd, vs, rel, dd⟩ := dk_of I.hok e
  refine call_meetsIn PySem.F.slot_dict_clear dd.typeIs PySem.F.entry_dict_clear (PySem.F.args_dict_clear_1 _) (meets_dict_clear (mixKind X.prog X.w) a) ⟨vs, dd, by rw [← rel.length]; exact z, fun h' dd' hs => h _ ?_⟩
  have he : ∃ q, h'.get? a = some q := let ⟨q, _, _, hq, _⟩ := dd'; ⟨q, hq⟩
  exact d_write (t' := s.toks) I (by rw [e]; exact True.intro) hs he (dk_new (Nat.zero_le _) hd .nil dd')
/-- len(d) -/
theorem d_len {Q : Value → Shared → Prop} (I : Inv X pins σ H s) (e : Rd H a (.dK kvs)) (h : ∀ t s', Inv X pins σ H s' → Q (.int kvs.length t) s') : wpAny (model X.prog X.w) A (call (.builtin "len") [.ref a]) Q E s := by
  obtain ⟨z, hd, vs, rel, dd⟩ := dk_rd I.hok e
  refine call_len_dict hd dd (by rw [← rel.length]; rw [sizeLine_eq] at z; omega) ?_
  rw [← rel.length]
  exact h _ _ (I.tok _)
/-- if d -/
theorem d_truth {Q : Bool → Shared → Prop} (I : Inv X pins σ H s) (e : Rd H a (.dK kvs)) (h : ∀ s', Inv X pins σ H s' → Q (!kvs.isEmpty) s') : wpAny (model X.prog X.w) A (truthy (.ref a)) Q E s := by
  obtain ⟨z, hd, vs, rel, dd⟩ := dk_rd I.hok e
  refine wpAny_truthy_dict hd dd (by rw [← rel.length]; rw [sizeLine_eq] at z; omega) ?_
  have q : kvs.isEmpty = vs.isEmpty := by cases rel <;> rfl
  rw [← q]
  exact h _ (I.tok _)
end


/-! ### readings and rules -/
/-- the element of a subscription, not a slice -/
def NoSl (i : Expr) : Prop := ∀ ov iv, subscripted i false ov iv = operate [ov, iv] (getItem ov iv)
theorem subD_of {prog : Program} {w : World} {A : Around} {E : Value → Shared → Prop} {s : Shared} {env : Env} {value slice : Expr} {pos : Pos} {T id : String} {Q : Value → Shared → Prop}
    (hl : typeLookup (.type T) "__getitem__" = pure (some (.builtin id))) (hs : NoSl slice)
    (h : wpAny (model prog w) A (eval value env) (fun o s₁ => wpAny (model prog w) A (eval slice env) (fun i s₂ => s₂.TypeIs o T ∧ wpAny (model prog w) A (getItem o i) Q E s₂) E s₁) E s) :
    wpAny (model prog w) A (eval (.Subscript value slice pos) env) Q E s := by
  refine Subscript_ (wpAny_mono h (fun o s₁ h₁ => wpAny_mono h₁ (fun i s₂ h₂ => ?_) fun _ _ x => x) fun _ _ x => x)
  obtain ⟨hT, h₂⟩ := h₂
  unfold subscriptTail
  refine wpAny_bind ?_
  rw [getitemInPython_of_ne hT.not_modules]
  refine wpAny_bind (wpAny_specialOf hT hl ?_)
  have fin : wpAny (model prog w) A (subscripted slice false o i) (fun r s₃ => wpAny (model prog w) A (letTemporaryGo value o r >>= fun _ => pure r) Q E s₃) E s₂ := by
    rw [hs o i]
    exact wpAny_operating (wpAny_mono h₂ (fun r s₃ h₃ => wpAny_bind (wpAny_letTemporaryGo (wpAny_pure h₃))) fun _ _ x => x)
  first
    | exact wpAny_pure (wpAny_bind fin)
    | exact wpAny_bind (wpAny_pure (wpAny_bind fin))
    | exact wpAny_bind fin

theorem dict_typeIs {X : Cx} {pins : List (Addr × Obj)} {σ : St} {H : Hp} {s : Shared} {a : Addr} {y : V} {o : Option V} (I : Inv X pins σ H s) (g : DGet H a y o) : s.TypeIs (.ref a) "dict" := by
  rcases g with ⟨kvs, k, e, _, _⟩ | ⟨kvs, k, b, e, _, _, _⟩
  · obtain ⟨_, _, vs, _, dd⟩ := dk_rd I.hok e
    exact dd.typeIs
  · obtain ⟨_, _, xs, _, dd⟩ := dt_rd I.hok e
    exact dd.typeIs
theorem dict_noDict {X : Cx} {pins : List (Addr × Obj)} {σ : St} {H : Hp} {s : Shared} {a : Addr} {y : V} {o : Option V} (I : Inv X pins σ H s) (g : DGet H a y o) :
    ∀ b, Value.ref a = .ref b → ∃ ob, s.heap.get? b = some ob ∧ ob.dict = none := fun b q => by
  cases q
  rcases g with ⟨kvs, k, e, _, _⟩ | ⟨kvs, k, b, e, _, _, _⟩
  · obtain ⟨_, _, vs, _, ob, _, _, h1, h2, _⟩ := dk_rd I.hok e
    exact ⟨ob, h1, h2.2.1⟩
  · obtain ⟨_, _, xs, _, ob, _, _, h1, h2, _⟩ := dt_rd I.hok e
    exact ⟨ob, h1, h2.2.1⟩

/-- d[y] -/
def tDGet (td ty : TE) : TE := fun σ H Q => td σ H fun x H1 => ty σ H1 fun y H2 => ∃ a v, x = .ref a ∧ DGet H2 a y (some v) ∧ Q v H2
/-- y in d, y not in d -/
def tDIn (ty td : TE) : TE := fun σ H Q => ty σ H fun y H1 => td σ H1 fun x H2 => ∃ a o, x = .ref a ∧ DGet H2 a y o ∧ Q (.bl o.isSome) H2
def tDNotIn (ty td : TE) : TE := fun σ H Q => ty σ H fun y H1 => td σ H1 fun x H2 => ∃ a o, x = .ref a ∧ DGet H2 a y o ∧ Q (.bl (!o.isSome)) H2
/-- d[y] = v -/
def sDPut (td ty tv : TE) : TS := fun D σ H => tv σ H fun v H1 => td σ H1 fun x H2 => ty σ H2 fun y H3 => ∃ a H4, x = .ref a ∧ DPut H3 a y v H4 ∧ D.nx σ H4
/-- d[y] op= v -/
def sDAug (td ty tv : TE) (rd : V → V → Hp → VK → Prop) : TS := fun D σ H => td σ H fun x H1 => ty σ H1 fun y H2 => ∃ a v, x = .ref a ∧ DGet H2 a y (some v) ∧
  tv σ H2 fun y2 H3 => rd v y2 H3 fun z H4 => ∃ H5, DPut H4 a y z H5 ∧ D.nx σ H5
/-- del d[y] -/
def sDDel (td ty : TE) : TS := fun D σ H => td σ H fun x H1 => ty σ H1 fun y H2 => ∃ a kvs k, x = .ref a ∧ H2 a = some (.dK kvs) ∧ y = kV k ∧ (valV kvs k).isSome = true ∧ D.nx σ (upd H2 a (.dK (dropK kvs k)))

section
variable {X : Cx} {o i e value : Expr} {pos pos' tpos : Pos} {td ty tv : TE}
theorem pe_dget (hu : X.A.units + 1 < cLine) (ho : PE X o td) (hi : PE X i ty) (hs : NoSl i) : PE X (.Subscript o i pos) (tDGet td ty) := by
  intro pins s σ H Q I h
  refine subD_of PySem.F.slot_dict_getitem.lookup hs (thn (ho pins s σ H _ I h) fun u s1 ⟨x, H1, I1, rx, q1⟩ => thn (hi pins s1 σ H1 _ I1 q1) fun iv s2 ⟨y, H2, I2, ry, a, v, ex, g, q2⟩ => ?_)
  subst ex
  obtain rfl : u = Value.ref a := rx
  exact ⟨dict_typeIs I2 g, d_getItem hu I2 g ry fun w' s3 I3 rw' => ⟨v, H2, I3, rw', q2⟩⟩
theorem pc_din (hu : X.A.units + 1 < cLine) (hi : PE X i ty) (ho : PE X o td) : PC X .In i o (tDIn ty td) := by
  intro pins s σ H Q I h
  refine thn (hi pins s σ H _ I h) fun iv s1 ⟨y, H1, I1, ry, q1⟩ => thn (ho pins s1 σ H1 _ I1 q1) fun u s2 ⟨x, H2, I2, rx, a, ov, ex, g, q2⟩ => ?_
  subst ex
  obtain rfl : u = Value.ref a := rx
  exact d_in hu I2 g ry fun s3 I3 => ⟨.bl ov.isSome, H2, I3, rfl, q2⟩
theorem pc_dnotin (hu : X.A.units + 1 < cLine) (hi : PE X i ty) (ho : PE X o td) : PC X .NotIn i o (tDNotIn ty td) := by
  intro pins s σ H Q I h
  refine thn (hi pins s σ H _ I h) fun iv s1 ⟨y, H1, I1, ry, q1⟩ => thn (ho pins s1 σ H1 _ I1 q1) fun u s2 ⟨x, H2, I2, rx, a, ov, ex, g, q2⟩ => ?_
  subst ex
  obtain rfl : u = Value.ref a := rx
  exact d_notIn hu I2 g ry fun s3 I3 => ⟨.bl (!ov.isSome), H2, I3, rfl, q2⟩
theorem ps_dput (hu : X.A.units + 1 < cLine) (ho : PE X o td) (hi : PE X i ty) (hv : PE X value tv) (hs : swapsWith value (some (.Subscript o i pos')) pos.line X.env = pure false) :
    PS X (.Assign [.Subscript o i pos'] value pos) (sDPut td ty tv) := by
  intro pins s σ H D I h
  refine wpAny_Assign_Subscript (thn (hv pins s σ H _ I h) fun r s1 ⟨v, H1, I1, rv, q1⟩ => thn (ho pins s1 σ H1 _ I1 q1) fun u s2 ⟨x, H2, I2, rx, q2⟩ => thn (hi pins s2 σ H2 _ I2 q2) fun iv s3 ⟨y, H3, I3, ry, a, H4, ex, g, q3⟩ => ?_) hs
  subst ex
  obtain rfl : u = Value.ref a := rx
  exact d_setItem hu I3 g ry rv fun s4 I4 => ⟨σ, H4, I4, q3⟩
theorem ps_daug {op : Operator} {rd : V → V → Hp → VK → Prop} (hu : X.A.units + 1 < cLine) (ho : PE X o td) (hi : PE X i ty) (hv : PE X value tv) (hop : InOp X op rd)
    (ha : ∀ ov iv new, augStore i ov iv new = (do holding [new, ov, iv] (setItem ov iv new); release [new, ov, iv] []; pure .next)) : PS X (.AugAssign (.Subscript o i tpos) op value pos) (sDAug td ty tv rd) := by
  intro pins s σ H D I h
  refine wpAny_AugAssign_SubscriptAny (thn (ho pins s σ H _ I h) fun u s1 ⟨x, H1, I1, rx, q1⟩ => thn (hi pins s1 σ H1 _ I1 q1) fun iv s2 ⟨y, H2, I2, ry, a, v, ex, g, q2⟩ => ?_) ha
  subst ex
  obtain rfl : u = Value.ref a := rx
  refine d_getItem hu I2 g ry fun w' s3 I3 rw' => thn (hv pins s3 σ H2 _ I3 q2) fun w2 s4 ⟨y2, H3, I4, ry2, q3⟩ => thn (hop pins s4 σ H3 v y2 w' w2 _ I4 rw' ry2 q3) fun w3 s5 ⟨z, H4, I5, rz, H5, g5, q4⟩ => ?_
  exact d_setItem hu I5 g5 ry rz fun s6 I6 => ⟨σ, H5, I6, q4⟩
theorem ps_ddel (ho : PE X o td) (hi : PE X i ty) : PS X (.Delete [.Subscript o i tpos] pos) (sDDel td ty) := by
  intro pins s σ H D I h
  refine wpAny_Delete (wpAny_deleteEach_cons (wpAny_delete_Subscript (thn (ho pins s σ H _ I h) fun u s1 ⟨x, H1, I1, rx, q1⟩ => thn (hi pins s1 σ H1 _ I1 q1) fun iv s2 ⟨y, H2, I2, ry, a, kvs, k, ex, e, ey, l, q2⟩ => ?_)))
  subst ex ey
  obtain rfl : u = Value.ref a := rx
  exact d_delItem I2 e ry l fun s3 I3 => wpAny_deleteEach_nil ⟨σ, _, I3, q2⟩
end


/-! ### displays -/
theorem dk_empty {P : Program} {w : World} {H : Hp} (h : Heap) (hb : sysModules < h.objs.size) : ObjOk P w H (h.push { cls := .type "dict", data := .dict #[] }) h.objs.size (.dK []) :=
  ⟨Nat.zero_le _, beq_eq_false_iff_ne.mpr (Ne.symm (Nat.ne_of_lt hb)), [], .nil, Heap.DictOf.new h⟩
theorem dt_empty {P : Program} {w : World} {H : Hp} (h : Heap) (hb : sysModules < h.objs.size) : ObjOk P w H (h.push { cls := .type "dict", data := .dict #[] }) h.objs.size (.dT []) :=
  ⟨Nat.zero_le _, beq_eq_false_iff_ne.mpr (Ne.symm (Nat.ne_of_lt hb)), [], .nil, _, #[], 0, Heap.get?_push_size _ rfl, ⟨rfl, rfl, rfl⟩, rfl, rfl, List.nodup_nil⟩
/-- {}, to be a dict of the kind that is wanted -/
def tDNewK : TE := fun _ H Q => ∀ p, H p = none → Q (.ref p) (upd H p (.dK []))
def tDNewT : TE := fun _ H Q => ∀ p, H p = none → Q (.ref p) (upd H p (.dT []))
section
variable {X : Cx} {pos : Pos}
theorem pe_dnewK : PE X (.Dict [] [] pos) tDNewK := fun pins s σ H Q I h =>
  wpAny_Dict_empty ⟨.ref s.heap.objs.size, _, I.laid (a := s.heap.objs.size) (o := .dK []) (t' := s.toks) (fun _ _ q => Heap.get?_push_of_some _ q) (Nat.le_refl _) (dk_empty s.heap I.big), rfl, h _ (I.hok.fresh (Nat.le_refl _))⟩
theorem pe_dnewT : PE X (.Dict [] [] pos) tDNewT := fun pins s σ H Q I h =>
  wpAny_Dict_empty ⟨.ref s.heap.objs.size, _, I.laid (a := s.heap.objs.size) (o := .dT []) (t' := s.toks) (fun _ _ q => Heap.get?_push_of_some _ q) (Nat.le_refl _) (dt_empty s.heap I.big), rfl, h _ (I.hok.fresh (Nat.le_refl _))⟩
end

/-- the pairs of a display, from the left -/
def tPairs : List (TE × TE) → St → Hp → (List (V × V) → Hp → Prop) → Prop
  | [], _, H, Q => Q [] H
  | (tk, tv) :: r, σ, H, Q => tk σ H fun x H1 => tv σ H1 fun y H2 => tPairs r σ H2 fun ps H3 => Q ((x, y) :: ps) H3
abbrev VV : List (V × V) → List (Value × Value) → Prop := Paired fun p q => RelV p.1 q.1 ∧ RelV p.2 q.2
def PPs (X : Cx) (pos : Pos) (keys : List (Option Expr)) (values : List Expr) (trs : List (TE × TE)) : Prop :=
  ∀ (pins : List (Addr × Obj)) (s : Shared) (σ : St) (H : Hp) (Q : List (V × V) → Hp → Prop), Inv X pins σ H s → tPairs trs σ H Q →
    wpAny (model X.prog X.w) X.A (evalPairs (pairTrees keys values X.env pos)) (fun vs s' => ∃ ps H', Inv X pins σ H' s' ∧ VV ps vs ∧ Q ps H') X.xe s
theorem pps_nil {X : Cx} {pos : Pos} : PPs X pos [] [] [] := fun pins s σ H Q I h => pairTrees_nil_walk ⟨[], H, I, .nil, h⟩
theorem pps_cons {X : Cx} {pos : Pos} {k v : Expr} {ks : List (Option Expr)} {vs : List Expr} {tk tv : TE} {trs : List (TE × TE)} (hk : PE X k tk) (hv : PE X v tv) (hr : PPs X pos ks vs trs) :
    PPs X pos (some k :: ks) (v :: vs) ((tk, tv) :: trs) := fun pins s σ H Q I h =>
  pairTrees_cons_walk (thn (hk pins s σ H _ I h) fun u s1 ⟨x, H1, I1, rx, q1⟩ => thn (hv pins s1 σ H1 _ I1 q1) fun w2 s2 ⟨y, H2, I2, ry, q2⟩ =>
    thn (hr pins s2 σ H2 _ I2 q2) fun ws s3 ⟨ps, H3, I3, rel, q3⟩ => ⟨(x, y) :: ps, H3, I3, .cons ⟨rx, ry⟩ rel, q3⟩)

def mergeK (kvs more : List (Key × V)) : List (Key × V) := more.foldl (fun acc kv => putK acc kv.1 kv.2) kvs
theorem KV.merge : ∀ {more : List (Key × V)} {rs : List (Key × Value)} {kvs : List (Key × V)} {vs : List (Key × Value)}, KV more rs → KV kvs vs → KV (mergeK kvs more) (merged vs rs) := by
  intro more rs kvs vs r
  unfold KV at r
  induction r generalizing kvs vs with
  | nil => intro q; exact q
  | @cons p q ps qs h t ih =>
    intro r0
    have e : KV (putK kvs p.1 p.2) (stored vs q.1 q.2) := by
      have := r0.put p.1 h.2
      rw [← h.1]; exact this
    exact ih e
theorem length_mergeK : ∀ (more kvs : List (Key × V)), (mergeK kvs more).length ≤ kvs.length + more.length
  | [], kvs => by show kvs.length ≤ kvs.length + 0; omega
  | p :: r, kvs => by
    have h1 := length_mergeK r (putK kvs p.1 p.2)
    have h2 := length_putK kvs p.1 p.2
    show (mergeK (putK kvs p.1 p.2) r).length ≤ _
    rw [List.length_cons]; omega
theorem carries_of {P : Program} {w : World} : ∀ {kvs : List (Key × V)} {ws : List (Value × Value)}, VV (kvs.map fun kv => (kV kv.1, kv.2)) ws → ∃ rs, Carries (mixKind P w) ws rs ∧ KV kvs rs
  | [], _, r => by rw [List.map_nil] at r; cases r; exact ⟨[], True.intro, .nil⟩
  | p :: kvs, _, r => by
    rw [List.map_cons] at r
    cases r with
    | @cons a b as bs h t =>
      obtain ⟨rs, c, q⟩ := carries_of (P := P) (w := w) t
      obtain ⟨b1, b2⟩ := b
      exact ⟨(p.1, b2) :: rs, ⟨kV_is h.1, rfl, c⟩, .cons ⟨rfl, h.2⟩ q⟩
/-- {k: v, ..} with keys ints and texts; the new dict stands empty while the pairs are made -/
def tDisp (trs : List (TE × TE)) : TE := fun σ H Q => ∀ p, H p = none → tPairs trs σ (upd H p (.dK [])) fun ps H2 => H2 p = some (.dK []) ∧ ∃ kvs : List (Key × V), ps = kvs.map (fun kv => (kV kv.1, kv.2)) ∧ kvs.length ≤ 15 ∧ Q (.ref p) (upd H2 p (.dK (mergeK [] kvs)))
theorem pe_disp {X : Cx} {pos : Pos} {keys : List (Option Expr)} {values : List Expr} {trs : List (TE × TE)} (h : PPs X pos keys values trs) (hall : keys.all (·.isSome) = true) (hl : keys.length = values.length) (h0 : keys ≠ [])
    (h15 : keys.length ≤ 15) : PE X (.Dict keys values pos) (tDisp trs) := by
  intro pins s σ H Q I q
  have hn := I.hok.fresh (Nat.le_refl s.heap.objs.size)
  have I1 := I.laid (a := s.heap.objs.size) (o := .dK []) (h' := s.heap.push { cls := .type "dict", data := .dict #[] }) (t' := s.toks) (fun _ _ q => Heap.get?_push_of_some _ q) (Nat.le_refl _) (dk_empty s.heap I.big)
  refine wpAny_Dict_walk (knd := mixKind X.prog X.w) hall hl h0 h15 (thn (h pins _ σ _ _ I1 (q _ hn)) fun ws s2 ⟨ps, H2, I2, rel, e, kvs, ep, lk, q2⟩ => ?_)
  subst ep
  obtain ⟨rs, c, rk⟩ := carries_of (P := X.prog) (w := X.w) rel
  obtain ⟨z, hd, vs0, r0, dd⟩ := dk_of I2.hok e
  cases r0
  refine ⟨rs, c, dd, fun h' dd' hs => ⟨.ref s.heap.objs.size, _, ?_, rfl, q2⟩⟩
  have hz : (mergeK [] kvs).length ≤ sizeLine := by
    have h1 := length_mergeK kvs []
    rw [List.length_nil] at h1
    rw [sizeLine_eq]; omega
  have he : ∃ q, h'.get? s.heap.objs.size = some q := let ⟨q, _, _, hq, _⟩ := dd'; ⟨q, hq⟩
  exact d_write I2 (by rw [e]; exact True.intro) hs he (dk_new hz hd (rk.merge .nil) dd')


/-! ### methods -/
/-- a method call o.m(e) of a built-in, with one argument: what must be seen of the text -/
structure M1 (X : Cx) (o : Expr) (m : Str) (apos : Pos) (e : Expr) (cpos : Pos) : Prop where
  base : attributeBase o m X.env (eval o X.env) = eval o X.env
  few : ((backTo cpos (starEach [e] X.env)).all (fun x => !x.1) && (backToKw cpos (keywordEach [] X.env)).all (fun x => x.1.isSome)
    && decide (([e] : List Expr).length + ([] : List Keyword).length + (if ([] : List Keyword).isEmpty then 0 else 1) < 30)) = true
  line : (apos.endLine == cpos.line) = true
  trees : backTo cpos (starEach [e] X.env) = [(false, eval e X.env)]
structure M2 (X : Cx) (o : Expr) (m : Str) (apos : Pos) (e f : Expr) (cpos : Pos) : Prop where
  base : attributeBase o m X.env (eval o X.env) = eval o X.env
  few : ((backTo cpos (starEach [e, f] X.env)).all (fun x => !x.1) && (backToKw cpos (keywordEach [] X.env)).all (fun x => x.1.isSome)
    && decide (([e, f] : List Expr).length + ([] : List Keyword).length + (if ([] : List Keyword).isEmpty then 0 else 1) < 30)) = true
  line : (apos.endLine == cpos.line) = true
  trees : backTo cpos (starEach [e, f] X.env) = [(false, eval e X.env), (false, eval f X.env)]

/-- a is a dict, whatever its keys -/
def IsD (H : Hp) (a : Addr) : Prop := (∃ kvs, Rd H a (.dK kvs)) ∨ ∃ kvs, Rd H a (.dT kvs)
theorem isD_at {X : Cx} {pins : List (Addr × Obj)} {σ : St} {H : Hp} {s : Shared} {a : Addr} (I : Inv X pins σ H s) (d : IsD H a) :
    s.TypeIs (.ref a) "dict" ∧ (∀ b, Value.ref a = .ref b → ∃ ob, s.heap.get? b = some ob ∧ ob.dict = none) ∧ (a == sysModules) = false := by
  rcases d with ⟨kvs, e⟩ | ⟨kvs, e⟩
  · obtain ⟨_, hd, vs, _, dd⟩ := dk_rd I.hok e
    refine ⟨dd.typeIs, fun b q => ?_, hd⟩
    cases q
    obtain ⟨ob, _, _, h1, h2, _⟩ := dd
    exact ⟨ob, h1, h2.2.1⟩
  · obtain ⟨_, hd, xs, _, dd⟩ := dt_rd I.hok e
    refine ⟨dd.typeIs, fun b q => ?_, hd⟩
    cases q
    obtain ⟨ob, _, _, h1, h2, _⟩ := dd
    exact ⟨ob, h1, h2.2.1⟩

section
variable {X : Cx} {pins : List (Addr × Obj)} {σ : St} {H : Hp} {s : Shared} {a : Addr} {y d : V} {u r : Value} {o : Option V} {A : Around} {E : Value → Shared → Prop}
/-- d.get(y) -/
theorem d_get1 {Q : Value → Shared → Prop} (hu : A.units + 1 < cLine) (I : Inv X pins σ H s) (g : DGet H a y o) (ry : RelV y u) (h : ∀ w' s', Inv X pins σ H s' → RelV (o.getD .non) w' → Q w' s') :
    wpAny (model X.prog X.w) A (call (.builtin "dict.get") [.ref a, u]) Q E s := by
  rcases g with ⟨kvs, k, e, ey, l⟩ | ⟨kvs, k, b, e, ey, eb, l⟩
  · subst ey
    obtain ⟨z, hd, vs, rel, dd⟩ := dk_rd I.hok e
    refine call_meetsIn PySem.F.slot_dict_get dd.typeIs PySem.F.entry_dict_get (PySem.F.args_dict_get_2 _ _) (meets_dict_get (mixKind X.prog X.w) a (kV_is ry) hd) ⟨_, dd.mapOf, h _ _ (I.tok _) ?_⟩
    rw [l]
    exact (rel.val k).getD rfl
  · subst ey
    cases (show u = Value.ref b from ry)
    obtain ⟨z, hd, xs, rel, dd⟩ := dt_rd I.hok e
    refine call_meetsIn PySem.F.slot_dict_get dd.typeIs PySem.F.entry_dict_get (PySem.F.args_dict_get_2 _ _) (meetsH_dict_get (tupleKind (mixKind X.prog X.w)) a b hd) ⟨tupleKind_room_in1 hu, k, xs, key_of I.hok eb, dd, h _ _ (I.tok _) ?_⟩
    rw [l]
    exact (rel.val k).getD rfl
/-- d.get(y, x) -/
theorem d_get2 {Q : Value → Shared → Prop} (hu : A.units + 1 < cLine) (I : Inv X pins σ H s) (g : DGet H a y o) (ry : RelV y u) (rd : RelV d r) (h : ∀ w' s', Inv X pins σ H s' → RelV (o.getD d) w' → Q w' s') :
    wpAny (model X.prog X.w) A (call (.builtin "dict.get") [.ref a, u, r]) Q E s := by
  rcases g with ⟨kvs, k, e, ey, l⟩ | ⟨kvs, k, b, e, ey, eb, l⟩
  · subst ey
    obtain ⟨z, hd, vs, rel, dd⟩ := dk_rd I.hok e
    refine call_meetsIn PySem.F.slot_dict_get dd.typeIs PySem.F.entry_dict_get (PySem.F.args_dict_get_3 _ _ _) (meets_dict_get_default (mixKind X.prog X.w) a (kV_is ry) hd r) ⟨_, dd.mapOf, h _ _ (I.tok _) ?_⟩
    rw [l]
    exact (rel.val k).getD rd
  · subst ey
    cases (show u = Value.ref b from ry)
    obtain ⟨z, hd, xs, rel, dd⟩ := dt_rd I.hok e
    refine call_meetsIn PySem.F.slot_dict_get dd.typeIs PySem.F.entry_dict_get (PySem.F.args_dict_get_3 _ _ _) (meetsH_dict_get_default (tupleKind (mixKind X.prog X.w)) a b hd r) ⟨tupleKind_room_in1 hu, k, xs, key_of I.hok eb, dd, h _ _ (I.tok _) ?_⟩
    rw [l]
    exact (rel.val k).getD rd
end

def tDGet1 (td ty : TE) : TE := fun σ H Q => td σ H fun x H1 => ∃ a, x = .ref a ∧ IsD H1 a ∧ ty σ H1 fun y H2 => ∃ o, DGet H2 a y o ∧ Q (o.getD .non) H2
def tDGet2 (td ty tx : TE) : TE := fun σ H Q => td σ H fun x H1 => ∃ a, x = .ref a ∧ IsD H1 a ∧ ty σ H1 fun y H2 => tx σ H2 fun z H3 => ∃ o, DGet H3 a y o ∧ Q (o.getD z) H3
/-- d.pop(k): there; d.pop(k, x): there or not -/
def tDPop1 (td ty : TE) : TE := fun σ H Q => td σ H fun x H1 => ∃ a, x = .ref a ∧ IsD H1 a ∧ ty σ H1 fun y H2 => ∃ kvs k v, H2 a = some (.dK kvs) ∧ y = kV k ∧ valV kvs k = some v ∧ Q v (upd H2 a (.dK (dropK kvs k)))
def tDPop2 (td ty tx : TE) : TE := fun σ H Q => td σ H fun x H1 => ∃ a, x = .ref a ∧ IsD H1 a ∧ ty σ H1 fun y H2 => tx σ H2 fun z H3 => ∃ kvs k, H3 a = some (.dK kvs) ∧ y = kV k ∧
  (∀ v, valV kvs k = some v → Q v (upd H3 a (.dK (dropK kvs k)))) ∧ (valV kvs k = none → Q z H3)
section
variable {X : Cx} {o e f : Expr} {apos cpos : Pos} {td ty tx : TE}
theorem pe_dget1 (hu : X.A.units + 1 < cLine) (ho : PE X o td) (he : PE X e ty) (m : M1 X o "get" apos e cpos) : PE X (.Call (.Attribute o "get" apos) [e] [] cpos) (tDGet1 td ty) := by
  intro pins s σ H Q I h
  refine wpAny_Call_method m.base m.few m.line PySem.F.plainAttrs_dict PySem.F.slot_dict_get PySem.F.type_dict_get (thn (ho pins s σ H _ I h) fun u s1 ⟨x, H1, I1, rx, a, ex, d, q1⟩ => ?_)
  subst ex
  obtain rfl : u = Value.ref a := rx
  obtain ⟨t1, t2, _⟩ := isD_at I1 d
  refine ⟨t1, t2, ?_⟩
  rw [m.trees]
  refine Calls.callWith_builtin rfl (Calls.evalArgs_plain (Calls.spliced_cons (thn (he pins s1 σ H1 _ I1 q1) fun iv s2 ⟨y, H2, I2, ry, ov, g, q2⟩ => Calls.spliced_nil ?_)))
  exact d_get1 hu I2 g ry fun w' s3 I3 rw' => ⟨_, H2, I3, rw', q2⟩
theorem pe_dget2 (hu : X.A.units + 1 < cLine) (ho : PE X o td) (he : PE X e ty) (hf : PE X f tx) (m : M2 X o "get" apos e f cpos) : PE X (.Call (.Attribute o "get" apos) [e, f] [] cpos) (tDGet2 td ty tx) := by
  intro pins s σ H Q I h
  refine wpAny_Call_method m.base m.few m.line PySem.F.plainAttrs_dict PySem.F.slot_dict_get PySem.F.type_dict_get (thn (ho pins s σ H _ I h) fun u s1 ⟨x, H1, I1, rx, a, ex, d, q1⟩ => ?_)
  subst ex
  obtain rfl : u = Value.ref a := rx
  obtain ⟨t1, t2, _⟩ := isD_at I1 d
  refine ⟨t1, t2, ?_⟩
  rw [m.trees]
  refine Calls.callWith_builtin rfl (Calls.evalArgs_plain (Calls.spliced_cons (thn (he pins s1 σ H1 _ I1 q1) fun iv s2 ⟨y, H2, I2, ry, q2⟩ =>
    Calls.spliced_cons (thn (hf pins s2 σ H2 _ I2 q2) fun fv s3 ⟨z, H3, I3, rz, ov, g, q3⟩ => Calls.spliced_nil ?_))))
  exact d_get2 hu I3 g ry rz fun w' s4 I4 rw' => ⟨_, H3, I4, rw', q3⟩
theorem pe_dpop1 (ho : PE X o td) (he : PE X e ty) (m : M1 X o "pop" apos e cpos) : PE X (.Call (.Attribute o "pop" apos) [e] [] cpos) (tDPop1 td ty) := by
  intro pins s σ H Q I h
  refine wpAny_Call_method m.base m.few m.line PySem.F.plainAttrs_dict PySem.F.slot_dict_pop PySem.F.type_dict_pop (thn (ho pins s σ H _ I h) fun u s1 ⟨x, H1, I1, rx, a, ex, d, q1⟩ => ?_)
  subst ex
  obtain rfl : u = Value.ref a := rx
  obtain ⟨t1, t2, _⟩ := isD_at I1 d
  refine ⟨t1, t2, ?_⟩
  rw [m.trees]
  refine Calls.callWith_builtin rfl (Calls.evalArgs_plain (Calls.spliced_cons (thn (he pins s1 σ H1 _ I1 q1) fun iv s2 ⟨y, H2, I2, ry, kvs, k, v, ea, ey, l, q2⟩ => Calls.spliced_nil ?_)))
  subst ey
  exact d_pop I2 ea ry l (.inl rfl) fun w' s3 I3 rw' => ⟨v, _, I3, rw', q2⟩
theorem pe_dpop2 (ho : PE X o td) (he : PE X e ty) (hf : PE X f tx) (m : M2 X o "pop" apos e f cpos) : PE X (.Call (.Attribute o "pop" apos) [e, f] [] cpos) (tDPop2 td ty tx) := by
  intro pins s σ H Q I h
  refine wpAny_Call_method m.base m.few m.line PySem.F.plainAttrs_dict PySem.F.slot_dict_pop PySem.F.type_dict_pop (thn (ho pins s σ H _ I h) fun u s1 ⟨x, H1, I1, rx, a, ex, d, q1⟩ => ?_)
  subst ex
  obtain rfl : u = Value.ref a := rx
  obtain ⟨t1, t2, _⟩ := isD_at I1 d
  refine ⟨t1, t2, ?_⟩
  rw [m.trees]
  refine Calls.callWith_builtin rfl (Calls.evalArgs_plain (Calls.spliced_cons (thn (he pins s1 σ H1 _ I1 q1) fun iv s2 ⟨y, H2, I2, ry, q2⟩ =>
    Calls.spliced_cons (thn (hf pins s2 σ H2 _ I2 q2) fun fv s3 ⟨z, H3, I3, rz, kvs, k, ea, ey, q3, q4⟩ => Calls.spliced_nil ?_))))
  subst ey
  cases l : valV kvs k with
  | some v => exact d_pop I3 ea ry l (.inr ⟨fv, rfl⟩) fun w' s4 I4 rw' => ⟨v, _, I4, rw', q3 v l⟩
  | none => exact d_popD I3 ea ry l fun s4 I4 => ⟨z, H3, I4, rz, q4 l⟩
end

/-! ### dict(d): a copy -/
section
variable {X : Cx} {pins : List (Addr × Obj)} {σ : St} {H : Hp} {s : Shared} {a : Addr} {kvs : List (Key × V)} {A : Around} {E : Value → Shared → Prop}
theorem d_copyOf {Q : Value → Shared → Prop} (I : Inv X pins σ H s) (e : Rd H a (.dK kvs)) (h : ∀ p s', H p = none → Inv X pins σ (upd H p (.dK kvs)) s' → Q (.ref p) s') : wpAny (model X.prog X.w) A (call (.type "dict") [.ref a]) Q E s := by
  obtain ⟨z, hd, vs, rel, dd⟩ := dk_rd I.hok e
  refine kt_call_dict hd dd (by rw [← rel.length]; exact z) fun h' dd' hs => ?_
  refine h _ _ (I.hok.fresh (Nat.le_refl _)) (I.laid (a := s.heap.objs.size) (o := .dK kvs) (t' := s.toks) (fun b q hq => ?_) (Nat.le_refl _) (dk_new z (beq_eq_false_iff_ne.mpr (Ne.symm (Nat.ne_of_lt I.big))) rel dd'))
  exact (hs.2 b (Nat.ne_of_lt (Heap.lt_size hq))).trans (Heap.get?_push_of_some _ hq)
end


section
variable {X : Cx} {pins : List (Addr × Obj)} {σ : St} {H : Hp} {s : Shared} {a : Addr} {y : V} {u : Value} {A : Around} {E : Value → Shared → Prop}
/-- d[y], not there: a KeyError -/
theorem d_missing {Q : Value → Shared → Prop} (hu : A.units + 1 < cLine) (hh : A.handled = none) (I : Inv X pins σ H s) (g : DGet H a y none) (ry : RelV y u)
    (h : ∀ h' e t', Heap.NewExc s.heap h' e "KeyError" → E (.ref e) { s with heap := h', toks := t' }) : wpAny (model X.prog X.w) A (getItem (.ref a) u) Q E s := by
  rcases g with ⟨kvs, k, e, ey, l⟩ | ⟨kvs, k, b, e, ey, eb, l⟩
  · subst ey
    obtain ⟨z, hd, vs, rel, dd⟩ := dk_rd I.hok e
    have hn : valueAt vs k = none := RelO.none_of (by rw [l]; exact rel.val k)
    exact wpAny_getItem_missing_of (kV_is ry) hd hh dd.mapOf hn fun h' ex ne => h h' ex _ ne
  · subst ey
    cases (show u = Value.ref b from ry)
    obtain ⟨z, hd, xs, rel, dd⟩ := dt_rd I.hok e
    have hn : (atKey xs k).map (·.2) = none := RelO.none_of (by rw [l]; exact rel.val k)
    exact wpAny_getItem_missing_heap (tupleKind_room_in1 hu) (key_of I.hok eb) hd hh dd (Option.map_eq_none_iff.mp hn) fun h' ex ne => h h' ex _ ne
end
end L2
/-! ### tuples repeated and put together, values deep, lists against the empty one -/
namespace L2
open PySem PySem.Spec PyProof.Rows
theorem nf_tuple_mul : fillsNumberSlot (.type "tuple") "mul" = pure false := PySem.fillsNumberSlot_seq (id := "tuple.__mul__") (r := some (.builtin "tuple.__rmul__")) PySem.F.slot_tuple_mul.lookup (by decide +kernel) PySem.F.slot_tuple_rmul.lookup (by decide +kernel)
theorem rp_tuple : seqRepeat? (.type "tuple") = pure (some (.builtin "tuple.__mul__")) := by
  have h1 := PySem.seqSlot_of (T := "tuple") (name := "__mul__") (id := "tuple.__mul__") PySem.F.slot_tuple_mul.lookup (by decide +kernel)
  have h2 := PySem.seqSlot_of (T := "tuple") (name := "__rmul__") (id := "tuple.__rmul__") PySem.F.slot_tuple_rmul.lookup (by decide +kernel)
  unfold seqRepeat?
  rw [h1, h2]
  rfl
theorem rm_tuple (k : Int) (t : Tok) (l : Addr) (its : Array Value) (n : Nat) (dd : Option Addr) (sl : Array (Option Value)) :
    Meets (Builtin.«int.__rmul__» ⟨[.int k t, .ref l], []⟩) fun _ R s => s.heap.get? l = some { cls := .type "tuple", dict := dd, data := .seq its n, slots := sl } ∧ R (.ok (.ret Value.notImplemented)) s := by
  refine .of_wp fun prog w A R s h => ?_
  obtain ⟨hl, h⟩ := h
  obtain ⟨hp, g, d, tk, os⟩ := s
  wp_walk
  exact ⟨_, rfl, h⟩
theorem ml_tuple (k : Int) (t : Tok) (l : Addr) (its : Array Value) (n : Nat) (dd : Option Addr) (sl : Array (Option Value)) (h0 : its.isEmpty = false) (h1 : 2 ≤ k) (h2 : k < 10000) (h3 : its.size * k.toNat ≤ 100000) :
    Meets (Builtin.«tuple.__mul__» ⟨[.ref l, .int k t], []⟩) fun _ R s => s.heap.get? l = some { cls := .type "tuple", dict := dd, data := .seq its n, slots := sl } ∧
      R (.ok (.ret (.ref s.heap.objs.size))) { s with heap := s.heap.push { cls := .type "tuple", data := .seq (List.foldl (fun x1 x2 => x1 ++ x2) #[] (List.replicate k.toNat its)) } } := by
  refine .of_wp fun prog w A R s h => ?_
  obtain ⟨hl, h⟩ := h
  obtain ⟨hp, g, d, tk, os⟩ := s
  have k3 : (its.size : Int) * k ≤ 100000 := by
    have : ((its.size * k.toNat : Nat) : Int) ≤ 100000 := by omega
    rw [Int.natCast_mul, Int.toNat_of_nonneg (by omega)] at this
    exact this
  have c0 : ¬ (decide (k < -2 ^ 63) || decide (k ≥ 2 ^ 63)) = true := by simp; omega
  have c1 : ¬ (its.isEmpty || k == 1) = true := by rw [h0]; simp; omega
  have c2 : ¬ (decide (k ≤ 0) || its.isEmpty) = true := by rw [h0]; simp; omega
  have c3 : ¬ ((its.size : Int) * k > (2 ^ 63 - 1) / 8) := by omega
  have c4 : ¬ Builtin.Tuple.tupleTooMany ((its.size : Int) * k) = true := by
    unfold Builtin.Tuple.tupleTooMany
    have : (100000 : Int) < sizeLine := by decide
    simp
    omega
  have hsz : (List.foldl (fun x1 x2 => x1 ++ x2) #[] (List.replicate k.toNat its)).size ≤ sizeLine := by
    have key : ∀ (m : Nat) (z : Array Value), (List.foldl (fun x1 x2 => x1 ++ x2) z (List.replicate m its)).size = z.size + m * its.size := by
      intro m
      induction m with
      | zero => intro z; simp
      | succ m ih => intro z; rw [List.replicate_succ, List.foldl_cons, ih, Array.size_append, Nat.succ_mul]; omega
    rw [key]
    have : (100000 : Nat) ≤ sizeLine := by decide
    rw [Nat.mul_comm] at h3
    simp
    omega
  wp_walk
  rw [if_neg c0]
  wp_walk using PySem.AutoSeq1.wpAny_loadPart' hl
  rw [if_neg c1]
  dsimp only
  rw [if_neg c2]
  try dsimp only
  rw [if_neg c3]
  try dsimp only
  rw [if_neg c4]
  refine wpAny_bind (wpAny_newObj_type ?_ hsz)
  exact wpAny_pure ⟨_, rfl, h⟩
section
variable {X : Cx}
/-- t * k, t not empty, k from 2 on -/
def rRepT : R2 := fun x y H Q => ∃ l k xs, x = .ref l ∧ y = .int k ∧ H l = some (.tup xs) ∧ xs ≠ [] ∧ 2 ≤ k ∧ k < 10000 ∧ xs.length * k.toNat ≤ 100000 ∧ ∀ p, H p = none → Q (.ref p) (upd H p (.tup (List.replicate k.toNat xs).flatten))
theorem op_repT : OpR X (binaryOp .Mult) rRepT := by
  intro pins s σ H x y v u Q I rx ry h
  obtain ⟨l, k, xs, rfl, rfl, hH, hne, h1, h2, hz, q⟩ := h
  cases rx
  obtain ⟨t, rfl⟩ := ry
  obtain ⟨its, r, p1, _⟩ := I.tuple (SqT.of (K := X.K) hH)
  have hl := r.length
  obtain ⟨⟨cls, dd, data, sl⟩, ho, hc, n, hd⟩ := id p1
  simp only at hc hd
  subst hc hd
  have he : its.toArray.isEmpty = false := by
    cases its with
    | nil => exact absurd (r.nil_iff.mp rfl) hne
    | cons _ _ => rfl
  have hlen : its.toArray.size * k.toNat ≤ 100000 := by rw [List.size_toArray, ← hl]; exact hz
  have hnew : List.foldl (fun x1 x2 => x1 ++ x2) #[] (List.replicate k.toNat its.toArray) = (List.replicate k.toNat its).flatten.toArray := by
    have := foldl_rep its k.toNat []
    rw [List.nil_append] at this
    exact this
  refine wpAny_binaryOp_repeat_ref (T := "tuple") (U := "int") (by decide) ⟨_, ho, rfl⟩ (fun s' => typeIs_int s' k t) nf_tuple_mul PySem.F.fills_int_mul PySem.F.slot_int_rmul rp_tuple PySem.F.slot_int_index.lookup
    (call_meets PySem.F.slot_int_rmul (typeIs_int s k t) PySem.F.entry_int_rmul (PySem.F.args_int_rmul_2 _ _) (rm_tuple k t l its.toArray n dd sl)
      ⟨ho, rfl, ⟨_, ho, rfl⟩, call_meets PySem.F.slot_tuple_mul ⟨_, ho, rfl⟩ PySem.F.entry_tuple_mul (PySem.F.args_tuple_mul_2 _ _) (ml_tuple k t l its.toArray n dd sl he h1 h2 hlen) ⟨ho, ?_⟩⟩)
  rw [hnew]
  refine ⟨.ref _, upd H s.heap.objs.size (.tup (List.replicate k.toNat xs).flatten), I.laid (t' := s.toks) (fun b ob q => Heap.get?_push_of_some _ q) (Nat.le_refl _) ?_, rfl, q _ (I.hok.fresh (Nat.le_refl _))⟩
  refine ⟨?_, _, r.rep k.toNat, IsTup.new _ _⟩
  have : (100000 : Nat) ≤ sizeLine := by decide
  rw [len_rep, Nat.mul_comm]
  omega
/-- t + u, of any -/
def rCatT3 (K : PySem.W.Frag) : R2 := fun x y H Q => ∃ a b xs ys, x = .ref a ∧ y = .ref b ∧ SqT K H a xs ∧ SqT K H b ys ∧ xs.length + ys.length ≤ sizeLine ∧
  (xs = [] → Q (.ref b) H) ∧ (xs ≠ [] → ys = [] → Q (.ref a) H) ∧ (xs ≠ [] → ys ≠ [] → ∀ p, H p = none → Q (.ref p) (upd H p (.tup (xs ++ ys))))
theorem op_catT3 : OpR X (binaryOp .Add) (rCatT3 X.K) := by
  intro pins s σ H x y v u Q I rx ry h
  obtain ⟨a, b, xs, ys, rfl, rfl, ha, hb, hz, q0, q1, q2⟩ := h
  by_cases hx : xs = []
  · subst hx
    cases rx
    cases ry
    obtain ⟨its, r1, p1, _⟩ := I.tuple ha
    obtain ⟨its2, r2, p2, _⟩ := I.tuple hb
    cases r1
    obtain ⟨⟨cls, dd, data, sl⟩, ho, hc, n, hd⟩ := id p1
    obtain ⟨⟨cls2, dd2, data2, sl2⟩, ho2, hc2, n2, hd2⟩ := id p2
    simp only at hc hd hc2 hd2
    subst hc hd hc2 hd2
    exact concat_meets ⟨_, ho, rfl⟩ ⟨_, ho2, rfl⟩ noFill_tuple_add seq_tuple_add PySem.F.slot_tuple_add PySem.F.entry_tuple_add (PySem.F.args_tuple_add_2 _ _) (tuple_addW0 a b _ _ n n2 dd dd2 sl sl2 rfl) ⟨ho, ho2, .ref b, H, I, rfl, q0 rfl⟩
  · exact op_catT pins s σ H _ _ v u Q I rx ry ⟨a, b, xs, ys, rfl, rfl, ha, hb, hx, hz, q1 hx, q2 hx⟩
/-- a list against the empty one -/
def rEqE (K : PySem.W.Frag) (neg : Bool) : R2 := fun x y H Q => ∃ a b xs, x = .ref a ∧ y = .ref b ∧ SqL K H a xs ∧ SqL K H b [] ∧ Q (.bl (if neg then !decide (xs = []) else decide (xs = []))) H
theorem op_eqE (hu : X.A.units + 1 < cLine) : OpR X (compareOp .Eq) (rEqE X.K false) := by
  intro pins s σ H x y v u Q I rx ry h
  obtain ⟨a, b, xs, rfl, rfl, h1, h2, q⟩ := h
  cases rx
  cases ry
  obtain ⟨its, r1, p1, _⟩ := I.list h1
  obtain ⟨its2, r2, p2, _⟩ := I.list h2
  cases r2
  cases r1 with
  | nil =>
    exact SeqAt.RcAt.lists (A := X.A) (s := s) (e := fun _ => true) p1.isList p2.isList rfl (by omega) (fun j g1 g2 => absurd g1 (by simp)) _ _ _ _ ⟨.bl _, H, I, rfl, q⟩
  | cons r rr =>
    exact SeqAt.RcAt.lists_lengths p1.isList p2.isList (by simp) (by omega) _ _ _ _ ⟨.bl _, H, I, rfl, q⟩
end
/-! ### values with all that they hold -/
inductive Tr where
  | non
  | bl (b : Bool)
  | int (i : Int)
  | str (z : Str)
  | tup (ts : List Tr)
  | lst (ts : List Tr)
mutual
def Rep (F : Addr → Prop) (H : Hp) : Tr → V → Prop
  | .non, v => v = .non
  | .bl b, v => v = .bl b
  | .int i, v => v = .int i
  | .str z, v => v = .str z
  | .tup ts, v => ∃ a vs, v = .ref a ∧ H a = some (.tup vs) ∧ Reps F H ts vs
  | .lst ts, v => ∃ a vs, v = .ref a ∧ F a ∧ H a = some (.lst vs) ∧ Reps F H ts vs
def Reps (F : Addr → Prop) (H : Hp) : List Tr → List V → Prop
  | [], vs => vs = []
  | t :: ts, vs => ∃ v us, vs = v :: us ∧ Rep F H t v ∧ Reps F H ts us
end
mutual
def Tr.dep : Tr → Nat
  | .tup ts => 1 + Tr.deps ts
  | .lst ts => 1 + Tr.deps ts
  | _ => 1
def Tr.deps : List Tr → Nat
  | [] => 0
  | t :: ts => max (Tr.dep t) (Tr.deps ts)
end
mutual
def Tr.ok : Tr → Prop
  | .str z => z.length ≤ 1000
  | .tup ts => ts.length ≤ 1000 ∧ Tr.oks ts
  | .lst ts => ts.length ≤ 1000 ∧ Tr.oks ts
  | _ => True
def Tr.oks : List Tr → Prop
  | [] => True
  | t :: ts => Tr.ok t ∧ Tr.oks ts
end
mutual
theorem Rep.same {F : Addr → Prop} {H H' : Hp} (s : Same H H') : ∀ (t : Tr) (v : V), Rep F H t v → Rep F H' t v
  | .non, _, h => h
  | .bl _, _, h => h
  | .int _, _, h => h
  | .str _, _, h => h
  | .tup ts, _, ⟨a, vs, e, ha, hr⟩ => ⟨a, vs, e, s.get ha, Reps.same s ts vs hr⟩
  | .lst ts, _, ⟨a, vs, e, fa, ha, hr⟩ => ⟨a, vs, e, fa, s.get ha, Reps.same s ts vs hr⟩
theorem Reps.same {F : Addr → Prop} {H H' : Hp} (s : Same H H') : ∀ (ts : List Tr) (vs : List V), Reps F H ts vs → Reps F H' ts vs
  | [], _, h => h
  | t :: ts, _, ⟨v, us, e, h1, h2⟩ => ⟨v, us, e, Rep.same s t v h1, Reps.same s ts us h2⟩
end
theorem Reps.len {F : Addr → Prop} {H : Hp} : ∀ (ts : List Tr) (vs : List V), Reps F H ts vs → vs.length = ts.length
  | [], _, h => by rw [show _ = [] from h]; rfl
  | t :: ts, _, ⟨v, us, e, _, h2⟩ => by rw [e, List.length_cons, List.length_cons, Reps.len ts us h2]
theorem Reps.get {F : Addr → Prop} {H : Hp} : ∀ {ts : List Tr} {vs : List V}, Reps F H ts vs → ∀ {i : Nat} {v : V}, vs[i]? = some v → ∃ t, ts[i]? = some t ∧ Rep F H t v
  | [], _, h, i, v, hv => by rw [show _ = [] from h] at hv; simp at hv
  | t :: ts, _, ⟨w, us, e, h1, h2⟩, 0, v, hv => by
    rw [e] at hv
    cases (Option.some.inj hv)
    exact ⟨t, rfl, h1⟩
  | t :: ts, _, ⟨w, us, e, h1, h2⟩, i + 1, v, hv => by
    rw [e] at hv
    obtain ⟨t', e1, e2⟩ := Reps.get h2 (i := i) (v := v) (by simpa using hv)
    exact ⟨t', by simpa using e1, e2⟩
theorem Reps.append {F : Addr → Prop} {H : Hp} : ∀ {ts us : List Tr} {vs ws : List V}, Reps F H ts vs → Reps F H us ws → Reps F H (ts ++ us) (vs ++ ws)
  | [], us, _, ws, h, h2 => by rw [show _ = [] from h]; exact h2
  | t :: ts, us, _, ws, ⟨w, vs, e, h1, hr⟩, h2 => by
    rw [e]
    exact ⟨w, vs ++ ws, rfl, h1, Reps.append hr h2⟩
theorem Reps.one {F : Addr → Prop} {H : Hp} {t : Tr} {v : V} (h : Rep F H t v) : Reps F H [t] [v] := ⟨v, [], rfl, h, rfl⟩
theorem Tr.oks_get : ∀ {ts : List Tr}, Tr.oks ts → ∀ {i : Nat} {t : Tr}, ts[i]? = some t → Tr.ok t
  | t :: ts, h, 0, t', e => by cases (Option.some.inj e); exact h.1
  | t :: ts, h, i + 1, t', e => Tr.oks_get h.2 (i := i) (by simpa using e)
theorem Tr.deps_get : ∀ {ts : List Tr} {i : Nat} {t : Tr}, ts[i]? = some t → Tr.dep t ≤ Tr.deps ts
  | t :: ts, 0, t', e => by cases (Option.some.inj e); exact Nat.le_max_left _ _
  | t :: ts, i + 1, t', e => Nat.le_trans (Tr.deps_get (ts := ts) (i := i) (by simpa using e)) (Nat.le_max_right _ _)
theorem Rep.ok {F : Addr → Prop} {H : Hp} : ∀ {t : Tr} {v : V}, Rep F H t v → t.ok → Ok H v
  | .non, _, h, _ => by rw [show _ = V.non from h]; trivial
  | .bl _, _, h, _ => by rw [show _ = V.bl _ from h]; trivial
  | .int _, _, h, _ => by rw [show _ = V.int _ from h]; trivial
  | .str z, _, h, o => by rw [show _ = V.str z from h]; exact o
  | .tup ts, _, ⟨a, vs, e, ha, _⟩, _ => by rw [e]; exact .inr ⟨vs, ha⟩
  | .lst ts, _, ⟨a, vs, e, _, ha, _⟩, _ => by rw [e]; exact .inl ⟨vs, ha⟩
section
variable {X : Cx} {pins : List (Addr × Obj)} {σ : St} {H : Hp} {s : Shared} {F G : Addr → Prop}
mutual
theorem rep_eq (I : Inv X pins σ H s) : ∀ (t : Tr) (A : Around) (v u : V) (vv uu : Value), A.units + t.dep < cLine → Rep F H t v → Rep G H t u → RelV v vv → RelV u uu → SeqAt.EqAt A s vv uu true
  | .non, A, v, u, vv, uu, _, h1, h2, r1, r2 => by
    rw [show v = V.non from h1] at r1; rw [show u = V.non from h2] at r2
    cases r1; cases r2
    exact SeqAt.EqAt.same _
  | .bl b, A, v, u, vv, uu, _, h1, h2, r1, r2 => by
    rw [show v = V.bl b from h1] at r1; rw [show u = V.bl b from h2] at r2
    cases r1; cases r2
    exact SeqAt.EqAt.same _
  | .int i, A, v, u, vv, uu, _, h1, h2, r1, r2 => by
    have := eqAt_V (A := A) (s := s) r1 r2 (by rw [show v = V.int i from h1]; rfl) (by rw [show u = V.int i from h2]; rfl)
    rw [show v = V.int i from h1, show u = V.int i from h2] at this
    have e : eqV (V.int i) (V.int i) = true := by rw [pure_eq rfl rfl]; simp
    rw [e] at this
    exact this
  | .str z, A, v, u, vv, uu, _, h1, h2, r1, r2 => by
    have := eqAt_V (A := A) (s := s) r1 r2 (by rw [show v = V.str z from h1]; rfl) (by rw [show u = V.str z from h2]; rfl)
    rw [show v = V.str z from h1, show u = V.str z from h2] at this
    have e : eqV (V.str z) (V.str z) = true := by rw [pure_eq rfl rfl]; simp
    rw [e] at this
    exact this
  | .tup ts, A, v, u, vv, uu, hA, ⟨a, vs, e1, ha, hr1⟩, ⟨b, us, e2, hb, hr2⟩, r1, r2 => by
    subst e1 e2
    cases r1; cases r2
    by_cases hab : a = b
    · subst hab; exact SeqAt.EqAt.same _
    have hA' : A.units + (1 + Tr.deps ts) < cLine := hA
    obtain ⟨its, rv1, p1, _⟩ := I.tuple (SqT.of (K := X.K) ha)
    obtain ⟨its2, rv2, p2, _⟩ := I.tuple (SqT.of (K := X.K) hb)
    have l1 := rv1.length.symm.trans (Reps.len ts vs hr1)
    have l2 := rv2.length.symm.trans (Reps.len ts us hr2)
    have q := SeqAt.RcAt.tuples (A := A) (s := s) (e := fun _ => true) p1 p2 (by omega) (fun j g1 g2 => reps_eq I ts A.in1 vs us its its2 (by show A.units + 1 + Tr.deps ts < cLine; omega) hr1 hr2 rv1 rv2 j (by simpa using g1) (by simpa using g2))
    have e : ((List.range (min its.toArray.size its2.toArray.size)).all (fun _ => true) && its.toArray.size == its2.toArray.size) = true := by
      simp [l1, l2]
    rw [e] at q
    exact SeqAt.EqAt.of_refs hab q
  | .lst ts, A, v, u, vv, uu, hA, ⟨a, vs, e1, _, ha, hr1⟩, ⟨b, us, e2, _, hb, hr2⟩, r1, r2 => by
    subst e1 e2
    cases r1; cases r2
    by_cases hab : a = b
    · subst hab; exact SeqAt.EqAt.same _
    have hA' : A.units + (1 + Tr.deps ts) < cLine := hA
    obtain ⟨its, rv1, p1, _⟩ := I.list (SqL.of (K := X.K) ha)
    obtain ⟨its2, rv2, p2, _⟩ := I.list (SqL.of (K := X.K) hb)
    have l1 := rv1.length.symm.trans (Reps.len ts vs hr1)
    have l2 := rv2.length.symm.trans (Reps.len ts us hr2)
    have q := SeqAt.RcAt.lists (A := A) (s := s) (e := fun _ => true) p1.isList p2.isList (by simp [l1, l2]) (by omega) (fun j g1 g2 => reps_eq I ts A.in1 vs us its its2 (by show A.units + 1 + Tr.deps ts < cLine; omega) hr1 hr2 rv1 rv2 j (by simpa using g1) (by simpa using g2))
    have e : ((List.range its.toArray.size).all (fun _ => true)) = true := by simp
    rw [e] at q
    exact SeqAt.EqAt.of_refs hab q
theorem reps_eq (I : Inv X pins σ H s) : ∀ (ts : List Tr) (A : Around) (vs us : List V) (its its2 : List Value), A.units + Tr.deps ts < cLine → Reps F H ts vs → Reps G H ts us → Vals vs its → Vals us its2 → ∀ (j : Nat) (g1 : j < its.length) (g2 : j < its2.length), SeqAt.EqAt A s its[j] its2[j] true
  | [], A, vs, us, its, its2, _, h1, h2, r1, r2 => fun j g1 g2 => by
    rw [show vs = [] from h1] at r1
    cases r1
    simp at g1
  | t :: ts, A, vs, us, its, its2, hA, ⟨v, vr, e1, a1, b1⟩, ⟨u, ur, e2, a2, b2⟩, r1, r2 => by
    subst e1 e2
    have hA' : A.units + max (Tr.dep t) (Tr.deps ts) < cLine := hA
    cases r1 with
    | cons p1 q1 =>
      cases r2 with
      | cons p2 q2 =>
        intro j g1 g2
        cases j with
        | zero => exact rep_eq I t A v u _ _ (by omega) a1 a2 p1 p2
        | succ j => exact reps_eq I ts A vr ur _ _ (by omega) b1 b2 q1 q2 j (by simpa using g1) (by simpa using g2)
end
end
section
variable {X : Cx}
/-- two values that hold alike -/
def rNeR : R2 := fun x y H Q => ∃ t F G, t.dep ≤ 100 ∧ Rep F H t x ∧ Rep G H t y ∧ Q (.bl false) H
theorem op_neR (hu : X.A.units + 150 < cLine) : OpR X (compareOp .NotEq) rNeR := by
  intro pins s σ H x y v u Q I rx ry h
  obtain ⟨t, F, G, hd, h1, h2, q⟩ := h
  have scal : ∀ z : V, pureV z = true ∨ (∃ b, z = .bl b) → x = z → y = z → wpAny (model X.prog X.w) X.A (compareOp .NotEq v u) (EP X pins σ Q) X.xe s := fun z hz e1 e2 => by
    refine op_ne pins s σ H x y v u Q I rx ry ⟨?_, ?_⟩
    · subst e1 e2
      rcases hz with hz | ⟨b, rfl⟩
      · cases y <;> first | rfl | exact absurd (show false = true from hz) Bool.false_ne_true
      · rfl
    · rw [e1, e2]; simpa using q
  cases t with
  | non => exact scal _ (.inl rfl) h1 h2
  | bl b => exact scal _ (.inr ⟨b, rfl⟩) h1 h2
  | int i => exact scal (.int i) (.inl rfl) h1 h2
  | str z => exact scal (.str z) (.inl rfl) h1 h2
  | tup ts =>
    obtain ⟨a, vs, rfl, ha, hr1⟩ := h1
    obtain ⟨b, us, rfl, hb, hr2⟩ := h2
    cases rx; cases ry
    have hd' : 1 + Tr.deps ts ≤ 100 := hd
    obtain ⟨its, rv1, p1, _⟩ := I.tuple (SqT.of (K := X.K) ha)
    obtain ⟨its2, rv2, p2, _⟩ := I.tuple (SqT.of (K := X.K) hb)
    have l1 := rv1.length.symm.trans (Reps.len ts vs hr1)
    have l2 := rv2.length.symm.trans (Reps.len ts us hr2)
    have q2 := SeqAt.RcNeAt.tuples (A := X.A) (s := s) (e := fun _ => true) p1 p2 (by omega) (fun j g1 g2 => reps_eq I ts X.A.in1 vs us its its2 (by show X.A.units + 1 + Tr.deps ts < cLine; omega) hr1 hr2 rv1 rv2 j (by simpa using g1) (by simpa using g2))
    have e : (!((List.range (min its.toArray.size its2.toArray.size)).all (fun _ => true) && its.toArray.size == its2.toArray.size)) = false := by
      simp [l1, l2]
    rw [e] at q2
    exact q2 _ _ _ _ ⟨.bl _, H, I, rfl, q⟩
  | lst ts =>
    obtain ⟨a, vs, rfl, _, ha, hr1⟩ := h1
    obtain ⟨b, us, rfl, _, hb, hr2⟩ := h2
    cases rx; cases ry
    have hd' : 1 + Tr.deps ts ≤ 100 := hd
    obtain ⟨its, rv1, p1, _⟩ := I.list (SqL.of (K := X.K) ha)
    obtain ⟨its2, rv2, p2, _⟩ := I.list (SqL.of (K := X.K) hb)
    have l1 := rv1.length.symm.trans (Reps.len ts vs hr1)
    have l2 := rv2.length.symm.trans (Reps.len ts us hr2)
    have q2 := SeqAt.RcNeAt.lists (A := X.A) (s := s) (e := fun _ => true) p1.isList p2.isList (by simp [l1, l2]) (by omega) (fun j g1 g2 => reps_eq I ts X.A.in1 vs us its its2 (by show X.A.units + 1 + Tr.deps ts < cLine; omega) hr1 hr2 rv1 rv2 j (by simpa using g1) (by simpa using g2))
    have e : (!(List.range its.toArray.size).all (fun _ => true)) = false := by simp
    rw [e] at q2
    exact q2 _ _ _ _ ⟨.bl _, H, I, rfl, q⟩
end
mutual
theorem Rep.mono {F G : Addr → Prop} {H : Hp} (h : ∀ a, F a → G a) : ∀ (t : Tr) (v : V), Rep F H t v → Rep G H t v
  | .non, _, q => q
  | .bl _, _, q => q
  | .int _, _, q => q
  | .str _, _, q => q
  | .tup ts, _, ⟨a, vs, e, ha, hr⟩ => ⟨a, vs, e, ha, Reps.mono h ts vs hr⟩
  | .lst ts, _, ⟨a, vs, e, fa, ha, hr⟩ => ⟨a, vs, e, h a fa, ha, Reps.mono h ts vs hr⟩
theorem Reps.mono {F G : Addr → Prop} {H : Hp} (h : ∀ a, F a → G a) : ∀ (ts : List Tr) (vs : List V), Reps F H ts vs → Reps G H ts vs
  | [], _, q => q
  | t :: ts, _, ⟨v, us, e, h1, h2⟩ => ⟨v, us, e, Rep.mono h t v h1, Reps.mono h ts us h2⟩
end
mutual
theorem Rep.upd {F : Addr → Prop} {H : Hp} {l : Addr} {us us' : List V} (hl : H l = some (.lst us)) (nl : ¬ F l) : ∀ (t : Tr) (v : V), Rep F H t v → Rep F (upd H l (.lst us')) t v
  | .non, _, q => q
  | .bl _, _, q => q
  | .int _, _, q => q
  | .str _, _, q => q
  | .tup ts, _, ⟨a, vs, e, ha, hr⟩ => ⟨a, vs, e, by rw [upd_ne (ne_of ha hl (by intro z; cases z))]; exact ha, Reps.upd hl nl ts vs hr⟩
  | .lst ts, _, ⟨a, vs, e, fa, ha, hr⟩ => ⟨a, vs, e, fa, by rw [upd_ne (show a ≠ l from fun z => nl (by rw [← z]; exact fa))]; exact ha, Reps.upd hl nl ts vs hr⟩
theorem Reps.upd {F : Addr → Prop} {H : Hp} {l : Addr} {us us' : List V} (hl : H l = some (.lst us)) (nl : ¬ F l) : ∀ (ts : List Tr) (vs : List V), Reps F H ts vs → Reps F (L2.upd H l (.lst us')) ts vs
  | [], _, q => q
  | t :: ts, _, ⟨v, ur, e, h1, h2⟩ => ⟨v, ur, e, Rep.upd hl nl t v h1, Reps.upd hl nl ts ur h2⟩
end
/-- [e for x in ..], each item new as far as it is a list's -/
theorem comp_new {J : It} {xs : List V} {fr : List (Option Nat)} {k : Nat} {te : TE} {Q : VK} {σ : St} {H : Hp} (P : Nat → Hp → V → Hp → Prop) (hP : ∀ i H1 y H2 H3, P i H1 y H2 → Same H2 H3 → P i H1 y H3)
    (hU : ∀ i H1 y H2 l us us' ws, P i H1 y H2 → H1 l = some (.lst ws) → H2 l = some (.lst us) → P i H1 y (upd H2 l (.lst us'))) (hJ : ItIs J H xs) (hn : xs.length ≤ 1000000)
    (helt : ∀ (i : Nat) (x : V) (H' : Hp) (R : VK), xs[i]? = some x → Same H H' → (∀ y H'', Same H' H'' → P i H' y H'' → R y H'') → te ((stC fr σ).set k (some x)) H' R)
    (hQ : ∀ l H' (ys : List V), H l = none → Same H H' → H' l = some (.lst ys) → ys.length = xs.length → (∀ (i : Nat) y, ys[i]? = some y → ∃ H1, Same H H1 ∧ P i H1 y H') → Q (.ref l) H') :
    tCompK fr (gName k) tYes te σ Q J H := by
  intro l hl
  refine ⟨fun i m σ' H' => m = xs.length - i ∧ i ≤ xs.length ∧ (∀ y, σ'.set k y = (stC fr σ).set k y) ∧ Same H H' ∧ ∃ ys : List V, H' l = some (.lst ys) ∧ ys.length = i ∧ (∀ (i : Nat) y, ys[i]? = some y → ∃ H1 ws, Same H H1 ∧ H1 l = some (.lst ws) ∧ P i H1 y H'),
    ⟨xs.length, by simp, Nat.zero_le _, fun _ => rfl, same_new hl _, [], upd_same, rfl, fun i y h => by simp at h⟩, ?_⟩
  rintro i m σ' H' ⟨rfl, hi, hσ, hs, ys, hl', hlen, hp⟩
  obtain ⟨h1, h2, h3⟩ := hJ H' hs i
  by_cases hlt : i < xs.length
  · refine .inr ⟨h1 hlt, fun x H'' y => ?_⟩
    obtain ⟨rfl, hx⟩ := h2 x H'' y
    have hx := hx hlt
    show te (σ'.set k (some x)) H'' _
    rw [hσ]
    refine helt i x H'' _ hx hs fun y H4 s4 py => ?_
    refine ⟨_, s4.get hl', smallLt (by omega), xs.length - (i + 1), by omega, rfl, hlt, fun y => by rw [List.set_set], same_upd (hs.trans s4) hl _, ys ++ [y], upd_same, by rw [List.length_append, hlen]; rfl, fun j y' hy' => ?_⟩
    by_cases hj : j < ys.length
    · rw [List.getElem?_append_left hj] at hy'
      obtain ⟨H1, ws, a1, a2, a3⟩ := hp j y' hy'
      exact ⟨H1, ws, a1, a2, hU _ _ _ _ _ _ _ _ (hP _ _ _ _ _ a3 s4) a2 (s4.get hl')⟩
    · rw [List.getElem?_append_right (by omega)] at hy'
      by_cases hj2 : j = ys.length
      · subst hj2
        rw [Nat.sub_self] at hy'
        cases (Option.some.inj hy' : y = y')
        rw [hlen]
        exact ⟨H'', ys, hs, hl', hU _ _ _ _ _ _ _ _ py hl' (s4.get hl')⟩
      · rw [List.getElem?_eq_none (by simp; omega)] at hy'
        cases hy'
  · have e : i = xs.length := by omega
    subst e
    exact .inl ⟨h3 (Nat.le_refl _), hQ l H' ys hl hs hl' hlen fun i y hy => (let ⟨H1, _, a1, _, a3⟩ := hp i y hy; ⟨H1, a1, a3⟩)⟩
/-- [x for x in .. if p], where the test makes new objects: whether there is any -/
theorem comp_any {J : It} {xs : List V} {fr : List (Option Nat)} {k : Nat} {tt : TT} {te : TE} {Q : VK} {σ : St} {H : Hp} (p : Nat → Bool) (hJ : ItIs J H xs) (hn : xs.length ≤ 1000000)
    (htest : ∀ (i : Nat) (x : V) (H' : Hp) (R : Bool → Hp → Prop), xs[i]? = some x → Same H H' → (∀ H'', Same H' H'' → R (p i) H'') → tt ((stC fr σ).set k (some x)) H' R)
    (helt : ∀ (x : V) (H' : Hp) (R : VK), Same H H' → (∀ H'', Same H' H'' → R x H'') → te ((stC fr σ).set k (some x)) H' R)
    (hQ : ∀ l H' (ys : List V), H l = none → Same H H' → H' l = some (.lst ys) → (ys = [] ↔ ∀ i, i < xs.length → p i = false) → Q (.ref l) H') : tCompK fr (gName k) tt te σ Q J H := by
  intro l hl
  refine ⟨fun i m σ' H' => m = xs.length - i ∧ i ≤ xs.length ∧ (∀ y, σ'.set k y = (stC fr σ).set k y) ∧ Same H H' ∧ ∃ ys : List V, H' l = some (.lst ys) ∧ ys.length ≤ i ∧ (ys = [] ↔ ∀ j, j < i → p j = false), ⟨xs.length, by simp, Nat.zero_le _, fun _ => rfl, same_new hl _, [], upd_same, Nat.zero_le _, ⟨fun _ j hj => absurd hj (Nat.not_lt_zero _), fun _ => rfl⟩⟩, ?_⟩
  rintro i m σ' H' ⟨rfl, hi, hσ, hs, ys, hl', hle, hy⟩
  obtain ⟨h1, h2, h3⟩ := hJ H' hs i
  by_cases hlt : i < xs.length
  · refine .inr ⟨h1 hlt, fun x H'' y => ?_⟩
    obtain ⟨rfl, hx⟩ := h2 x H'' y
    have hx := hx hlt
    show tt (σ'.set k (some x)) H'' _
    rw [hσ]
    refine htest i x H'' _ hx hs fun H3 s3 => ite2 (fun c => ?_) (fun c => ?_)
    · refine helt x H3 _ (hs.trans s3) fun H4 s4 => ?_
      refine ⟨_, s4.get (s3.get hl'), smallLt (by omega), xs.length - (i + 1), by omega, rfl, hlt, fun y => by rw [List.set_set], same_upd ((hs.trans s3).trans s4) hl _, ys ++ [x], upd_same, by rw [List.length_append]; show ys.length + 1 ≤ i + 1; omega, ⟨fun z => by simp at z, fun z => ?_⟩⟩
      have := z i (Nat.lt_succ_self i)
      rw [c] at this; cases this
    · refine ⟨xs.length - (i + 1), by omega, rfl, hlt, fun y => by rw [List.set_set], hs.trans s3, ys, s3.get hl', by omega, hy.trans ⟨fun z j hj => ?_, fun z j hj => z j (by omega)⟩⟩
      by_cases hji : j < i
      · exact z j hji
      · rw [show j = i by omega]; exact Bool.eq_false_iff.mpr c
  · have e : i = xs.length := by omega
    subst e
    exact .inl ⟨h3 (Nat.le_refl _), hQ l H' ys hl hs hl' hy⟩
theorem itIs_tup {K : PySem.W.Frag} {a : Addr} {H : Hp} {xs : List V} (h : H a = some (.tup xs)) : ItIs (Itt K a) H xs := fun H' s i =>
  ⟨fun hi => ⟨xs, xs[i], SqT.of (s.get h), by simp [hi]⟩, fun x H'' y => ⟨y.1, fun _ => y.2 xs (SqT.of (s.get h))⟩, fun hi => ⟨xs, SqT.of (s.get h), hi⟩⟩
def Tr.ty : Tr → String
  | .non => "NoneType"
  | .bl _ => "bool"
  | .int _ => "int"
  | .str _ => "str"
  | .tup _ => "tuple"
  | .lst _ => "list"
theorem Rep.tyN {F : Addr → Prop} {H : Hp} : ∀ {t : Tr} {v : V}, Rep F H t v → L2.tyN H v = t.ty
  | .non, _, h => by rw [show _ = V.non from h]; rfl
  | .bl _, _, h => by rw [show _ = V.bl _ from h]; rfl
  | .int _, _, h => by rw [show _ = V.int _ from h]; rfl
  | .str z, _, h => by rw [show _ = V.str z from h]; rfl
  | .tup ts, _, ⟨a, vs, e, ha, _⟩ => by rw [e]; simp only [L2.tyN, ha]; rfl
  | .lst ts, _, ⟨a, vs, e, _, ha, _⟩ => by rw [e]; simp only [L2.tyN, ha]; rfl
theorem hu9_of {A : Around} {k : Nat} (hr : Room k A) : A.units + 150 < cLine := by have := hr.un; omega
/-! ### displays, by what they hold -/
def RdB (te : TE) (σ : St) (H : Hp) (m : Nat) : Prop := ∀ H0, Same H H0 → ∀ R : VK, (∀ v H' t, Same H0 H' → Rep (fun _ => True) H' t v → t.ok → t.dep ≤ m → R v H') → te σ H0 R
def RdBs (ta : TA) (σ : St) (H : Hp) (m k : Nat) : Prop := ∀ H0, Same H H0 → ∀ R : List V → Hp → Prop, (∀ vs H' ts, Same H0 H' → Reps (fun _ => True) H' ts vs → ts.length = k → Tr.oks ts → Tr.deps ts ≤ m → R vs H') → ta σ H0 R
section
variable {σ : St} {H : Hp} {m k : Nat} {te : TE} {ta : TA}
theorem rb_int {i : Int} : RdB (tC (.int i)) σ H (m + 1) := fun H0 _ R hR => hR _ H0 (.int i) (Same.refl _) rfl trivial (Nat.le_add_left 1 m)
theorem rb_bl {b : Bool} : RdB (tC (.bl b)) σ H (m + 1) := fun H0 _ R hR => hR _ H0 (.bl b) (Same.refl _) rfl trivial (Nat.le_add_left 1 m)
theorem rb_non : RdB (tC .non) σ H (m + 1) := fun H0 _ R hR => hR _ H0 .non (Same.refl _) rfl trivial (Nat.le_add_left 1 m)
theorem rb_str {z : Str} (h : z.length ≤ 1000) : RdB (tC (.str z)) σ H (m + 1) := fun H0 _ R hR => hR _ H0 (.str z) (Same.refl _) rfl h (Nat.le_add_left 1 m)
theorem rb_isI (h : ∀ H0, Same H H0 → ∃ i : Int, ∀ R : VK, R (.int i) H0 → te σ H0 R) : RdB te σ H (m + 1) := fun H0 s0 R hR => by
  obtain ⟨i, hi⟩ := h H0 s0
  exact hi R (hR _ H0 (.int i) (Same.refl _) rfl trivial (Nat.le_add_left 1 m))
theorem rb_isS (h : ∀ H0, Same H H0 → ∃ z : Str, z.length ≤ 1000 ∧ ∀ R : VK, R (.str z) H0 → te σ H0 R) : RdB te σ H (m + 1) := fun H0 s0 R hR => by
  obtain ⟨z, hz, hi⟩ := h H0 s0
  exact hi R (hR _ H0 (.str z) (Same.refl _) rfl hz (Nat.le_add_left 1 m))
theorem rb_nil : RdBs tNil σ H m 0 := fun H0 _ R hR => hR [] H0 [] (Same.refl _) rfl rfl trivial (Nat.zero_le _)
theorem rb_cons (h : RdB te σ H m) (ht : RdBs ta σ H m k) : RdBs (tCons te ta) σ H m (k + 1) := fun H0 s0 R hR => by
  refine h H0 s0 _ fun v H1 t s1 r1 o1 d1 => ?_
  refine ht H1 (s0.trans s1) _ fun vs H2 ts s2 r2 l2 o2 d2 => ?_
  exact hR (v :: vs) H2 (t :: ts) (s1.trans s2) ⟨v, vs, rfl, Rep.same s2 _ _ r1, r2⟩ (by rw [List.length_cons, l2]) ⟨o1, o2⟩ (Nat.max_le.mpr ⟨d1, d2⟩)
theorem rb_tup (h : RdBs ta σ H m k) (hk : k ≤ 1000 := by decide) : RdB (tTup ta) σ H (m + 1) := fun H0 s0 R hR => by
  refine h H0 s0 _ fun vs H1 ts s1 r1 l1 o1 d1 => ⟨small (by rw [Reps.len ts vs r1]; omega), fun p hp => ?_⟩
  have sp := same_new hp (.tup vs)
  exact hR _ _ (.tup ts) (s1.trans sp) ⟨p, vs, rfl, upd_same, Reps.same sp _ _ r1⟩ ⟨by omega, o1⟩ (by show 1 + Tr.deps ts ≤ m + 1; omega)
theorem rb_lst (h : RdBs ta σ H m k) (hk : k ≤ 1000 := by decide) : RdB (tLst ta) σ H (m + 1) := fun H0 s0 R hR => by
  refine h H0 s0 _ fun vs H1 ts s1 r1 l1 o1 d1 => ⟨small (by rw [Reps.len ts vs r1]; omega), fun p hp => ?_⟩
  have sp := same_new hp (.lst vs)
  exact hR _ _ (.lst ts) (s1.trans sp) ⟨p, vs, rfl, trivial, upd_same, Reps.same sp _ _ r1⟩ ⟨by omega, o1⟩ (by show 1 + Tr.deps ts ≤ m + 1; omega)
theorem Reps.rep {F : Addr → Prop} {ts : List Tr} {vs : List V} (h : Reps F H ts vs) : ∀ n : Nat, Reps F H (List.replicate n ts).flatten (List.replicate n vs).flatten
  | 0 => rfl
  | n + 1 => by
    rw [List.replicate_succ, List.replicate_succ, List.flatten_cons, List.flatten_cons]
    exact Reps.append h (Reps.rep h n)
theorem Tr.oks_append : ∀ {ts us : List Tr}, Tr.oks ts → Tr.oks us → Tr.oks (ts ++ us)
  | [], _, _, h => h
  | _ :: ts, _, h1, h2 => ⟨h1.1, Tr.oks_append h1.2 h2⟩
theorem Tr.deps_append : ∀ {ts us : List Tr}, Tr.deps ts ≤ m → Tr.deps us ≤ m → Tr.deps (ts ++ us) ≤ m
  | [], _, _, h => h
  | _ :: ts, _, h1, h2 => Nat.max_le.mpr ⟨(Nat.max_le.mp h1).1, Tr.deps_append (Nat.max_le.mp h1).2 h2⟩
theorem Tr.rep_ok {ts : List Tr} (h : Tr.oks ts) : ∀ n : Nat, Tr.oks (List.replicate n ts).flatten
  | 0 => trivial
  | n + 1 => by rw [List.replicate_succ, List.flatten_cons]; exact Tr.oks_append h (Tr.rep_ok h n)
theorem Tr.rep_dep {ts : List Tr} (h : Tr.deps ts ≤ m) : ∀ n : Nat, Tr.deps (List.replicate n ts).flatten ≤ m
  | 0 => Nat.zero_le _
  | n + 1 => by rw [List.replicate_succ, List.flatten_cons]; exact Tr.deps_append h (Tr.rep_dep h n)
/-- (x,) * k -/
theorem rb_repT {tk : TE} (h : RdBs ta σ H m 1) (hk : ∀ H0, Same H H0 → ∃ i : Int, 2 ≤ i ∧ i ≤ 1000 ∧ ∀ R : VK, R (.int i) H0 → tk σ H0 R) : RdB (tOp rRepT (tTup ta) tk) σ H (m + 1) := fun H0 s0 R hR => by
  refine h H0 s0 _ fun vs H1 ts s1 r1 l1 o1 d1 => ⟨small (by rw [Reps.len ts vs r1]; omega), fun p hp => ?_⟩
  have lv := Reps.len ts vs r1
  have sp := same_new hp (.tup vs)
  obtain ⟨i, i1, i2, hi⟩ := hk _ ((s0.trans s1).trans sp)
  refine hi _ ⟨p, i, vs, rfl, rfl, upd_same, fun z => (by rw [z, l1] at lv; cases lv), i1, by omega, (by rw [lv, l1]; omega), fun p2 hp2 => ?_⟩
  have sq := same_new hp2 (.tup (List.replicate i.toNat vs).flatten)
  refine hR _ _ (.tup (List.replicate i.toNat ts).flatten) ((s1.trans sp).trans sq) ⟨p2, _, rfl, upd_same, Reps.same (sp.trans sq) _ _ (Reps.rep r1 _)⟩ ⟨by rw [len_rep, l1]; omega, Tr.rep_ok o1 _⟩ ?_
  have := Tr.rep_dep d1 i.toNat
  show 1 + Tr.deps (List.replicate i.toNat ts).flatten ≤ m + 1
  omega
end
theorem rdbs_use {σ : St} {H : Hp} {ta : TA} {R : List V → Hp → Prop} (m k : Nat) (h : RdBs ta σ H m k) (hR : ∀ vs H' ts, Same H H' → Reps (fun _ => True) H' ts vs → ts.length = k → Tr.oks ts → Tr.deps ts ≤ m → R vs H') : ta σ H R := h H (Same.refl _) R hR
end L2

/-! ### a dict's keys, walked: the dict is frozen from then on -/
namespace L2
open PySem PySem.Spec PyProof.Rows
def Itd (d : Addr) (o : Obj) (kvs : List (Key × V)) : It :=
  ⟨fun i H => H d = some (.frz o (.dK kvs)) ∧ i < kvs.length, fun i H x H' => H' = H ∧ ∃ k v, kvs[i]? = some (k, v) ∧ x = kV k, fun i H => H d = some (.frz o (.dK kvs)) ∧ kvs.length ≤ i⟩
/-- a key's value -/
theorem relV_key {P : Program} {w : World} {k : Key} {u : Value} (h : (mixKind P w).is k u = true) : RelV (kV k) u := by
  rcases keyIs_shape h with ⟨i, t, rfl, rfl⟩ | ⟨x, t, rfl, rfl⟩
  · exact ⟨t, rfl⟩
  · exact ⟨t, rfl⟩
theorem frz_at {X : Cx} {pins : List (Addr × Obj)} {σ : St} {H : Hp} {s : Shared} {d : Addr} {o : Obj} {kvs : List (Key × V)} {es : Array DictEntry} {ep : Nat} (I : Inv X pins σ H s) (h : H d = some (.frz o (.dK kvs))) (he : o.data = .dict es ep) :
    (d == sysModules) = false ∧ ∃ vs, KV kvs vs ∧ s.heap.DictAt (mixKind X.prog X.w) d vs ep := by
  obtain ⟨ho, _, hs, vs, r, o', es', ep', ho', h1, h2, h3⟩ := I.hok d _ h
  rw [ho] at ho'
  cases ho'
  rw [he] at h2
  injection h2 with e1 e2
  subst e1 e2
  exact ⟨hs, vs, r, o, es, ho, h1, he, h3⟩
theorem turn_dict {P : Program} {w : World} {K : PySem.W.Frag} {tg : Expr} (d it : Addr) (o : Obj) (kvs : List (Key × V)) (es : Array DictEntry) (ep : Nat) (he : o.data = .dict es ep) : Turn P w K tg (Itd d o kvs) [it] it (fun i h => h.IsKeyIter it d i kvs.length ep) where
  mem := by simp
  obj := fun i h st b hb => by
    have e : b = it := by simpa using hb
    subst e
    obtain ⟨o, e, c, d⟩ := st
    exact ⟨o, e, fun v z => by rw [d] at z; cases z⟩
  keep := fun i h h' st k => st.at fun o e => k it (by simp) o e
  item := by
    intro X hP hw hK hc i pins s σ H E I hf st hg
    subst hP hw hK
    obtain ⟨hq, hi⟩ := hg
    obtain ⟨_, vs, r, hat⟩ := frz_at I hq he
    have hl : kvs.length = vs.length := Paired.length r
    obtain ⟨f0, f1, f2, f3, f4, f5⟩ := hf it (by simp)
    have ek : kvs[i]? = some kvs[i] := List.getElem?_eq_getElem hi
    have ev : vs[i]? = some vs[i] := List.getElem?_eq_getElem (by omega)
    have rk := r.keys
    have e1 : kvs[i].1 = (vs[i]'(by omega)).1 := by
      have := congrArg (fun l => l[i]?) rk
      simp only [List.getElem?_map, ek, ev, Option.map_some] at this
      exact Option.some.inj this
    rw [hl] at st
    refine wpAny_pyNext_dict_item (k := (vs[i]'(by omega)).1) (v := (vs[i]'(by omega)).2) st hat ev fun key h' hkey st' sb => ?_
    have I1 : Inv X pins σ H { s with heap := h' } := I.turned (t' := s.toks) (fun b o hb e => (sb.2 b hb).trans e) f0 f1 f3 f4 f5
    rw [← hl] at st'
    obtain ⟨o2, e, c, dd⟩ := id st'
    exact ⟨key, rfl, go_of (s := { s with heap := h' }) e c dd (by decide) ⟨kV kvs[i].1, H, I1, relV_key (by rw [e1]; exact hkey), ⟨rfl, kvs[i].1, kvs[i].2, ek, rfl⟩, st', fun b hb => (hf b hb).1⟩⟩
  done := by
    intro X hP hw hK hc i pins s σ H E I hf st hg
    subst hP hw hK
    obtain ⟨hq, hi⟩ := hg
    obtain ⟨_, vs, r, hat⟩ := frz_at I hq he
    have hl : kvs.length = vs.length := Paired.length r
    obtain ⟨f0, f1, f2, f3, f4, f5⟩ := hf it (by simp)
    rw [hl] at st
    exact wpAny_pyNext_dict_end (I.ok.hd hc) st hat (List.getElem?_eq_none (by omega)) fun h' eb => ⟨rfl, I.turned (t' := s.toks) (fun b o hb e => eb b o hb e) f0 f1 f3 f4 f5⟩
  self := fun _ _ _ _ _ st h => wpAny_pyIter_keyiter st h
/-- the dict is frozen as it stands -/
theorem Inv.freeze {X : Cx} {pins : List (Addr × Obj)} {σ : St} {H : Hp} {s : Shared} {d : Addr} {o : Obj} {kvs : List (Key × V)} (I : Inv X pins σ H s) (h : H d = some (.dK kvs)) (ho : s.heap.get? d = some o) : Inv X pins σ (upd H d (.frz o (.dK kvs))) s := by
  have nd : ∀ b, H b = none → upd H d (.frz o (.dK kvs)) b = none := fun b hb => by
    rw [upd_ne (fun z => by rw [z, h] at hb; cases hb)]; exact hb
  refine ⟨I.ok, I.os, I.bare, ⟨I.base.keep, I.base.slot, fun b ob e1 e2 e3 => nd b (I.base.free b ob e1 e2 e3), I.base.there, fun b xs e => ?_, fun b o2 u e => ?_, fun b ps e => ?_⟩, I.loc, I.cell, nd _ I.free, fun x c e => nd c (I.freeC x c e), fun p hp => ?_, fun b u e => ?_, I.len⟩
  · have := I.base.tups b xs e
    rw [upd_ne (ne_of this h (by intro z; cases z))]; exact this
  · have := I.base.frzs b o2 u e
    rw [upd_ne (ne_of this h (by intro z; cases z))]; exact this
  · obtain ⟨more, q⟩ := I.base.tbls b ps e
    exact ⟨more, by rw [upd_ne (ne_of q h (by intro z; cases z))]; exact q⟩
  · obtain ⟨p1, p2, p3⟩ := I.pin p hp
    exact ⟨p1, nd _ p2, p3⟩
  · by_cases hb : b = d
    · subst hb
      rw [upd_same] at e
      cases e
      exact ⟨ho, (I.hok b _ h).stay (fun c v _ r => r) (fun c r => by rw [upd_ne (ne_of r h (by intro z; cases z))]; exact r) fun c xs r => by rw [upd_ne (ne_of r h (by intro z; cases z))]; exact r⟩
    · rw [upd_ne hb] at e
      exact (I.hok b u e).stay (fun c v _ r => r) (fun c r => by rw [upd_ne (ne_of r h (by intro z; cases z))]; exact r) fun c xs r => by rw [upd_ne (ne_of r h (by intro z; cases z))]; exact r
section
variable {X : Cx} {tg : Expr}
def iDict (tl : TE) : TI := fun σ H R => tl σ H fun x H1 => ∃ d kvs, x = .ref d ∧ H1 d = some (.dK kvs) ∧ ∀ o, R (Itd d o kvs) (upd H1 d (.frz o (.dK kvs)))
theorem pi_dict {l : Expr} {tl : TE} (hl : PE X l tl) : PI X tg l (iDict tl) := by
  intro pins s σ H R I h
  refine thn (hl pins s σ H _ I h) fun v s1 ⟨x, H1, I1, r1, q1⟩ => ?_
  obtain ⟨d, kvs, e, hq, q⟩ := q1
  subst e
  cases r1
  obtain ⟨_, _, vs, r, o, es, ep, ho, _, he, _⟩ := I1.hok d _ hq
  have I2 := I1.freeze hq ho
  obtain ⟨hs, vs, r, hat⟩ := frz_at I2 upd_same he
  have hl : kvs.length = vs.length := Paired.length r
  refine wpAny_pyIter_dict hs hat ?_
  refine ⟨s1.heap.objs.size, [s1.heap.objs.size], _, _, _, rfl, I2.kept (t' := s1.toks) fun b o e => Heap.get?_push_of_some _ e, turn_dict d _ o kvs es ep he, ⟨_, Heap.get?_push_size _ rfl, rfl, by rw [hl]; rfl⟩, fun b hb => ?_, q o⟩
  have e : b = s1.heap.objs.size := by simpa using hb
  subst e
  exact I2.fpOk (Nat.le_refl _) (I2.hok.fresh (Nat.le_refl _))
/-- a dict that is frozen already -/
def iDictF (tl : TE) : TI := fun σ H R => tl σ H fun x H1 => ∃ d o kvs, x = .ref d ∧ H1 d = some (.frz o (.dK kvs)) ∧ R (Itd d o kvs) H1
theorem pi_dictF {l : Expr} {tl : TE} (hl : PE X l tl) : PI X tg l (iDictF tl) := by
  intro pins s σ H R I h
  refine thn (hl pins s σ H _ I h) fun v s1 ⟨x, H1, I1, r1, q1⟩ => ?_
  obtain ⟨d, o, kvs, e, hq, q⟩ := q1
  subst e
  cases r1
  obtain ⟨ho, _, _, vs, r, o', es, ep, ho', _, he, _⟩ := I1.hok d _ hq
  rw [ho] at ho'
  cases ho'
  obtain ⟨hs, vs, r, hat⟩ := frz_at I1 hq he
  have hl : kvs.length = vs.length := Paired.length r
  refine wpAny_pyIter_dict hs hat ?_
  refine ⟨s1.heap.objs.size, [s1.heap.objs.size], _, _, _, rfl, I1.kept (t' := s1.toks) fun b o e => Heap.get?_push_of_some _ e, turn_dict d _ o kvs es ep he, ⟨_, Heap.get?_push_size _ rfl, rfl, by rw [hl]; rfl⟩, fun b hb => ?_, q⟩
  have e : b = s1.heap.objs.size := by simpa using hb
  subst e
  exact I1.fpOk (Nat.le_refl _) (I1.hok.fresh (Nat.le_refl _))
end
/-- for k in dict: it stays frozen -/
theorem for_dict {d : Addr} {o : Obj} {kvs : List (Key × V)} {g : TG} {tb : TS} {D : Ends} {σ : St} {H : Hp} (Pv : Nat → St → Hp → Prop) (h0 : Pv 0 σ H) (hl : ∀ (i : Nat) (σ : St) (H : Hp), i ≤ kvs.length → Pv i σ H → H d = some (.frz o (.dK kvs)))
    (turn : ∀ (i : Nat) (k : Key) (v : V) (σ : St) (H : Hp), kvs[i]? = some (k, v) → Pv i σ H → g (kV k) σ H fun σ2 H2 => tb { nx := Pv (i + 1), rt := D.rt, bk := D.nx, ct := Pv (i + 1) } σ2 H2)
    (done : ∀ (σ : St) (H : Hp), Pv kvs.length σ H → D.nx σ H) :
    ∃ W : Nat → Nat → St → Hp → Prop, (∃ m, W 0 m σ H) ∧ ∀ i m σ H, W i m σ H →
      ((Itd d o kvs).stop i H ∧ D.nx σ H) ∨ ((Itd d o kvs).go i H ∧ ∃ N : St → Hp → Prop, (∀ σ' H', N σ' H' → ∃ m', m' < m ∧ W (i + 1) m' σ' H') ∧ ∀ x H', (Itd d o kvs).yld i H x H' → g x σ H' fun σ2 H2 => tb { D with nx := N, ct := N, bk := D.nx } σ2 H2) := by
  refine ⟨fun i m σ H => m = kvs.length - i ∧ i ≤ kvs.length ∧ Pv i σ H, ⟨_, rfl, Nat.zero_le _, h0⟩, ?_⟩
  rintro i m σ H ⟨rfl, hi, hp⟩
  by_cases hlt : i < kvs.length
  · refine .inr ⟨⟨hl i σ H hi hp, hlt⟩, Pv (i + 1), fun σ' H' hn => ⟨kvs.length - (i + 1), by omega, rfl, hlt, hn⟩, ?_⟩
    rintro x H' ⟨rfl, k, v, e, rfl⟩
    exact turn i k v σ _ e hp
  · have e : i = kvs.length := by omega
    subst e
    exact .inl ⟨⟨hl _ σ H hi hp, Nat.le_refl _⟩, done σ H hp⟩
/-- what is asked of a frozen dict -/
theorem DGet.kf {H : Hp} {a : Addr} {o : Obj} {kvs : List (Key × V)} {k : Key} (e : H a = some (.frz o (.dK kvs))) : DGet H a (kV k) (valV kvs k) := .inl ⟨kvs, k, .inr ⟨o, e⟩, rfl, rfl⟩
end L2

/-! ### dicts: walked and let go again, emptied; comprehensions that change what stands -/
namespace L2
open PySem PySem.Spec PyProof.Rows
/-- a frozen dict is let go -/
theorem Inv.thaw {X : Cx} {pins : List (Addr × Obj)} {σ : St} {H : Hp} {s : Shared} {d : Addr} {o : Obj} {kvs : List (Key × V)} (I : Inv X pins σ H s) (h : H d = some (.frz o (.dK kvs))) (nf : ∀ o u, X.H₀ d ≠ some (.frz o u)) : Inv X pins σ (upd H d (.dK kvs)) s := by
  have nd : ∀ b, H b = none → upd H d (.dK kvs) b = none := fun b hb => by
    rw [upd_ne (fun z => by rw [z, h] at hb; cases hb)]; exact hb
  refine ⟨I.ok, I.os, I.bare, ⟨I.base.keep, I.base.slot, fun b ob e1 e2 e3 => nd b (I.base.free b ob e1 e2 e3), I.base.there, fun b xs e => ?_, fun b o2 u e => ?_, fun b ps e => ?_⟩, I.loc, I.cell, nd _ I.free, fun x c e => nd c (I.freeC x c e), fun p hp => ?_, fun b u e => ?_, I.len⟩
  · have := I.base.tups b xs e
    rw [upd_ne (ne_of this h (by intro z; cases z))]; exact this
  · have := I.base.frzs b o2 u e
    rw [upd_ne (fun z => nf o2 u (by rw [← z]; exact e))]; exact this
  · obtain ⟨more, q⟩ := I.base.tbls b ps e
    exact ⟨more, by rw [upd_ne (ne_of q h (by intro z; cases z))]; exact q⟩
  · obtain ⟨p1, p2, p3⟩ := I.pin p hp
    exact ⟨p1, nd _ p2, p3⟩
  · by_cases hb : b = d
    · subst hb
      rw [upd_same] at e
      cases e
      obtain ⟨_, q⟩ := I.hok b _ h
      exact ObjOk.stay (o := .dK kvs) q (fun c v _ r => r) (fun c r => by rw [upd_ne (ne_of r h (by intro z; cases z))]; exact r) fun c xs r => by rw [upd_ne (ne_of r h (by intro z; cases z))]; exact r
    · rw [upd_ne hb] at e
      exact (I.hok b u e).stay (fun c v _ r => r) (fun c r => by rw [upd_ne (ne_of r h (by intro z; cases z))]; exact r) fun c xs r => by rw [upd_ne (ne_of r h (by intro z; cases z))]; exact r
section
variable {X : Cx}
/-- what is wanted behind a walk, the dict let go -/
def thawD (X : Cx) (D : Ends) : Ends where
  nx := fun σ H => ∃ d o kvs, (∀ o u, X.H₀ d ≠ some (.frz o u)) ∧ H d = some (.frz o (.dK kvs)) ∧ D.nx σ (upd H d (.dK kvs))
  rt := fun v H => ∃ d o kvs, (∀ o u, X.H₀ d ≠ some (.frz o u)) ∧ H d = some (.frz o (.dK kvs)) ∧ D.rt v (upd H d (.dK kvs))
def tForD (X : Cx) (tl : TE) (g : TG) (tb : TS) : TS := fun D σ H => tl σ H fun x H1 => ∃ d kvs, x = .ref d ∧ H1 d = some (.dK kvs) ∧ ∀ o, ∃ W : Nat → Nat → St → Hp → Prop, (∃ m, W 0 m σ (upd H1 d (.frz o (.dK kvs)))) ∧ ∀ i m σ H, W i m σ H →
  ((Itd d o kvs).stop i H ∧ (thawD X D).nx σ H) ∨ ((Itd d o kvs).go i H ∧ ∃ N : St → Hp → Prop, (∀ σ' H', N σ' H' → ∃ m', m' < m ∧ W (i + 1) m' σ' H') ∧ ∀ x H', (Itd d o kvs).yld i H x H' → g x σ H' fun σ2 H2 => tb { thawD X D with nx := N, ct := N, bk := (thawD X D).nx } σ2 H2)
theorem ps_forD {tg l : Expr} {body : List Stmt} {tl : TE} {g : TG} {tb : TS} {pos : Pos} (hp : PassesOwn (model X.prog X.w) X.A X.env X.xe) (hc : X.calm = true) (hl : PE X l tl) (hg : PG X tg g) (hb : PSs X body tb)
    (hs : ∀ x, foldedSetIterable l X.env x = pure x := by intro _; rfl) : PS X (.For tg l body [] pos) (tForD X tl g tb) := by
  intro pins s σ H D I h
  refine thn (ps_for (pos := pos) hp hc (pi_dict hl) hg hb hs pins s σ H (thawD X D) I h) fun f s' q => ?_
  cases f with
  | next =>
    obtain ⟨σ', H', I', d, o, kvs, nf, hd, q⟩ := q
    exact ⟨σ', _, I'.thaw hd nf, q⟩
  | brk => obtain ⟨σ', H', I', q⟩ := q; exact False.elim q
  | cont => obtain ⟨σ', H', I', q⟩ := q; exact False.elim q
  | ret v =>
    obtain ⟨x, σ', H', I', r, d, o, kvs, nf, hd, q⟩ := q
    exact ⟨x, σ', _, I'.thaw hd nf, r, q⟩
/-- for k in dict, which is let go behind it -/
theorem for_dictT {d : Addr} {o : Obj} {kvs : List (Key × V)} {g : TG} {tb : TS} {D : Ends} {σ : St} {H : Hp} (nf : ∀ o u, X.H₀ d ≠ some (.frz o u)) (Pv : Nat → St → Hp → Prop) (h0 : Pv 0 σ H) (hl : ∀ (i : Nat) (σ : St) (H : Hp), i ≤ kvs.length → Pv i σ H → H d = some (.frz o (.dK kvs)))
    (turn : ∀ (i : Nat) (k : Key) (v : V) (σ : St) (H : Hp), kvs[i]? = some (k, v) → Pv i σ H → g (kV k) σ H fun σ2 H2 => tb { nx := Pv (i + 1), rt := (thawD X D).rt, bk := (thawD X D).nx, ct := Pv (i + 1) } σ2 H2)
    (done : ∀ (σ : St) (H : Hp), Pv kvs.length σ H → D.nx σ (upd H d (.dK kvs))) :
    ∃ W : Nat → Nat → St → Hp → Prop, (∃ m, W 0 m σ H) ∧ ∀ i m σ H, W i m σ H →
      ((Itd d o kvs).stop i H ∧ (thawD X D).nx σ H) ∨ ((Itd d o kvs).go i H ∧ ∃ N : St → Hp → Prop, (∀ σ' H', N σ' H' → ∃ m', m' < m ∧ W (i + 1) m' σ' H') ∧ ∀ x H', (Itd d o kvs).yld i H x H' → g x σ H' fun σ2 H2 => tb { thawD X D with nx := N, ct := N, bk := (thawD X D).nx } σ2 H2) :=
  for_dict (D := thawD X D) Pv h0 hl turn fun σ H p => ⟨d, o, kvs, nf, hl _ σ H (Nat.le_refl _) p, done σ H p⟩
/-- d.clear() -/
structure M0 (X : Cx) (o : Expr) (m : Str) (apos cpos : Pos) : Prop where
  base : attributeBase o m X.env (eval o X.env) = eval o X.env
  few : ((backTo cpos (starEach [] X.env)).all (fun x => !x.1) && (backToKw cpos (keywordEach [] X.env)).all (fun x => x.1.isSome)
    && decide (([] : List Expr).length + ([] : List Keyword).length + (if ([] : List Keyword).isEmpty then 0 else 1) < 30)) = true
  line : (apos.endLine == cpos.line) = true
  trees : backTo cpos (starEach [] X.env) = []
def tDClear (td : TE) : TE := fun σ H Q => td σ H fun x H1 => ∃ a kvs, x = .ref a ∧ H1 a = some (.dK kvs) ∧ Q .non (upd H1 a (.dK []))
theorem pe_dclear {o : Expr} {td : TE} {apos cpos : Pos} (ho : PE X o td) (m : M0 X o "clear" apos cpos) : PE X (.Call (.Attribute o "clear" apos) [] [] cpos) (tDClear td) := by
  intro pins s σ H Q I h
  refine wpAny_Call_method m.base m.few m.line PySem.F.plainAttrs_dict PySem.F.slot_dict_clear PySem.F.type_dict_clear (thn (ho pins s σ H _ I h) fun u s1 ⟨x, H1, I1, rx, a, kvs, ex, ea, q1⟩ => ?_)
  subst ex
  obtain rfl : u = Value.ref a := rx
  obtain ⟨t1, t2, _⟩ := isD_at I1 (.inl ⟨kvs, .inl ea⟩)
  refine ⟨t1, t2, ?_⟩
  rw [m.trees]
  exact Calls.callWith_builtin rfl (PySem.evalArgs_none (d_clear I1 ea fun s3 I3 => ⟨.non, _, I3, rfl, q1⟩))
end
/-- a statement with two ways out into the same rest -/
theorem seq_mid {t u : TS} {D : Ends} {σ : St} {H : Hp} (M : St → Hp → Prop) (h1 : ∀ N : St → Hp → Prop, (∀ σ' H', M σ' H' → N σ' H') → t { D with nx := N } σ H) (h2 : ∀ σ' H', M σ' H' → u D σ' H') : tSeq t u D σ H := h1 (u D) h2
/-- [e for x in ..], where e changes what stands -/
theorem comp_st {J : It} {xs : List V} {fr : List (Option Nat)} {k : Nat} {te : TE} {Q : VK} {σ : St} {H : Hp} (I : Nat → List V → Addr → Hp → Prop) (hn : xs.length ≤ 1000000)
    (hJ : ∀ i ys l H', I i ys l H' → (i < xs.length → J.go i H') ∧ (∀ x H'', J.yld i H' x H'' → H'' = H' ∧ (i < xs.length → xs[i]? = some x)) ∧ (xs.length ≤ i → J.stop i H'))
    (h0 : ∀ l, H l = none → I 0 [] l (upd H l (.lst [])))
    (step : ∀ (i : Nat) (x : V) (ys : List V) (l : Addr) (H' : Hp) (R : VK), xs[i]? = some x → H l = none → H' l = some (.lst ys) → ys.length = i → I i ys l H' → (∀ y H'', H'' l = some (.lst ys) → I (i + 1) (ys ++ [y]) l (upd H'' l (.lst (ys ++ [y]))) → R y H'') → te ((stC fr σ).set k (some x)) H' R)
    (hQ : ∀ l H' (ys : List V), H l = none → H' l = some (.lst ys) → ys.length = xs.length → I xs.length ys l H' → Q (.ref l) H') : tCompK fr (gName k) tYes te σ Q J H := by
  intro l hl
  refine ⟨fun i m σ' H' => m = xs.length - i ∧ i ≤ xs.length ∧ (∀ y, σ'.set k y = (stC fr σ).set k y) ∧ ∃ ys : List V, H' l = some (.lst ys) ∧ ys.length = i ∧ I i ys l H', ⟨xs.length, by simp, Nat.zero_le _, fun _ => rfl, [], upd_same, rfl, h0 l hl⟩, ?_⟩
  rintro i m σ' H' ⟨rfl, hi, hσ, ys, hl', hlen, hI⟩
  obtain ⟨h1, h2, h3⟩ := hJ i ys l H' hI
  by_cases hlt : i < xs.length
  · refine .inr ⟨h1 hlt, fun x H'' y => ?_⟩
    obtain ⟨rfl, hx⟩ := h2 x H'' y
    have hx := hx hlt
    show te (σ'.set k (some x)) H'' _
    rw [hσ]
    refine step i x ys l H'' _ hx hl hl' hlen hI fun y H4 hl4 hI4 => ?_
    exact ⟨ys, hl4, smallLt (by omega), xs.length - (i + 1), by omega, rfl, hlt, fun y => by rw [List.set_set], ys ++ [y], upd_same, by rw [List.length_append, hlen]; rfl, hI4⟩
  · have e : i = xs.length := by omega
    subst e
    exact .inl ⟨h3 (Nat.le_refl _), hQ l H' ys hl hl' hlen hI⟩
theorem itr_go {lo : Int} {n i : Nat} {H : Hp} : (i < ((List.range n).map fun (i : Nat) => V.int (lo + (i : Int))).length → (Itr lo n).go i H) ∧ (∀ x H'', (Itr lo n).yld i H x H'' → H'' = H ∧ (i < ((List.range n).map fun (i : Nat) => V.int (lo + (i : Int))).length → ((List.range n).map fun (i : Nat) => V.int (lo + (i : Int)))[i]? = some x)) ∧ (((List.range n).map fun (i : Nat) => V.int (lo + (i : Int))).length ≤ i → (Itr lo n).stop i H) := by
  rw [List.length_map, List.length_range]
  refine ⟨fun h => h, fun x H'' y => ⟨y.1, fun h => ?_⟩, fun h => h⟩
  rw [List.getElem?_map, List.getElem?_range h, y.2]; rfl
end L2

/-! ### zip of two tuples of one length, walked by a pair of names -/
namespace L2
open PySem PySem.Spec PyProof.Rows
section
variable {prog : Program} {w : World} {A : Around} {E : Value → Shared → Prop} {s : Shared} {it t : Addr} {i : Nat} {its : Array Value} {Q : Value → Shared → Prop}
/-- a tuple's iterator is asked: an item, or the end -/
theorem tupIt_ask (a : s.heap.IsTupleIter it t i) (b : s.heap.IsTuple t its) (more : ∀ x, its[i]? = some x → ∀ h', h'.IsTupleIter it t (i + 1) → Heap.SameBut it s.heap h' → Q x { s with heap := h' })
    (over : its[i]? = none → A.handled = none ∧ ∀ h' e, Heap.ExtBut it s.heap h' → (∃ o, h'.get? e = some o ∧ o.cls = .type "StopIteration") → E (.ref e) { s with heap := h' }) : wpAny (model prog w) A (Builtin.SmallTypes.nextOf (.ref it)) Q E s := by
  have T := a.typeIs
  obtain ⟨o, o1, o2, o3⟩ := id a
  obtain ⟨u, u1, _, n, u2⟩ := b
  have two : ∀ g, (Obj.mapFields g o).isFreed = false := fun g => Obj.isFreed_of_fields (Obj.data_mapFields o3 g)
  unfold Builtin.SmallTypes.nextOf
  refine wpAny_bind (wpAny_callSpecial?_slot T F.slot_tuple_iterator_next (wpAny_call_entry F.slot_tuple_iterator_next T F.entry_tuple_iterator_next ?_ (F.args_tuple_iterator_next_1 _)))
  wp_walk using (wpAny_field (s := s) o1 o3 (x := .ref t) rfl), (wpAny_field (s := s) o1 o3 (x := .int i 0) rfl), (wpAny_seqItems (s := s) u1 u2)
  rw [Int.toNat_natCast]
  cases c : its[i]? with
  | some x =>
    refine wpAny_bind (wpAny_setField o1 o3 (by simp) ?_)
    refine wpAny_pure ⟨x, rfl, wpAny_pure (more x c _ ⟨_, Heap.get?_update_self _ o1 (two _), ?_, ?_⟩ (Heap.SameBut.update ..))⟩
    · rw [Obj.cls_mapFields, o2]
    · rw [Obj.data_mapFields o3]; simp [rawInt]
  | none =>
    obtain ⟨hh, q⟩ := over c
    have h1 : A.in1.handled = none := hh
    refine wpAny_bind (wpAny_rule (wpAny_bind (wpAny_setField o1 o3 (by simp) ?_)))
    unfold Builtin.SmallTypes.stopIteration
    wp_walk
    unfold raiseNew
    refine wpAny_bind (wpAny_handled ?_)
    rw [h1]
    exact wpAny_bind (wpAny_pure (wpAny_throw (q _ _ (((Heap.SameBut.update ..).extBut.push _).push _) ⟨_, Heap.get?_push_size _ rfl, rfl⟩)))
end
/-- what a tuple's iterator gives -/
theorem draws_tup {prog : Program} {w : World} {A : Around} (hh : A.handled = none) (it t : Addr) (hne : t ≠ it) (items : Array Value) :
    Draws prog w A it [it, t] items.size (fun i v => items[i]? = some v) (fun i h => h.IsTupleIter it t i ∧ h.IsTuple t items) where
  live := fun i h ⟨⟨o, e, _⟩, _⟩ => ⟨o, e⟩
  frame := fun i h h' ⟨⟨o, e, c⟩, ⟨o2, e2, c2⟩⟩ k => ⟨⟨o, k it (by simp) o e, c⟩, ⟨o2, k t (by simp) o2 e2, c2⟩⟩
  item := fun i s Q E hi ⟨a, b⟩ hQ => tupIt_ask a b (fun x c h' a' sb => hQ x h' s.toks c ⟨a', b.extBut sb.extBut hne⟩ sb) fun c => by rw [Array.getElem?_eq_getElem hi] at c; cases c
  done := fun s Q E ⟨a, b⟩ hE => tupIt_ask a b (fun x c => by simp at c) fun _ => ⟨hh, fun h' e eb he => hE h' e eb he⟩
end L2

namespace L2
open PySem PySem.Spec PyProof.Rows
/-- x is not a truth -/
def rIsNotB : R2 := fun x y H Q => ∃ a b, x = .bl a ∧ y = .bl b ∧ Q (.bl (a != b)) H
theorem op_isNot_bl {X : Cx} : OpR X (compareOp .IsNot) rIsNotB := by
  intro pins s σ H x y v u Q I rx ry h
  obtain ⟨a, b, rfl, rfl, q⟩ := h
  cases rx
  cases ry
  exact isnot_bool ⟨.bl _, H, I, rfl, q⟩
end L2

namespace L2
/-! ### sorted(..) of what is walked: of a dict, of a set of texts -/
section
open PySem PySem.Calls PyProof.Rows
variable {prog : Program} {w : World} {A : Around} {E : Value → Shared → Prop} {s : Shared}
theorem none_end (h : Heap) : h.get? h.objs.size = none := by
  cases e : h.get? h.objs.size with
  | none => rfl
  | some o => exact absurd (Heap.lt_size e) (Nat.lt_irrefl _)
/-- what comes of sorted(x), once x was walked and gave the texts vs -/
def SortsTo (Q : Value → Shared → Prop) (vs : List Value) (s1 : Shared) : Prop := ∃ ss, StrsAre vs ss ∧ vs.length < 64 ∧
  ∀ h' p (out : List Value) ss' c, StrsAre out ss' → ss'.Perm ss → sortedS ss' = true → s1.heap.objs.size ≤ p → (∀ b o, s1.heap.get? b = some o → h'.get? b = some o) →
    h'.get? p = some (seqObj "list" out.toArray c) → Q (.ref p) { s1 with heap := h' }
theorem sorted_walked {x : Value} {Q : Value → Shared → Prop} (hc : wpAny (model prog w) A.in1 (collect x) (SortsTo Q) E s) : wpAny (model prog w) A (call (.builtin "sorted") [x]) Q E s := by
  refine Calls.call_function_entry kind_sorted plain_sorted entry_sorted (args_sorted1 x) ?_
  unfold Builtin.«sorted»
  refine wpAny_bind (m := checkCount "sorted" 1 1 _) (wpAny_pure (wpAny_bind (wpAny_mono hc (fun vs s1 z => ?_) fun _ _ e => e)))
  obtain ⟨ss, hS, few, q⟩ := z
  refine wpAny_bind (wpAny_newList ?_)
  have there : (s1.heap.push (seqObj "list" vs.toArray 0)).get? s1.heap.objs.size = some (seqObj "list" vs.toArray 0) := Heap.get?_push_size _ rfl
  refine wpAny_bind (wpAny_holding (wpAny_call_entry slot_list_sort ⟨_, there, rfl⟩ entry_list_sort (list_sort_treeK strKind_oneLt there hS.keysOf (fun v₁ v₂ rest e => keyKind_strs (by rw [← e]; exact hS)) few fun st' pm so => ⟨_, rfl, ?_⟩) (args_list_sort _)))
  obtain ⟨ss', y1, y2, y3⟩ := sorted_out_str hS pm so
  obtain ⟨c, hp⟩ := sortedHeap_at (out := (arrOf st').map (·.2)) there
  refine wpAny_pure ⟨_, rfl, q _ _ ((arrOf st').map (·.2)).toList ss' c y1 y2 y3 (Nat.le_refl _) (fun b o e => ?_) (by rw [Array.toArray_toList]; exact hp)⟩
  have lt := Heap.lt_size e
  show Heap.get? _ b = some o
  rw [sortedHeap_old (Nat.ne_of_lt lt) (by rw [Heap.size_push]; exact Nat.lt_succ_of_lt lt)]
  exact Heap.get?_push_of_some _ e
/-- the list S took it all in -/
def Took (S : Addr) (Q : List Value → Shared → Prop) (r : Result) (s' : Shared) : Prop := ∃ acc c, r = .ok (.ret (.ref S)) ∧ s'.heap.get? S = some { cls := .type "list", dict := none, data := .seq acc c, slots := #[] } ∧ Q acc.toList s'
/-- collect(x), once the list that takes it all in was made -/
theorem collect_ext {x : Value} {Q : List Value → Shared → Prop} (h : wpAny (model prog w) A.in1 (Builtin.List.listExtendWith (.ref s.heap.objs.size) x (.ref s.heap.objs.size))
      (fun fin s' => match fin with | .done f => Took s.heap.objs.size Q (.ok f) s' | .again c' => c'.quiet = true ∧ codeAny (model prog w) A c' (Took s.heap.objs.size Q) s') (fun e s' => Took s.heap.objs.size Q (.error e) s')
      { s with heap := s.heap.push { cls := .type "list", data := .seq #[] } }) : wpAny (model prog w) A (collect x) Q E s := by
  unfold collect
  refine wpAny_bind (wpAny_runValue (codeAny_builtin PySem.F.entry_proto_collect ?_))
  rw [Around.under_plainId PySem.F.plain_proto_collect _]
  refine wpAny_bind (wpAny_newObj_type (wpAny_pure ⟨plainId_quiet PySem.F.plain_list_iadd _, codeAny_builtin PySem.F.entry_list_iadd ?_⟩))
  rw [Around.under_plainId PySem.F.plain_list_iadd _]
  refine wpAny_mono h (fun fin s' z => ?_) (fun e s' z => ?_)
  · cases fin with
    | done f =>
      obtain ⟨acc, c, e, hS, q⟩ := z
      cases e
      exact wpAny_bind (wpAny_load hS (wpAny_pure q))
    | again c' =>
      refine ⟨z.1, codeAny_mono z.2 fun r s2 z2 => ?_⟩
      obtain ⟨acc, c, rfl, hS, q⟩ := z2
      exact wpAny_bind (wpAny_load hS (wpAny_pure q))
  · obtain ⟨acc, c, e, _⟩ := z
    cases e
/-- the walk of a dict's keys and the like -/
theorem collect_src {T : String} {r d : Addr} {n : Nat} {P : Nat → Value → Prop} {OK : Heap → Prop} {Q : List Value → Shared → Prop} (S : PySem.W.KdlSrc prog w T r d n P OK) (hh : A.handled = none) (ok : OK s.heap) (hn : n ≤ sizeLine)
    (q : ∀ h' tk (vs : List Value), (∀ b o, s.heap.get? b = some o → h'.get? b = some o) → vs.length = n → (∀ j v, vs[j]? = some v → P j v) → Q vs { s with heap := h', toks := tk }) : wpAny (model prog w) A (collect (.ref r)) Q E s := by
  obtain ⟨lr, ld⟩ := S.there _ ok
  refine collect_ext (PySem.W.kdl_extend S hh (S.keep _ _ ok fun b _ o e => Heap.get?_push_of_some _ e) s.heap.objs.size (Nat.ne_of_gt lr) (Nat.ne_of_gt ld) (.ref s.heap.objs.size) 0 (Heap.get?_push_size _ rfl) (fun h' tk acc c k hS it => ?_) hn)
  refine ⟨acc, c, rfl, hS, q h' tk acc.toList (fun b o e => k b o (Nat.ne_of_lt (Heap.lt_size e)) (Heap.get?_push_of_some _ e)) (by rw [Array.length_toList]; exact it.1) fun j v e => it.2 j v (by rw [← Array.getElem?_toList]; exact e)⟩
/-! the walk of a set -/
theorem sit_owner : Manifest.owners.lookup (String.ofList "rotareti_tes".toList.reverse) = some Manifest.sig_set_iterator := by kernel_rfl
theorem sit_slot : Slot "set_iterator" "__next__" "set_iterator.__next__" :=
  .of (owner := "set_iterator") (n := "__next__") (by rw [typeLookup_type, builtinLookup_eq_fast]; kernel_rfl) (by decide +kernel) (by decide +kernel) (by decide +kernel) (by first | exact .inl (by decide +kernel) | exact .inr (by decide +kernel)) (by rw [isSubtype_type]; kernel_rfl)
theorem sit_entry : entryFor table "set_iterator.__next__" = some Builtin.«set_iterator.__next__» := entryFor_of_fast (by kernel_rfl)
theorem sit_args (a : Value) : argsOk "set_iterator.__next__" ⟨[a], []⟩ := by
  unfold argsOk
  rw [signature?_of (id := "set_iterator.__next__") (n := "__txen__".toList) (o := "rotareti_tes".toList) (by kernel_rfl) sit_owner]
  kernel_rfl
theorem set_iter_entry : entryFor table "set.__iter__" = some Builtin.«frozenset.__iter__» := entryFor_alias (id' := "frozenset.__iter__") (by kernel_rfl) rfl (by decide +kernel) (by kernel_rfl)
/-- a walk gives one more -/
theorem next_gives {it : Addr} {T id : String} {B : Builtin} {Q : Option Value → Shared → Prop} (slot : Slot T "__next__" id) (hT : s.TypeIs (.ref it) T) (entry : entryFor table id = some B) (args : argsOk id ⟨[.ref it], []⟩)
    (h : wpAny (model prog w) A.in1 (B ⟨[.ref it], []⟩) (fun fin s' => ∃ v, fin = .done (.ret v) ∧ Q (some v) s') (fun _ _ => False) s) : wpAny (model prog w) A (pyNext (.ref it)) Q E s := by
  unfold pyNext
  refine wpAny_bind (wpAny_attempt (wpAny_callSpecial?_slot (name := Str.ofString "__next__") hT slot (wpAny_call_entry slot hT entry (wpAny_mono h (fun fin s' z => ?_) fun _ _ z => z.elim) args)))
  obtain ⟨v, rfl, q⟩ := z
  exact ⟨v, rfl, wpAny_pure q⟩
/-- a walk comes to its end -/
theorem next_stops {it : Addr} {T id : String} {B : Builtin} {Q : Option Value → Shared → Prop} (slot : Slot T "__next__" id) (hT : s.TypeIs (.ref it) T) (entry : entryFor table id = some B) (args : argsOk id ⟨[.ref it], []⟩)
    (h : wpAny (model prog w) A.in1 (B ⟨[.ref it], []⟩) (fun _ _ => False) (fun x s' => ∃ a o, x = .ref a ∧ s'.heap.get? a = some o ∧ o.cls = .type "StopIteration" ∧ Q none s') s) : wpAny (model prog w) A (pyNext (.ref it)) Q E s := by
  unfold pyNext
  refine wpAny_bind (wpAny_attempt (wpAny_callSpecial?_slot (name := Str.ofString "__next__") hT slot (wpAny_call_entry slot hT entry (wpAny_mono h (fun _ _ z => z.elim) fun x s' z => ?_) args)))
  obtain ⟨a, o, rfl, e, c, q⟩ := z
  exact wpAny_bind (wpAny_isInstance (T := "StopIteration") (b := true) ⟨o, e, c⟩ isSubtype_stop (wpAny_pure q))
/-- a walk comes to its end, nothing being handled -/
theorem stop_calm {α : Type} {Q : α → Shared → Prop} (hh : A.handled = none)
    (q : ∀ h' x, (∀ b o, s.heap.get? b = some o → h'.get? b = some o) → (∃ o, h'.get? x = some o ∧ o.cls = .type "StopIteration") → E (.ref x) { s with heap := h' }) :
    wpAny (model prog w) A (newExc (.type "StopIteration") [] >>= raiseNew : Sem α) Q E s := by
  refine wpAny_bind ?_
  simp only [newExc, newTuple]
  refine wpAny_bind (wpAny_newObj_type ?_ (by size_fits))
  refine wpAny_bind (m := firstArgMember _ _) (wpAny_of_eq (a := Value.none) (by simp only [firstArgMember]; rfl) (wpAny_newObj_type ?_ (by size_fits)))
  unfold raiseNew
  refine wpAny_bind (wpAny_handled ?_)
  rw [hh]
  exact wpAny_throw (q _ _ (fun b o z => Heap.get?_push_of_some _ (Heap.get?_push_of_some _ z)) ⟨_, Heap.get?_push_size _ rfl, rfl⟩)
theorem sit_slot_iter : Slot "set_iterator" "__iter__" "set_iterator.__iter__" :=
  .of (owner := "set_iterator") (n := "__iter__") (by rw [typeLookup_type, builtinLookup_eq_fast]; kernel_rfl) (by decide +kernel) (by decide +kernel) (by decide +kernel) (by first | exact .inl (by decide +kernel) | exact .inr (by decide +kernel)) (by rw [isSubtype_type]; kernel_rfl)
theorem sit_entry_iter : entryFor table "set_iterator.__iter__" = some Builtin.«dict_keyiterator.__iter__» := entryFor_alias (id' := "dict_keyiterator.__iter__") (by kernel_rfl) rfl (by decide +kernel) (by kernel_rfl)
theorem sit_args_iter (a : Value) : argsOk "set_iterator.__iter__" ⟨[a], []⟩ := by
  unfold argsOk
  rw [signature?_of (id := "set_iterator.__iter__") (n := "__reti__".toList) (o := "rotareti_tes".toList) (by kernel_rfl) sit_owner]
  kernel_rfl
def SetAt (h : Heap) (a : Addr) (es : Array (Int × Value)) (ep : Nat) (t : SetTable) : Prop := ∃ o, h.get? a = some o ∧ o.cls = .type "set" ∧ o.data = .set es ep t
def SetIt (h : Heap) (it a : Addr) (first : Value) (i n ep : Nat) : Prop := ∃ o, h.get? it = some o ∧ o.cls = .type "set_iterator" ∧ o.data = .fields #[first, rawInt i, .ref a, rawInt n, rawInt ep]
theorem SetAt.keep {h h' : Heap} {a : Addr} {es : Array (Int × Value)} {ep : Nat} {t : SetTable} (x : SetAt h a es ep t) (k : ∀ o, h.get? a = some o → h'.get? a = some o) : SetAt h' a es ep t := let ⟨o, e, r⟩ := x; ⟨o, k o e, r⟩
theorem SetIt.keep {h h' : Heap} {it a : Addr} {f : Value} {i n ep : Nat} (x : SetIt h it a f i n ep) (k : ∀ o, h.get? it = some o → h'.get? it = some o) : SetIt h' it a f i n ep := let ⟨o, e, r⟩ := x; ⟨o, k o e, r⟩
theorem SetIt.typeIs {it a : Addr} {f : Value} {i n ep : Nat} (x : SetIt s.heap it a f i n ep) : s.TypeIs (.ref it) "set_iterator" := let ⟨o, e, c, _⟩ := x; ⟨o, e, c⟩
theorem SetIt.self {it a : Addr} {f : Value} {i n ep : Nat} {Q : Value → Shared → Prop} (x : SetIt s.heap it a f i n ep) (q : Q (.ref it) s) : wpAny (model prog w) A (pyIter (.ref it)) Q E s := by
  refine wpAny_pyIter_slot x.typeIs sit_slot_iter (wpAny_call_entry sit_slot_iter x.typeIs sit_entry_iter ?_ (sit_args_iter _))
  exact wpAny_pure ⟨_, rfl, "set_iterator", _, x.typeIs, sit_slot.lookup, q⟩
theorem set_entries {a : Addr} {es : Array (Int × Value)} {ep : Nat} {t : SetTable} {Q : Array (Int × Value) → Shared → Prop} (x : SetAt s.heap a es ep t) (f : t.fits es.size = true) (q : Q es s) : wpAny (model prog w) A (setEntries a) Q E s :=
  let ⟨_, e, _, d⟩ := x; wpAny_setEntries_of e d f q
end
end L2

namespace L2
/-! ### the walk of a set of texts -/
section
open PySem PySem.Calls PyProof.Rows
variable {prog : Program} {w : World} {A : Around} {E : Value → Shared → Prop} {s : Shared}
theorem set_field {it : Addr} {vs : Array Value} {k : Nat} {x : Value} {Q : Unit → Shared → Prop} {o : Obj} (ho : s.heap.get? it = some o) (hc : o.cls = .type "set_iterator") (hd : o.data = .fields vs) (hk : k < vs.size)
    (q : ∀ h' o', h'.get? it = some o' → o'.cls = .type "set_iterator" → o'.data = .fields (vs.setIfInBounds k x) → (∀ b o, b ∉ [it] → s.heap.get? b = some o → h'.get? b = some o) → Q () { s with heap := h' }) : wpAny (model prog w) A (setField (.ref it) k x) Q E s :=
  wpAny_setField ho hd hk (q _ _ (Heap.get?_update_self _ ho (Obj.isFreed_of_fields (Obj.data_mapFields hd _))) ((Obj.cls_mapFields ..).trans hc) (Obj.data_mapFields hd _) fun b o hb e => (Heap.get?_update_other _ _ (fun z => hb (by simp [z]))).trans e)
theorem walk_slot (hh : A.handled = none) (I a : Addr) (hne : a ≠ I) (xs : List Value) (sl : Nat → Nat) (es : Array (Int × Value)) (ep : Nat) (t : SetTable) (f : t.fits es.size = true) (hn : es.size = xs.length)
    (nx : ∀ (i : Nat) (A : Around) (E : Value → Shared → Prop) (s : Shared) (Q : Option (Value × Nat) → Shared → Prop), i ≤ xs.length → SetAt s.heap a es ep t → Q (xs[i]?.map fun v => (v, sl (i + 1))) s → wpAny (model prog w) A (setNext a (sl i) i ep) Q E s) :
    Walks prog w A I [I, a] [I] xs.length (fun i v => xs[i]? = some v) (fun i h => SetIt h I a (rawInt (sl i)) i xs.length ep ∧ SetAt h a es ep t) where
  sub := fun b z => by simp at z; simp [z]
  frame := fun _ _ _ st k => ⟨st.1.keep fun o e => k I (by simp) o e, st.2.keep fun o e => k a (by simp) o e⟩
  self := fun _ _ _ _ st q => st.1.self q
  item := fun i s Q E hi st qq => by
    refine next_gives sit_slot st.1.typeIs sit_entry (sit_args _) ?_
    obtain ⟨o, ho, hc, hd⟩ := st.1
    unfold Builtin.«set_iterator.__next__»
    refine wpAny_bind (wpAny_pure ?_)
    dsimp only
    refine wpAny_bind (wpAny_fieldsOf ho hd ?_)
    refine wpAny_bind (m := setEntries a) (set_entries st.2 f ?_)
    rw [if_neg (by rw [hn]; simp)]
    refine wpAny_bind (m := setNext a (sl i) i ep) (nx i _ _ _ _ (Nat.le_of_lt hi) st.2 ?_)
    obtain ⟨v, hv⟩ : ∃ v, xs[i]? = some v := ⟨xs[i], by simp [hi]⟩
    rw [hv]
    dsimp only [Option.map]
    refine wpAny_bind (set_field ho hc hd (by simp) fun h1 o1 e1 c1 d1 k1 => ?_)
    refine wpAny_bind (set_field e1 c1 d1 (by simp) fun h2 o2 e2 c2 d2 k2 => ?_)
    exact wpAny_pure ⟨v, rfl, qq v h2 s.toks hv ⟨⟨o2, e2, c2, d2⟩, st.2.keep fun o e => k2 a o (by simp [hne]) (k1 a o (by simp [hne]) e)⟩ fun b o hb e => k2 b o hb (k1 b o hb e)⟩
  done := fun s Q E st hQ => by
    refine next_stops sit_slot st.1.typeIs sit_entry (sit_args _) ?_
    obtain ⟨o, ho, hc, hd⟩ := st.1
    unfold Builtin.«set_iterator.__next__»
    refine wpAny_bind (wpAny_pure ?_)
    dsimp only
    refine wpAny_bind (wpAny_fieldsOf ho hd ?_)
    refine wpAny_bind (m := setEntries a) (set_entries st.2 f ?_)
    rw [if_neg (by rw [hn]; simp)]
    refine wpAny_bind (m := setNext a (sl xs.length) xs.length ep) (nx xs.length _ _ _ _ (Nat.le_refl _) st.2 ?_)
    rw [List.getElem?_eq_none (Nat.le_refl _)]
    dsimp only [Option.map]
    refine wpAny_bind (set_field ho hc hd (by simp) fun h1 o1 e1 c1 d1 k1 => ?_)
    refine stop_calm hh fun h2 x k2 ⟨ox, ex, cx⟩ => ⟨x, ox, rfl, ex, cx, hQ h2 s.toks fun b o hb e => k2 b o (k1 b o hb e)⟩
def TupAt (h : Heap) (tp : Addr) (vs : List Value) : Prop := ∃ o n, h.get? tp = some o ∧ o.data = .seq vs.toArray n
theorem TupAt.keep {h h' : Heap} {tp : Addr} {vs : List Value} (x : TupAt h tp vs) (k : ∀ o, h.get? tp = some o → h'.get? tp = some o) : TupAt h' tp vs := let ⟨o, n, e, r⟩ := x; ⟨o, n, k o e, r⟩
theorem next_drawn {a : Addr} {es : Array (Int × Value)} {ep p : Nat} {t : SetTable} {hx : Int} {v : Value} {Q : Value → Shared → Prop} (x : SetAt s.heap a es ep t) (f : t.fits es.size = true) (e : es[p]? = some (hx, v)) (q : Q v s) : wpAny (model prog w) A (setNextDrawn a p ep) Q E s := by
  obtain ⟨o, eo, _, d⟩ := x
  unfold setNextDrawn
  refine wpAny_bind (wpAny_setState_of eo d f ?_)
  dsimp only
  rw [if_neg (by simp), e]
  exact wpAny_pure q
theorem walk_drawn (hh : A.handled = none) (I a tp : Addr) (hne : a ≠ I) (hnt : tp ≠ I) (xs : List Value) (ps : List Nat) (es : Array (Int × Value)) (ep : Nat) (t : SetTable) (f : t.fits es.size = true) (hn : es.size = xs.length) (hp : ps.length = xs.length)
    (at_ : ∀ (i p : Nat), ps[i]? = some p → ∃ hx v, es[p]? = some (hx, v) ∧ xs[i]? = some v) :
    Walks prog w A I [I, a, tp] [I] xs.length (fun i v => xs[i]? = some v) (fun i h => SetIt h I a (.ref tp) i xs.length ep ∧ SetAt h a es ep t ∧ TupAt h tp (ps.map fun (p : Nat) => rawInt p)) where
  sub := fun b z => by simp at z; simp [z]
  frame := fun _ _ _ st k => ⟨st.1.keep fun o e => k I (by simp) o e, st.2.1.keep fun o e => k a (by simp) o e, st.2.2.keep fun o e => k tp (by simp) o e⟩
  self := fun _ _ _ _ st q => st.1.self q
  item := fun i s Q E hi st qq => by
    refine next_gives sit_slot st.1.typeIs sit_entry (sit_args _) ?_
    obtain ⟨o, ho, hc, hd⟩ := st.1
    obtain ⟨ot, nt, et, dt⟩ := st.2.2
    unfold Builtin.«set_iterator.__next__»
    refine wpAny_bind (wpAny_pure ?_)
    dsimp only
    refine wpAny_bind (wpAny_fieldsOf ho hd ?_)
    refine wpAny_bind (m := setEntries a) (set_entries st.2.1 f ?_)
    rw [if_neg (by rw [hn]; simp)]
    obtain ⟨p, hpi⟩ : ∃ p, ps[i]? = some p := ⟨ps[i]'(by omega), by simp [hp, hi]⟩
    obtain ⟨hx, v, ev, xv⟩ := at_ i p hpi
    refine wpAny_bind (m := seqItems? (.ref tp)) (wpAny_seqItems et dt ?_)
    have look : (ps.map fun (p : Nat) => rawInt p).toArray[(i : Int).toNat]? = some (rawInt p) := by simp [hpi]
    dsimp only
    rw [look]
    refine wpAny_bind (m := setNextDrawn a p ep) (next_drawn st.2.1 f ev ?_)
    refine wpAny_bind (set_field ho hc hd (by simp) fun h1 o1 e1 c1 d1 k1 => ?_)
    exact wpAny_pure ⟨v, rfl, qq v h1 s.toks xv ⟨⟨o1, e1, c1, d1⟩, st.2.1.keep fun o e => k1 a o (by simp [hne]) e, st.2.2.keep fun o e => k1 tp o (by simp [hnt]) e⟩ k1⟩
  done := fun s Q E st hQ => by
    refine next_stops sit_slot st.1.typeIs sit_entry (sit_args _) ?_
    obtain ⟨o, ho, hc, hd⟩ := st.1
    obtain ⟨ot, nt, et, dt⟩ := st.2.2
    unfold Builtin.«set_iterator.__next__»
    refine wpAny_bind (wpAny_pure ?_)
    dsimp only
    refine wpAny_bind (wpAny_fieldsOf ho hd ?_)
    refine wpAny_bind (m := setEntries a) (set_entries st.2.1 f ?_)
    rw [if_neg (by rw [hn]; simp)]
    refine wpAny_bind (m := seqItems? (.ref tp)) (wpAny_seqItems et dt ?_)
    have look : (ps.map fun (p : Nat) => rawInt p).toArray[(xs.length : Int).toNat]? = none := by simp [hp]
    dsimp only
    rw [look]
    refine wpAny_bind (set_field ho hc hd (by simp) fun h1 o1 e1 c1 d1 k1 => ?_)
    refine wpAny_bind (set_field e1 c1 d1 (by simp) fun h2 o2 e2 c2 d2 k2 => ?_)
    refine stop_calm hh fun h3 x k3 ⟨ox, ex, cx⟩ => ⟨x, ox, rfl, ex, cx, hQ h3 s.toks fun b o hb e => k3 b o (k2 b o hb (k1 b o hb e))⟩
theorem choose_any {src : Source} {n : Nat} {Q : Nat → Shared → Prop} (h : n ≠ 0) (q : ∀ i d, i < n → Q i { s with drawn := d }) : wpAny (model prog w) A (choose src n) Q E s := by
  intro Γ p _
  unfold choose
  rw [Sem.wp_choose]
  exact ⟨h, by rw [Sem.wp_pure]; exact q _ _ (Nat.mod_lt _ (Nat.pos_of_ne_zero h))⟩
theorem out_perm {α : Type} : ∀ {l : List α} {i : Nat} (h : i < l.length), (l[i] :: l.eraseIdx i).Perm l
  | x :: r, 0, _ => List.Perm.refl _
  | x :: r, i + 1, h => by
    have z := out_perm (l := r) (i := i) (by simpa using h)
    exact (List.Perm.swap ..).trans (List.Perm.cons x z)
theorem draw_order {α : Type} : ∀ (n : Nat) (xs : List α) (s : Shared) (Q : List α → Shared → Prop), n = xs.length → (∀ ys d, ys.Perm xs → Q ys { s with drawn := d }) → wpAny (model prog w) A (drawOrder n xs) Q E s
  | 0, xs, s, Q, h, q => by
    have e : xs = [] := List.length_eq_zero_iff.mp h.symm
    subst e
    exact wpAny_pure (q [] s.drawn (List.Perm.refl _))
  | n + 1, [], s, Q, h, q => nomatch h
  | n + 1, x :: r, s, Q, h, q => by
    unfold drawOrder
    refine wpAny_bind (choose_any (by simp) fun i d hi => ?_)
    rw [List.getElem?_eq_getElem hi]
    dsimp only
    refine wpAny_bind (draw_order n _ _ _ (by rw [List.length_eraseIdx_of_lt hi]; simp at h ⊢; omega) fun ys d2 pm => ?_)
    exact wpAny_pure (q _ d2 ((List.Perm.cons _ pm).trans (out_perm hi)))
theorem pick_go {α : Type} (next : Nat → Nat) : ∀ (fuel k : Nat) (left : List α) (out : Array α), fuel = left.length → (pickOrder.go next fuel k left out).toList.Perm (out.toList ++ left)
  | 0, k, left, out, h => by
    have e : left = [] := List.length_eq_zero_iff.mp h.symm
    subst e
    unfold pickOrder.go
    rw [List.append_nil]
  | fuel + 1, k, left, out, h => by
    unfold pickOrder.go
    have hi : next k % left.length < left.length := Nat.mod_lt _ (by omega)
    rw [List.getElem?_eq_getElem hi]
    dsimp only
    refine (pick_go next fuel _ _ _ (by rw [List.length_eraseIdx_of_lt hi]; omega)).trans ?_
    rw [Array.toList_push, List.append_assoc]
    exact List.Perm.append_left _ (out_perm hi)
theorem pick_perm {α : Type} (next : Nat → Nat) (xs : Array α) : (pickOrder next xs).toList.Perm xs.toList := by
  unfold pickOrder
  exact pick_go next _ _ _ _ (by simp)
/-- how a set of texts stands: its table is led unless the text's order is followed, and its order is no plain one -/
def ByText (w : World) : Bool := w.params.followText "set-order"
theorem next_text {a : Addr} {es : Array (Int × Value)} {ep i sl : Nat} {t : SetTable} {Q : Option (Value × Nat) → Shared → Prop} (bt : ByText w = true) (x : SetAt s.heap a es ep t) (f : t.fits es.size = true)
    (q : Q (((pickOrder (w.params.setOrder a ep) es).toList.map (·.2))[i]?.map fun v => (v, sl)) s) : wpAny (model prog w) A (setNext a sl i ep) Q E s := by
  obtain ⟨o, eo, _, d⟩ := x
  unfold setNext setsByText setWalk setsByText
  refine wpAny_bind (wpAny_setState_of eo d f ?_)
  dsimp only
  simp only [bind_assoc, pure_bind]
  refine wpAny_bind (wpAny_askSetting ?_)
  refine wpAny_ite_split (fun _ => ?_) (fun c => absurd bt c)
  rw [if_neg (by simp)]
  refine wpAny_bind (wpAny_setState_of eo d f ?_)
  dsimp only
  refine wpAny_bind (wpAny_askSetting ?_)
  refine wpAny_bind (wpAny_ite_split (fun _ => ?_) (fun c => absurd bt c))
  refine wpAny_bind (wpAny_askSetting (wpAny_pure ?_))
  have e : ((pickOrder (w.params.setOrder a ep) es).toList.map (·.2))[i]? = ((pickOrder (w.params.setOrder a ep) es)[i]?).map (·.2) := by rw [List.getElem?_map, Array.getElem?_toList]
  rw [e, Option.map_map] at q
  exact wpAny_pure q
theorem few_fits {es : Array (Int × Value)} {t : SetTable} (f : t.fits es.size = true) : t.place.size = es.size := by
  simp only [SetTable.fits, Bool.and_eq_true, beq_iff_eq] at f
  exact f.1
theorem next_few {a : Addr} {es : Array (Int × Value)} {ep i : Nat} {t : SetTable} {Q : Option (Value × Nat) → Shared → Prop} (bt : ByText w = false) (hl : t.led = true) (few : es.size ≤ 1) (hi : i ≤ es.size) (x : SetAt s.heap a es ep t) (f : t.fits es.size = true)
    (q : Q ((es.toList.map (·.2))[i]?.map fun v => (v, if i + 1 = 0 then 0 else t.place.getD 0 0 + 1)) s) : wpAny (model prog w) A (setNext a (if i = 0 then 0 else t.place.getD 0 0 + 1) i ep) Q E s := by
  obtain ⟨o, eo, _, d⟩ := x
  unfold setNext setsByText
  refine wpAny_bind (wpAny_setState_of eo d f ?_)
  dsimp only
  simp only [bind_assoc, pure_bind]
  refine wpAny_bind (wpAny_askSetting ?_)
  refine wpAny_ite_split (fun c => absurd (bt.symm.trans c) (by decide)) (fun _ => ?_)
  refine wpAny_ite_split (fun c => absurd c ?_) (fun _ => ?_)
  · show ¬ (!t.plain && decide (es.size > 1)) = true
    rw [decide_eq_false (by omega)]
    simp
  refine wpAny_bind (?_ : wpAny _ _ (if (!t.led && !es.isEmpty) = true then unsupported "set:maker-not-led" else pure ()) _ _ _)
  rw [hl, if_neg (by simp)]
  refine wpAny_pure (wpAny_pure ?_)
  have pz := few_fits f
  clear f hl d
  revert q
  generalize t.place = pl at pz
  obtain ⟨l⟩ := es
  obtain ⟨m⟩ := pl
  match l, m, few, pz, hi with
  | [], [], _, _, hi =>
    have e : i = 0 := by simpa using hi
    subst e
    exact fun q => q
  | [(hx, v)], [k], _, _, hi =>
    rcases (show i = 0 ∨ i = 1 by simp at hi; omega) with rfl | rfl
    · have b : SetTable.below #[k] (if 0 = 0 then 0 else (#[k] : Array Nat).getD 0 0 + 1) = 0 := by simp [SetTable.below, SetTable.below.go]
      rw [b]
      exact fun q => q
    · have b : SetTable.below #[k] (if 1 = 0 then 0 else (#[k] : Array Nat).getD 0 0 + 1) = 1 := by simp [SetTable.below, SetTable.below.go]
      rw [b]
      exact fun q => q
  | _ :: _ :: _, _, few, _, _ => exact absurd few (by simp)
  | [], _ :: _, _, pz, _ => exact absurd pz (by simp)
  | [_], [], _, pz, _ => exact absurd pz (by simp)
  | [_], _ :: _ :: _, _, pz, _ => exact absurd pz (by simp)
theorem set_iter {a : Addr} {es : Array (Int × Value)} {ep : Nat} {t : SetTable} {Q : Value → Shared → Prop} (x : SetAt s.heap a es ep t) (f : t.fits es.size = true) (hl : t.led = !ByText w) (hp : es.size ≠ 0 → t.plain = false) (hb : es.size < scanBound)
    (q : ∀ h' d I fp (xs : List Value) St, (∀ b o, s.heap.get? b = some o → h'.get? b = some o) → xs.Perm (es.toList.map (·.2)) → (∀ A : Around, A.handled = none → Walks prog w A I fp [I] xs.length (fun i v => xs[i]? = some v) St) → St 0 h' →
      (∀ b ∈ fp, b = a ∨ s.heap.get? b = none) → s.heap.get? I = none → Q (.ref I) { s with heap := h', drawn := d }) : wpAny (model prog w) A (pyIter (.ref a)) Q E s := by
  obtain ⟨o, eo, co, dd⟩ := id x
  have hT : s.TypeIs (.ref a) "set" := ⟨o, eo, co⟩
  have hlt := Heap.lt_size eo
  refine wpAny_pyIter_slot hT PySem.F.slot_set_iter (wpAny_call_entry PySem.F.slot_set_iter hT set_iter_entry ?_ (PySem.F.args_set_iter_1 _))
  unfold Builtin.«frozenset.__iter__» Builtin.Frozenset.slot0 slotArgs
  simp only [bind_assoc, bne_self_eq_false, List.isEmpty_nil, List.length_nil, Bool.not_true, Bool.false_eq_true, ↓reduceIte]
  refine wpAny_bind (wpAny_pure ?_)
  dsimp only
  refine wpAny_bind (m := Builtin.Frozenset.addrOf (.ref a)) (wpAny_pure ?_)
  unfold Builtin.Frozenset.sizeOf
  simp only [bind_assoc, pure_bind]
  refine wpAny_bind (set_entries x f ?_)
  unfold setDrawn setsByText
  simp only [bind_assoc, pure_bind]
  refine wpAny_bind (wpAny_setState_of eo dd f ?_)
  dsimp only
  refine wpAny_bind (wpAny_askSetting ?_)
  change wpAny _ _ (if (!ByText w && (!t.plain && decide (es.size > 1))) = true then _ else _) _ _ _
  refine wpAny_ite_split (fun c => ?_) (fun c => ?_)
  · simp only [Bool.and_eq_true, Bool.not_eq_true', decide_eq_true_eq] at c
    refine wpAny_bind (draw_order es.size _ _ _ (by simp) fun ps d pm => ?_)
    refine wpAny_bind (wpAny_newTuple ?_ (by rw [List.length_map, pm.length_eq, List.length_range]; exact fits_of_scanBound hb))
    refine wpAny_bind (wpAny_setEpoch_of (Heap.get?_push_of_some _ eo) dd f ?_)
    refine wpAny_bind (wpAny_newObj_type (wpAny_pure ⟨_, rfl, "set_iterator", _, ⟨_, Heap.get?_push_size _ rfl, rfl⟩, sit_slot.lookup, ?_⟩))
    have rg : ∀ p ∈ ps, p < es.size := fun p hp => List.mem_range.mp (pm.mem_iff.mp hp)
    have ex : (List.range es.size).map (fun p => (es[p]?.map (·.2)).getD .none) = es.toList.map (·.2) := by
      refine List.ext_getElem (by simp) fun i h1 h2 => ?_
      have hi : i < es.size := by simpa using h1
      simp [hi]
    have nt : s.heap.objs.size ≠ (s.heap.push { cls := .type "tuple", data := .seq (ps.map fun (i : Nat) => rawInt i).toArray }).objs.size := by rw [Heap.size_push]; exact Nat.ne_of_lt (Nat.lt_succ_self _)
    have na : a ≠ (s.heap.push { cls := .type "tuple", data := .seq (ps.map fun (i : Nat) => rawInt i).toArray }).objs.size := by rw [Heap.size_push]; exact Nat.ne_of_lt (Nat.lt_succ_of_lt hlt)
    have ln : es.size = (ps.map (fun p => (es[p]?.map (·.2)).getD Value.none)).length := by rw [List.length_map, pm.length_eq, List.length_range]
    have above : s.heap.get? (s.heap.push { cls := .type "tuple", data := .seq (ps.map fun (i : Nat) => rawInt i).toArray }).objs.size = none := by
      cases z : s.heap.get? _ with
      | none => rfl
      | some o => exact absurd (Heap.lt_size z) (by rw [Heap.size_push]; exact Nat.not_lt.mpr (Nat.le_succ _))
    refine q _ d _ _ _ _ (fun b o e => Heap.get?_push_of_some _ (Heap.get?_push_of_some _ e)) ((pm.map (fun p => (es[p]?.map (·.2)).getD Value.none)).trans (by rw [ex])) (fun A hh => walk_drawn hh (s.heap.push { cls := .type "tuple", data := .seq (ps.map fun (i : Nat) => rawInt i).toArray }).objs.size a s.heap.objs.size na nt _ ps es ep t f ln (by rw [List.length_map]) fun i p hi => ?_) ⟨⟨_, Heap.get?_push_size _ rfl, rfl, ?_⟩, x.keep fun o e => Heap.get?_push_of_some _ (Heap.get?_push_of_some _ e), ⟨_, _, Heap.get?_push_of_some _ (Heap.get?_push_size _ rfl), rfl⟩⟩ (fun b hb => ?_) above
    · have hp' := rg p (List.mem_of_getElem? hi)
      refine ⟨es[p].1, es[p].2, by simp [hp'], ?_⟩
      rw [List.getElem?_map, hi]
      simp [hp']
    · rw [← ln]; rfl
    · simp only [List.mem_cons, List.not_mem_nil, or_false] at hb
      rcases hb with rfl | rfl | rfl
      · exact .inr above
      · exact .inl rfl
      · exact .inr (none_end _)
  · refine wpAny_bind (wpAny_setEpoch_of eo dd f ?_)
    refine wpAny_bind (wpAny_newObj_type (wpAny_pure ⟨_, rfl, "set_iterator", _, ⟨_, Heap.get?_push_size _ rfl, rfl⟩, sit_slot.lookup, ?_⟩))
    have kk : ∀ b o, s.heap.get? b = some o → (s.heap.push { cls := .type "set_iterator", data := .fields [rawInt 0, rawInt 0, .ref a, rawInt es.size, rawInt ep].toArray }).get? b = some o := fun b o e => Heap.get?_push_of_some _ e
    have fresh : ∀ b ∈ [s.heap.objs.size, a], b = a ∨ s.heap.get? b = none := fun b hb => by
      simp only [List.mem_cons, List.not_mem_nil, or_false] at hb
      rcases hb with rfl | rfl
      · exact .inr (none_end _)
      · exact .inl rfl
    cases bt : ByText w with
    | true =>
      have ln : es.size = ((pickOrder (w.params.setOrder a ep) es).toList.map (·.2)).length := by rw [List.length_map, (pick_perm _ es).length_eq, Array.length_toList]
      refine q _ s.drawn s.heap.objs.size _ _ _ kk ((pick_perm _ es).map _) (fun A hh => walk_slot hh s.heap.objs.size a (Nat.ne_of_lt hlt) ((pickOrder (w.params.setOrder a ep) es).toList.map (·.2)) (fun _ => 0) es ep t f ln fun i A E s Q _ x q => next_text bt x f q) ⟨⟨_, Heap.get?_push_size _ rfl, rfl, ?_⟩, x.keep fun o e => kk a o e⟩ fresh (none_end _)
      rw [← ln]; rfl
    | false =>
      have few : es.size ≤ 1 := by
        rw [bt] at c
        by_cases z : es.size = 0
        · omega
        · rw [hp z] at c
          simpa using c
      rw [bt] at hl
      refine q _ s.drawn s.heap.objs.size _ _ _ kk (List.Perm.refl _) (fun A hh => walk_slot hh s.heap.objs.size a (Nat.ne_of_lt hlt) (es.toList.map (·.2)) (fun i => if i = 0 then 0 else t.place.getD 0 0 + 1) es ep t f (by simp) fun i A E s Q li x q => next_few bt hl few (by simpa using li) x f q) ⟨⟨_, Heap.get?_push_size _ rfl, rfl, ?_⟩, x.keep fun o e => kk a o e⟩ fresh (none_end _)
      simp
theorem hint_set {a : Addr} {Q : Bool → Shared → Prop} (hT : s.TypeIs (.ref a) "set") (q : Q false s) : wpAny (model prog w) A (Builtin.List.listLengthHint (.ref a)) Q E s := by
  unfold Builtin.List.listLengthHint
  refine wpAny_bind (wpAny_specialOf hT PySem.F.slot_set_len.lookup ?_)
  generalize e0 : ("set.__len__" : String) = d0
  wp_delta
  rw [show splitId d0 = some ("set", "__len__") from by subst e0; decide +kernel]
  subst e0
  refine wpAny_bind (wpAny_isInstance (T := "set") (b := true) hT (by rw [isSubtype_type]; kernel_rfl) ?_)
  refine wpAny_ite_split (fun c => absurd c (by decide)) (fun _ => wpAny_ite_split (fun _ => ?_) (fun c => absurd (by decide +kernel) c))
  exact wpAny_bind (wpAny_typeOf hT (wpAny_pure q))
theorem items_list {xs : List Value} {acc : Array Value} (z : ItemsOf (fun i v => xs[i]? = some v) acc xs.length) : acc.toList = xs := by
  refine List.ext_getElem? fun i => ?_
  rw [Array.getElem?_toList]
  cases e : acc[i]? with
  | some v => exact (z.2 i v e).symm
  | none =>
    have : acc.size ≤ i := by simpa using e
    rw [z.1] at this
    exact (List.getElem?_eq_none this).symm
theorem collect_set {a : Addr} {es : Array (Int × Value)} {ep : Nat} {t : SetTable} {Q : List Value → Shared → Prop} (hh : A.handled = none) (x : SetAt s.heap a es ep t) (f : t.fits es.size = true) (hl : t.led = !ByText w) (hp : es.size ≠ 0 → t.plain = false) (hb : es.size < scanBound)
    (q : ∀ h' d tk (vs : List Value), (∀ b o, s.heap.get? b = some o → h'.get? b = some o) → vs.Perm (es.toList.map (·.2)) → Q vs { s with heap := h', drawn := d, toks := tk }) : wpAny (model prog w) A (collect (.ref a)) Q E s := by
  refine collect_ext ?_
  have x1 : SetAt (s.heap.push { cls := .type "list", data := .seq #[] }) a es ep t := x.keep fun o e => Heap.get?_push_of_some _ e
  have lt : a < s.heap.objs.size := let ⟨_, e, _⟩ := x; Heap.lt_size e
  unfold Builtin.List.listExtendWith
  have hT : Shared.TypeIs { s with heap := s.heap.push { cls := .type "list", data := .seq #[] } } (.ref a) "set" := let ⟨o, e, c, _⟩ := x1; ⟨o, e, c⟩
  refine wpAny_bind (wpAny_typeOf hT ?_)
  have n1 : Builtin.List.listSameRef (.ref s.heap.objs.size) (.ref a) = false := by simp [Builtin.List.listSameRef, Nat.ne_of_gt lt]
  have n2 : (Value.type "set" == Value.type "list") = false := by decide
  have n3 : (Value.type "set" == Value.type "tuple") = false := by decide
  simp only [n1, n2, n3, Bool.or_false, Bool.false_eq_true, if_false]
  refine wpAny_bind (set_iter x1 f hl hp hb fun h1 d I fp xs St k1 pm W st fr nI0 => ?_)
  have hS1 : h1.get? s.heap.objs.size = some { cls := .type "list", data := .seq #[] } := k1 _ _ (Heap.get?_push_size _ rfl)
  have hSf : s.heap.objs.size ∉ fp := fun hm => by
    rcases fr _ hm with z | z
    · exact absurd z (Nat.ne_of_gt lt)
    · rw [show (s.heap.push { cls := .type "list", data := .seq #[] }).get? s.heap.objs.size = some { cls := .type "list", data := .seq #[] } from Heap.get?_push_size _ rfl] at z
      cases z
  have nI : ∀ b o, s.heap.get? b = some o → b ∉ s.heap.objs.size :: [I] := fun b o e hm => by
    rcases List.mem_cons.mp hm with z | z
    · exact absurd (Heap.lt_size e) (by rw [z]; exact Nat.lt_irrefl _)
    · rw [List.mem_singleton] at z
      subst z
      rw [Heap.get?_push_of_some _ e] at nI0
      cases nI0
  refine wpAny_bind (wpAny_holding (hint_set (let ⟨o, e, c, _⟩ := x1; ⟨o, k1 _ _ e, c⟩) ?_))
  refine wpAny_ite_split (fun _ => ?_) (fun c => absurd (by decide) c)
  refine wpAny_bind (wpAny_rule ?_)
  refine wpAny_bind ?_
  show wpAny _ _ (updateSeq s.heap.objs.size (·.push .none) >>= fun _ => updateSeq s.heap.objs.size (·.pop)) _ _ _
  refine wpAny_bind (wpAny_updateSeq hS1 rfl ?_)
  have hS2 := Heap.get?_update_self (Obj.mapSeq (·.push Value.none)) hS1 rfl
  refine wpAny_updateSeq (hz := by seq_fits) hS2 rfl ?_
  have hS3 := Heap.get?_update_self (Obj.mapSeq (·.pop)) hS2 rfl
  have oth : ∀ b o, b ≠ s.heap.objs.size → h1.get? b = some o → ((h1.update s.heap.objs.size (Obj.mapSeq (·.push Value.none))).update s.heap.objs.size (Obj.mapSeq (·.pop))).get? b = some o :=
    fun b o n e => (Heap.get?_update_other _ _ (Ne.symm n)).trans ((Heap.get?_update_other _ _ (Ne.symm n)).trans e)
  refine wpAny_pure ⟨plainId_quiet PySem.F.plain_extend_loop _, codeAny_extend_loopS (W A.in1 hh).toS (by rw [pm.length_eq, List.length_map, Array.length_toList]; exact fits_of_scanBound hb) s.heap.objs.size hSf (.ref s.heap.objs.size) xs.length 0 _ #[] _ rfl (Nat.zero_le _) ((W A hh).frame 0 _ _ st fun b hb o e => oth b o (fun z => hSf (z ▸ hb)) e) hS3 (ItemsOf.nil _) fun s' acc c hm hS' it => ?_⟩
  refine ⟨acc, c, rfl, hS', ?_⟩
  rw [items_list it, Moved.eq_with hm]
  exact q _ _ _ xs (fun b o e => hm.heap b o (nI b o e) (oth b o (Nat.ne_of_lt (Heap.lt_size e)) (k1 b o (Heap.get?_push_of_some _ e)))) pm
end
end L2

namespace L2
/-! ### set(texts) -/
section
open PySem PySem.Calls PyProof.Rows
variable {prog : Program} {w : World} {A : Around} {E : Value → Shared → Prop} {s : Shared}
theorem lay_led (t : SetTable) (es : Array (Int × Value)) (h : Int) (x : Value) : (layNew t es h x).2.1.led = t.led := by
  unfold layNew
  split
  · dsimp only [SetTable.put, SetTable.orStandIn]
    split <;> split <;> rfl
  · rfl
theorem relay_led (t : SetTable) (es : Array (Int × Value)) (n : Nat) : (relayAll t es n).2.1.led = t.led := by
  unfold relayAll
  split
  · rename_i t' order e
    unfold SetTable.relaid SetTable.laid at e
    cases z : SetTable.layClean (SetTable.sizeAbove n - 1) (es.map (·.1)) with
    | none => rw [z] at e; cases e
    | some ow =>
      rw [z] at e
      injection e with e
      injection e with e1 e2
      dsimp only
      split
      · rw [← e1]
      · rfl
  · rfl
theorem relay_plain (t : SetTable) (es : Array (Int × Value)) (n : Nat) (p : t.plain = false) : (relayAll t es n).2.1.plain = false := by
  unfold relayAll
  split
  · rename_i t' order e
    unfold SetTable.relaid SetTable.laid at e
    cases z : SetTable.layClean (SetTable.sizeAbove n - 1) (es.map (·.1)) with
    | none => rw [z] at e; cases e
    | some ow =>
      rw [z] at e
      injection e with e
      injection e with e1 e2
      dsimp only
      split
      · rw [← e1]; exact p
      · rfl
  · rfl
/-- a set of texts: ks, each once -/
def TxtSet (prog : Program) (w : World) (h : Heap) (a : Addr) (ks : List Str) : Prop := ∃ o es ep t ss, h.get? a = some o ∧ o.ExactSet ∧ o.data = .set es ep t ∧ ElemsOf (PySem.strKind prog w) es.toList ∧ t.fits es.size = true ∧ t.led = (!ByText w) ∧ (es.size ≠ 0 → t.plain = false) ∧
  StrsAre (es.toList.map (·.2)) ss ∧ ss.Perm ks
theorem is_str {k : Str} {v : Value} (h : Value.isStrOf k v = true) : ∃ t, v = .str k t := Value.isStrOf_shape h
theorem txt_new (led : Bool) (hl : led = !ByText w) {h : Heap} {a : Addr} (e : h.get? a = some { cls := .type "set", dict := none, data := .set #[] 0 (.fresh 0 0 led) }) : TxtSet prog w h a [] :=
  ⟨_, #[], 0, _, [], e, ⟨rfl, rfl, rfl⟩, rfl, fun e he => by simp at he, by rfl, hl, fun z => absurd rfl z, .nil, List.Perm.refl _⟩
theorem strs_perm {vs us : List Value} {ss : List Str} (h : StrsAre vs ss) (p : us.Perm vs) : ∃ ts, StrsAre us ts ∧ ts.Perm ss := by
  refine ⟨us.map strOf, strsAre_map us fun v hv => h.all v (p.mem_iff.mp hv), ?_⟩
  have := p.map strOf
  rw [h.strs] at this
  exact this
theorem strs_app : ∀ {vs us : List Value} {ss ts : List Str}, StrsAre vs ss → StrsAre us ts → StrsAre (vs ++ us) (ss ++ ts)
  | _, _, _, _, .nil, h => h
  | _, _, _, _, .cons x t g, h => .cons x t (strs_app g h)
theorem mem_strs {es : Array (Int × Value)} {ss : List Str} {k : Str} (hs : StrsAre (es.toList.map (·.2)) ss) : k ∈ ss ↔ ∃ e ∈ es.toList, Value.isStrOf k e.2 = true := by
  rw [← hs.strs, List.mem_map]
  constructor
  · rintro ⟨v, hv, rfl⟩
    obtain ⟨e, he, rfl⟩ := List.mem_map.mp hv
    obtain ⟨x, t, ex⟩ := hs.all _ hv
    refine ⟨e, he, ?_⟩
    rw [ex]
    simp [Value.isStrOf, strOf]
  · rintro ⟨e, he, hk⟩
    obtain ⟨t, ex⟩ := is_str hk
    exact ⟨e.2, List.mem_map.mpr ⟨e, he, rfl⟩, by rw [ex]; rfl⟩
theorem add_tail {g : Bool → Sem Unit} (hg : ∀ (b : Bool) (s₁ : Shared) (Q' : Unit → Shared → Prop), Q' () s₁ → wpAny (model prog w) A (g b) Q' E s₁) {a : Addr} {o : Obj} {es es1 : Array (Int × Value)} {ep : Nat} {t t2 : SetTable} {wd : Bool} {R : Option Bool → Shared → Prop}
    (ho : s.heap.get? a = some o) (hd : o.data = .set es ep t) (hb : es1.size < scanBound) (hf : t2.fits es1.size = true) (hp : t2.plain = false)
    (q : ∀ h' es' ep' t', Heap.SameBut a s.heap h' → h'.get? a = some { o with data := .set es' ep' t' } → es'.toList.Perm es1.toList → t'.fits es'.size = true → t'.led = t2.led → t'.plain = false → R (some true) { s with heap := h' }) :
    wpAny (model prog w) A (storeSet a es1 t2 >>= fun _ => if (!wd && t2.tooFull) = true then g (relayAll t2 es1 (SetTable.grown es1.size)).2.2 >>= fun _ => storeSet a (relayAll t2 es1 (SetTable.grown es1.size)).1 (relayAll t2 es1 (SetTable.grown es1.size)).2.1 >>= fun _ => pure (some true) else pure (some true)) R E s := by
  have put : ∀ (h : Heap) (o : Obj) (es ep t es' t'), h.get? a = some o → o.data = .set es ep t → (h.update a (Obj.putSet es' t')).get? a = some { o with data := .set es' (ep + 1) t' } := fun h o es ep t es' t' e d => by
    have z := Heap.get?_update_self (Obj.putSet es' t') e (by rw [putSet_of es' t' d]; rfl)
    rw [putSet_of es' t' d] at z
    exact z
  refine wpAny_bind (wpAny_storeSet_of ho hd ?_ (fits_of_scanBound hb))
  have h1 := put s.heap o es ep t es1 t2 ho hd
  refine wpAny_ite_split (fun _ => ?_) (fun _ => wpAny_pure (q _ es1 (ep + 1) t2 (Heap.SameBut.update ..) h1 (List.Perm.refl _) hf rfl hp))
  have pm := relayAll_perm t2 es1 (SetTable.grown es1.size)
  have sz : (relayAll t2 es1 (SetTable.grown es1.size)).1.size = es1.size := by rw [← Array.length_toList, pm.length_eq, Array.length_toList]
  refine wpAny_bind (hg _ _ _ (wpAny_bind (wpAny_storeSet_of h1 rfl ?_ (fits_of_scanBound (by rw [sz]; exact hb)))))
  exact wpAny_pure (q _ _ (ep + 1 + 1) _ ((Heap.SameBut.update ..).trans (Heap.SameBut.update ..)) (put _ { o with data := .set es1 (ep + 1) t2 } es1 (ep + 1) t2 _ _ h1 rfl) pm (relayAll_fits ..) (relay_led ..) (relay_plain _ _ _ hp))
theorem set_add_txt {a : Addr} {ks : List Str} {k : Str} {tk : Tok} {Q : Bool → Shared → Prop} (S : TxtSet prog w s.heap a ks) (room : ks.length + 1 < scanBound)
    (q : ∀ b h', Heap.SameBut a s.heap h' → TxtSet prog w h' a (if k ∈ ks then ks else ks ++ [k]) → Q b { s with heap := h', toks := s.toks + 1 }) : wpAny (model prog w) A (setAdd a (.str k tk)) Q E s := by
  obtain ⟨o, es, ep, t, ss, ho, hex, hd, hel0, hf, hl, hp, hs, pm⟩ := S
  have hel : ElemsOf (PySem.strKind prog w) es.toList := hel0
  have hkey : (PySem.strKind prog w).is k (.str k tk) = true := by show Value.isStrOf k (.str k tk) = true; simp [Value.isStrOf]
  have ln : es.size = ks.length := by rw [← pm.length_eq, ← hs.length, List.length_map, Array.length_toList]
  have hb : es.size < scanBound := by omega
  unfold setAdd
  refine wpAny_holding (wpAny_bind ((PySem.strKind prog w).pyHash hkey ?_))
  unfold setAddHashed
  unfold setAddHashedIn
  refine wpAny_holding (wpAny_bind (wpAny_setState_of (s := { s with toks := s.toks + 1 }) ho hd hf ?_))
  dsimp only
  rw [byScan_of rfl hb hel]
  simp only [↓reduceIte]
  unfold setAddByScan
  refine wpAny_bind (wpAny_bind (wpAny_rule (wpAny_bind (wpAny_setScan_of hkey ho hd hf hel ?_))))
  cases hr : List.findIdx? (fun e => (PySem.strKind prog w).is k e.2) es.toList with
  | some j =>
    dsimp only
    obtain ⟨hj, hpj, _⟩ := List.findIdx?_eq_some_iff_getElem.mp hr
    have hm : k ∈ ks := pm.mem_iff.mp ((mem_strs hs).mpr ⟨_, List.getElem_mem hj, hpj⟩)
    refine wpAny_pure (wpAny_pure (q false s.heap (Heap.SameBut.refl a s.heap) ?_))
    rw [if_pos hm]
    exact ⟨o, es, ep, t, ss, ho, hex, hd, hel, hf, hl, hp, hs, pm⟩
  | none =>
    dsimp only
    have hm : k ∉ ks := fun z => by
      obtain ⟨e, he, hk⟩ := (mem_strs hs).mp (pm.mem_iff.mpr z)
      have := List.findIdx?_eq_none_iff.mp hr e he
      exact absurd (hk.symm.trans this) (by decide)
    rw [if_neg hm] at q
    have gw : ∀ (b : Bool) (s₁ : Shared) (Q' : Unit → Shared → Prop), Q' () s₁ → wpAny (model prog w) A (match b with | true => rule "set.scan.the-table-gave-way" | false => pure ()) Q' E s₁ := fun b s₁ Q' hq => by
      cases b
      · exact wpAny_pure hq
      · exact wpAny_rule hq
    have lp := layNew_perm t es ((PySem.strKind prog w).hash k) (.str k tk)
    have lf := layNew_fits t es ((PySem.strKind prog w).hash k) (.str k tk)
    have ll := lay_led t es ((PySem.strKind prog w).hash k) (.str k tk)
    generalize layNew t es ((PySem.strKind prog w).hash k) (.str k tk) = L at lp lf ll
    obtain ⟨es1, t1, wd, gave⟩ := L
    dsimp only at lp lf ll ⊢
    rw [Array.toList_push] at lp
    have hel1 : ElemsOf (PySem.strKind prog w) es1.toList := (hel.push hkey rfl).perm lp
    have sz1 : es1.size = es.size + 1 := by rw [← Array.length_toList, lp.length_eq, List.length_append, Array.length_toList]; rfl
    have str1 : ∃ ts, StrsAre (es1.toList.map (·.2)) ts ∧ ts.Perm (ks ++ [k]) := by
      have h0 : StrsAre ((es.toList ++ [((PySem.strKind prog w).hash k, Value.str k tk)]).map (·.2)) (ss ++ [k]) := by
        rw [List.map_append]
        exact strs_app hs (.cons k tk .nil)
      obtain ⟨ts, y1, y2⟩ := strs_perm h0 (lp.map (·.2))
      exact ⟨ts, y1, y2.trans (pm.append_right _)⟩
    have fin : ∀ h' es' ep' t', Heap.SameBut a s.heap h' → h'.get? a = some { o with data := .set es' ep' t' } → es'.toList.Perm es1.toList → t'.fits es'.size = true → t'.led = t.led → t'.plain = false → TxtSet prog w h' a (ks ++ [k]) := fun h' es' ep' t' _ e pe fe le pl => by
      obtain ⟨ts, y1, y2⟩ := str1
      obtain ⟨us, z1, z2⟩ := strs_perm y1 (pe.map (·.2))
      exact ⟨_, es', ep', t', us, e, hex, rfl, hel1.perm pe, fe, le.trans hl, fun _ => pl, z1, z2.trans y2⟩
    refine wpAny_bind (gw _ _ _ ?_)
    refine wpAny_ite_split (fun c => ?_) (fun c => ?_)
    · rw [hashByValue_scannable 8 rfl]
      refine wpAny_bind (wpAny_pure ?_)
      refine add_tail gw ho hd (by rw [sz1, ln]; exact room) (SetTable.fits_plain_off lf) rfl fun h' es' ep' t' sb e pe fe le pl => wpAny_pure (q true h' sb (fin h' es' ep' t' sb e pe fe (le.trans ll) pl))
    · refine wpAny_bind (wpAny_pure ?_)
      have pl1 : t1.plain = false := by simpa using c
      refine add_tail gw ho hd (by rw [sz1, ln]; exact room) lf pl1 fun h' es' ep' t' sb e pe fe le pl => wpAny_pure (q true h' sb (fin h' es' ep' t' sb e pe fe (le.trans ll) pl))
/-- each text once, as it is met first -/
def onceS (ss : List Str) : List Str := ss.foldl (fun ks k => if k ∈ ks then ks else ks ++ [k]) []
theorem once_len (ss : List Str) : (onceS ss).length ≤ ss.length := by
  have z : ∀ (l ks : List Str), (l.foldl (fun ks k => if k ∈ ks then ks else ks ++ [k]) ks).length ≤ ks.length + l.length := fun l => by
    induction l with
    | nil => intro ks; exact Nat.le_refl _
    | cons k r ih =>
      intro ks
      refine Nat.le_trans (ih _) ?_
      rw [List.length_cons]
      dsimp only
      split
      · omega
      · rw [List.length_append, List.length_singleton]; omega
  have := z ss []
  rw [List.length_nil, Nat.zero_add] at this
  exact this
theorem once_step {ss : List Str} {i : Nat} {k : Str} (h : ss[i]? = some k) : onceS (ss.take (i + 1)) = if k ∈ onceS (ss.take i) then onceS (ss.take i) else onceS (ss.take i) ++ [k] := by
  have e : ss.take (i + 1) = ss.take i ++ [k] := by rw [List.take_add_one, h]; rfl
  unfold onceS
  rw [e, List.foldl_append]
  rfl
theorem TxtSet.keep {h h' : Heap} {a : Addr} {ks : List Str} (S : TxtSet prog w h a ks) (k : ∀ o, h.get? a = some o → h'.get? a = some o) : TxtSet prog w h' a ks := let ⟨o, es, ep, t, ss, e, r⟩ := S; ⟨o, es, ep, t, ss, k o e, r⟩
theorem strs_at : ∀ {vs : List Value} {ss : List Str}, StrsAre vs ss → ∀ (i : Nat) (v : Value), vs[i]? = some v → ∃ k t, v = .str k t ∧ ss[i]? = some k
  | _, _, .nil, i, v, h => by simp at h
  | _, _, .cons x t r, 0, v, h => ⟨x, t, by simpa using h.symm, rfl⟩
  | _, _, .cons x t r, i + 1, v, h => strs_at r i v h
theorem fill_loop {R : Result → Shared → Prop} {I S : Addr} {fp : List Addr} {vs : List Value} {ss : List Str} {St : Nat → Heap → Prop} (W : Walks prog w A.in1 I fp [I] vs.length (fun i v => vs[i]? = some v) St) (nS : S ∉ fp) (hs : StrsAre vs ss) (hb : vs.length + 1 < scanBound) :
    ∀ (k i : Nat) (s : Shared), vs.length - i = k → i ≤ vs.length → St i s.heap → TxtSet prog w s.heap S (onceS (ss.take i)) →
      (∀ h' tk, (∀ b o, b ∉ [S, I] → s.heap.get? b = some o → h'.get? b = some o) → TxtSet prog w h' S (onceS ss) → R (.ok (.ret .none)) { s with heap := h', toks := tk }) → codeAny (model prog w) A (.builtin "set.update.loop" ⟨[.ref S, .ref I], []⟩) R s := by
  have nI : S ∉ [I] := fun z => nS (W.sub _ z)
  have ln : vs.length = ss.length := hs.length
  intro k
  induction k with
  | zero =>
    intro i s hk hi st T q
    have e : i = vs.length := by omega
    subst e
    refine codeAny_builtin PyProof.Rows.F.entry_set_update_loop ?_
    rw [Around.under_plainId PyProof.Rows.F.plain_set_update_loop _]
    refine wpAny_bind (m := pyNext (.ref I)) (W.done s _ _ st fun h' tk k' => ?_)
    rw [ln, List.take_length] at T
    exact wpAny_pure (q h' tk (fun b o n e => k' b o (fun z => n (List.mem_cons_of_mem _ z)) e) (T.keep fun o e => k' S o nI e))
  | succ k ih =>
    intro i s hk hi st T q
    have lt : i < vs.length := by omega
    refine codeAny_builtin PyProof.Rows.F.entry_set_update_loop ?_
    rw [Around.under_plainId PyProof.Rows.F.plain_set_update_loop _]
    refine wpAny_bind (m := pyNext (.ref I)) (W.item i s _ _ lt st fun v h' tk hv st' k' => ?_)
    obtain ⟨x, t, rfl, hx⟩ := strs_at hs i v hv
    refine wpAny_bind (m := holding [Value.str x t] (setAdd S (.str x t))) (wpAny_holding (set_add_txt (T.keep fun o e => k' S o nI e) ?_ fun b h2 sb T2 => ?_))
    · have := once_len (ss.take i)
      rw [List.length_take] at this
      omega
    rw [← once_step hx] at T2
    refine wpAny_pure ⟨plainId_quiet PyProof.Rows.F.plain_set_update_loop _, ih (i + 1) _ (by omega) lt (W.frame _ _ _ st' fun b hb o e => ?_) T2 fun h3 tk3 k3 T3 => ?_⟩
    · rw [sb.2 b (fun z => nS (z ▸ hb))]; exact e
    · refine q h3 tk3 (fun b o n e => k3 b o n ?_) T3
      rw [sb.2 b (fun z => n (by simp [z]))]
      exact k' b o (fun z => n (List.mem_cons_of_mem _ z)) e
theorem set_made (x : Value) {Q₁ : Value → Shared → Prop} (q : Q₁ (.ref s.heap.objs.size) { s with heap := s.heap.push { cls := .type "set", dict := none, data := .set #[] 0 (.fresh 0 0 (!ByText w)) } }) :
    codeAny (model prog w) A (.call (.builtin "set.__new__") ⟨[.type "set", x], []⟩) (wants Q₁ E) s := by
  refine codeAny_of_tree ?_
  refine wpAny_bind (m := checkBuiltinCall "set.__new__" ⟨[.type "set", x], []⟩) (wpAny_of_eq (PySem.F.newCall_set_1 x) (wpAny_pure ⟨plainId_quiet PySem.F.plain_set_new _, codeAny_builtin PySem.F.entry_set_new ?_⟩))
  rw [Around.under_plainId PySem.F.plain_set_new _]
  unfold Builtin.«set.__new__»
  unfold Builtin.Frozenset.newClass
  have hsub := sub_set_self
  obtain ⟨hp, g, d, tk, os⟩ := s
  dsimp only
  wp_walk
  refine wpAny_askSetting (wpAny_pure ?_)
  dsimp only
  simp only [newObj]
  exact wpAny_bind (wpAny_alloc (wpAny_pure (wpAny_pure q)))
end
end L2

namespace L2
/-! ### set(texts), sorted(set(texts)), sorted(dict) -/
section
open PySem PySem.Calls PyProof.Rows
variable {prog : Program} {w : World} {A : Around} {E : Value → Shared → Prop} {s : Shared}
theorem set_call {lq : Addr} {vs : List Value} {ss : List Str} {Q : Value → Shared → Prop} (hh : A.handled = none) (hl : s.heap.IsList lq vs.toArray) (hs : StrsAre vs ss) (hb : vs.length + 1 < scanBound)
    (q : ∀ h' tk, (∀ b o, s.heap.get? b = some o → h'.get? b = some o) → TxtSet prog w h' s.heap.objs.size (onceS ss) → Q (.ref s.heap.objs.size) { s with heap := h', toks := tk }) : wpAny (model prog w) A (call (.type "set") [.ref lq]) Q E s := by
  obtain ⟨c, tl, hmro⟩ := PySem.F.called_set.mro
  have hmade := PySem.F.called_set.made
  have hsub := PySem.F.called_set.sub
  refine wpAny_call (codeAny_of_tree (wpAny_pure ⟨Code.quiet_builtin _ (by decide +kernel), codeAny_builtin PySem.F.entry_type_call ?_⟩))
  rw [Around.under_plain (weight_type_call_type "set" [.ref lq] []) rfl]
  have h1 := PySem.F.called_set.notType
  have h2 := PySem.F.called_set.canCreate
  have hct := PySem.F.typeCall_set_1 (.ref lq)
  repeat (any_goals (first | assumption | wp_step))
  refine codeAny_mono (set_made (.ref lq) (E := E) (Q₁ := fun obj s₁ => obj = .ref s.heap.objs.size ∧ s₁ = { s with heap := s.heap.push { cls := .type "set", dict := none, data := .set #[] 0 (.fresh 0 0 (!ByText w)) } }) ⟨rfl, rfl⟩) fun r s₁ hr => ?_
  match r, hr with
  | .error e, hr => exact hr
  | .ok (.ret obj), hr =>
    obtain ⟨rfl, rfl⟩ := hr
    have hS : (s.heap.push { cls := .type "set", dict := none, data := .set #[] 0 (.fresh 0 0 (!ByText w)) }).get? s.heap.objs.size = some { cls := .type "set", dict := none, data := .set #[] 0 (.fresh 0 0 (!ByText w)) } := Heap.get?_push_size _ rfl
    have hT : Shared.TypeIs { s with heap := s.heap.push { cls := .type "set", dict := none, data := .set #[] 0 (.fresh 0 0 (!ByText w)) } } (.ref s.heap.objs.size) "set" := ⟨_, hS, rfl⟩
    have hli := PySem.F.called_set.init.lookup
    have hbi := PySem.F.called_set.init.bind (.ref s.heap.objs.size)
    repeat (any_goals (first | assumption | wp_step))
    refine codeAny_mono (codeAny_call_builtin (R := wants (fun r s₂ => r = .none ∧ ∃ h' tk, s₂ = { s with heap := h', toks := tk } ∧ (∀ b o, s.heap.get? b = some o → h'.get? b = some o) ∧ TxtSet prog w h' s.heap.objs.size (onceS ss)) E) PySem.F.called_set.init.plain PySem.F.entry_set_init (check_set_init_1 hT ?_)) fun r₂ s₂ hr₂ => ?_
    · obtain ⟨⟨cl, dl, tl, sl⟩, el, hcl, nl, hdl⟩ := hl
      simp only at hcl hdl
      subst hcl; subst hdl
      have el' := Heap.get?_push_of_some ({ cls := .type "set", dict := none, data := .set #[] 0 (.fresh 0 0 (!ByText w)) } : Obj) el
      have lt : lq < s.heap.objs.size := Heap.lt_size el
      have l1 : (s.heap.push { cls := .type "set", dict := none, data := .set #[] 0 (.fresh 0 0 (!ByText w)) }).IsList lq vs.toArray := ⟨_, el', rfl, nl, rfl⟩
      have n1 := PySem.F.sub_list_set
      have n2 := PySem.F.sub_list_frozenset
      have n3 : (Value.type "list" == Value.type "dict") = false := by decide
      unfold Builtin.«set.__init__» Builtin.Frozenset.updateFrom noKeywords
      generalize ePI : pyIter = PI
      wp_walk
      subst ePI
      refine wpAny_pyIter_list l1 (wpAny_bind (wpAny_runValue ?_))
      have nI : lq ≠ (s.heap.push { cls := .type "set", dict := none, data := .set #[] 0 (.fresh 0 0 (!ByText w)) }).objs.size := by rw [Heap.size_push]; exact Nat.ne_of_lt (Nat.lt_succ_of_lt lt)
      have nS : s.heap.objs.size ∉ [(s.heap.push { cls := .type "set", dict := none, data := .set #[] 0 (.fresh 0 0 (!ByText w)) }).objs.size, lq] := by
        rw [Heap.size_push]
        simp only [List.mem_cons, List.not_mem_nil, or_false, not_or]
        exact ⟨Nat.ne_of_lt (Nat.lt_succ_self _), Nat.ne_of_gt lt⟩
      have hA : A.in1.in1.in1.handled = none := by simp [hh]
      have W := Walks.list (prog := prog) (w := w) hA (s.heap.push { cls := .type "set", dict := none, data := .set #[] 0 (.fresh 0 0 (!ByText w)) }).objs.size lq nI vs.toArray
      have W2 : Walks prog w A.in1.in1.in1 (s.heap.push { cls := .type "set", dict := none, data := .set #[] 0 (.fresh 0 0 (!ByText w)) }).objs.size [(s.heap.push { cls := .type "set", dict := none, data := .set #[] 0 (.fresh 0 0 (!ByText w)) }).objs.size, lq] [(s.heap.push { cls := .type "set", dict := none, data := .set #[] 0 (.fresh 0 0 (!ByText w)) }).objs.size] vs.length (fun i v => vs[i]? = some v) (fun i h => h.IsListIter (s.heap.push { cls := .type "set", dict := none, data := .set #[] 0 (.fresh 0 0 (!ByText w)) }).objs.size lq i ∧ h.IsList lq vs.toArray) := by
        simpa only [List.size_toArray, List.getElem?_toArray] using W
      refine fill_loop W2 nS hs hb vs.length 0 _ (by omega) (Nat.zero_le _) ⟨⟨_, Heap.get?_push_size _ rfl, rfl, rfl⟩, l1.push _⟩ (txt_new (!ByText w) rfl (Heap.get?_push_of_some _ hS)) fun h' tk k' T => ?_
      refine wpAny_pure (wpAny_pure ⟨rfl, h', tk, rfl, fun b o e => k' b o (fun z => ?_) (Heap.get?_push_of_some _ (Heap.get?_push_of_some _ e)), T⟩)
      have lb := Heap.lt_size e
      rw [Heap.size_push] at z
      simp only [List.mem_cons, List.not_mem_nil, or_false] at z
      rcases z with rfl | rfl
      · exact absurd lb (Nat.lt_irrefl _)
      · exact absurd lb (Nat.not_lt.mpr (Nat.le_succ _))
    · match r₂, hr₂ with
      | .error e, hr₂ => exact hr₂
      | .ok (.ret r), hr₂ =>
        obtain ⟨rfl, h', tk, rfl, k', T⟩ := hr₂
        repeat (any_goals (first | assumption | wp_step))
        exact q _ _ k' T
      | .ok .next, hr₂ => exact hr₂.elim
end
end L2

namespace L2
/-! ### set(texts), sorted(a set of texts), sorted(a dict), sorted(texts): the rules -/
section
open PySem PySem.Calls PyProof.Rows
variable {X : Cx} {pins : List (Addr × Obj)} {σ : St} {H : Hp} {s : Shared}
theorem Inv.drew {d' : Drawn} (I : Inv X pins σ H s) : Inv X pins σ H { s with drawn := d' } := ⟨I.ok, I.os, I.bare, I.base, I.loc, I.cell, I.free, I.freeC, I.pin, I.hok, I.len⟩
theorem strs_of_vals : ∀ {ss : List Str} {its : List Value}, Vals (ss.map V.str) its → StrsAre its ss
  | [], _, .nil => .nil
  | x :: r, _, .cons h t => by
    obtain ⟨k, rfl⟩ := h
    exact .cons x k (strs_of_vals t)
theorem vals_of_strs : ∀ {ss : List Str} {its : List Value}, StrsAre its ss → Vals (ss.map V.str) its
  | _, _, .nil => .nil
  | _, _, .cons x t h => .cons ⟨t, rfl⟩ (vals_of_strs h)
theorem strs_by : ∀ {us : List Value} {ss : List Str}, us.length = ss.length → (∀ (j : Nat) (v : Value), us[j]? = some v → ∃ k t, v = .str k t ∧ ss[j]? = some k) → StrsAre us ss
  | [], [], _, _ => .nil
  | [], _ :: _, h, _ => nomatch h
  | _ :: _, [], h, _ => nomatch h
  | u :: us, k :: ss, h, f => by
    obtain ⟨k', t, rfl, e⟩ := f 0 u rfl
    cases e
    exact .cons _ t (strs_by (Nat.succ.inj h) fun j v e => f (j + 1) v e)
theorem kv_keys : ∀ {kvs : List (Key × V)} {vs : List (Key × Value)}, KV kvs vs → vs.map (·.1) = kvs.map (·.1)
  | _, _, .nil => rfl
  | _, _, .cons h t => by rw [List.map_cons, List.map_cons, kv_keys t, h.1]
/-- a set of texts, each once -/
def SetT (P : Program) (w : World) (p : Addr) (ks : List Str) : HO := .ext fun h => TxtSet P w h p ks
def rSetT (P : Program) (w : World) (K : PySem.W.Frag) : List V → Hp → VK → Prop := fun xs H Q => ∃ (a : Addr) (ss : List Str), xs = [.ref a] ∧ SqL K H a (ss.map V.str) ∧ ss.length ≤ 1000 ∧ ∀ p, H p = none → Q (.ref p) (upd H p (SetT P w p (onceS ss)))
theorem call_setT {P : Program} {w : World} {K : PySem.W.Frag} (hP : X.prog = P) (hw : X.w = w) (hK : X.K = K) (hc : X.calm = true) : CallR X (.type "set") (rSetT P w K) := by
  subst hP hw hK
  intro pins s σ H xs us Q I r h
  obtain ⟨a, ss, rfl, h1, few, q⟩ := h
  obtain ⟨u, rfl, ru⟩ := vals1 r
  cases ru
  obtain ⟨its, r1, p1, _⟩ := I.list h1
  have hs := strs_of_vals r1
  have ln := hs.length
  refine set_call (I.ok.hd hc) p1.isList hs (by rw [ln]; unfold scanBound; omega) fun h' tk k T => ⟨.ref s.heap.objs.size, _, I.laid (t' := tk) k (Nat.le_refl _) (?_ : ObjOk X.prog X.w _ h' _ (SetT X.prog X.w s.heap.objs.size (onceS ss))), rfl, q _ (I.hok.fresh (Nat.le_refl _))⟩
  exact ⟨T, let ⟨o, _, _, _, _, e, _⟩ := T; ⟨o, e⟩, fun h1 h2 T1 kk => T1.keep kk⟩
/-- what sorted(..) of the texts ks gives -/
def GivesS (H : Hp) (ks : List Str) (Q : VK) : Prop := ∀ ts p, ts.Perm ks → sortedS ts = true → H p = none → Q (.ref p) (upd H p (.lst (ts.map V.str)))
theorem sorts_to {Q : VK} {ks : List Str} {d' : Drawn} {tk : Nat} {h1 : Heap} {vs : List Value} {ss : List Str} (I : Inv X pins σ H s) (k : ∀ b o, s.heap.get? b = some o → h1.get? b = some o) (hs : StrsAre vs ss) (pm : ss.Perm ks) (few : ks.length < 64) (q : GivesS H ks Q) :
    SortsTo (EP X pins σ Q) vs { s with heap := h1, drawn := d', toks := tk } := by
  have I1 : Inv X pins σ H { s with heap := h1, drawn := d', toks := tk } := (I.drew (d' := d')).kept (t' := tk) k
  refine ⟨ss, hs, by rw [hs.length, pm.length_eq]; exact few, fun h' p out ss' c ho pe so lp k' e => ⟨.ref p, _, I1.laid (t' := tk) k' lp (?_ : ObjOk X.prog X.w _ h' p (.lst (ss'.map V.str))), rfl, q ss' p (pe.trans pm) so (I1.hok.fresh lp)⟩⟩
  refine ⟨?_, out, c, vals_of_strs ho, e⟩
  rw [List.length_map, pe.length_eq, pm.length_eq, sizeLine_eq]
  omega
def rSortT (P : Program) (w : World) : List V → Hp → VK → Prop := fun xs H Q => ∃ (a : Addr) (ks : List Str), xs = [.ref a] ∧ H a = some (SetT P w a ks) ∧ ks.length < 64 ∧ GivesS H ks Q
theorem call_sortT {P : Program} {w : World} (hP : X.prog = P) (hw : X.w = w) (hc : X.calm = true) : CallR X (.builtin "sorted") (rSortT P w) := by
  subst hP hw
  intro pins s σ H xs us Q I r h
  obtain ⟨a, ks, rfl, h1, few, q⟩ := h
  obtain ⟨u, rfl, ru⟩ := vals1 r
  cases ru
  obtain ⟨T, _⟩ : ObjOk X.prog X.w H s.heap a (SetT X.prog X.w a ks) := I.hok a _ h1
  obtain ⟨o, es, ep, t, ss, e, ex, d, el, f, hl, hp, hs, pm⟩ := T
  have ln : es.size = ks.length := by rw [← pm.length_eq, ← hs.length, List.length_map, Array.length_toList]
  refine sorted_walked (collect_set (by simpa using I.ok.hd hc) ⟨o, e, ex.1, d⟩ f hl hp (by rw [ln]; unfold scanBound; omega) fun h' d' tk vs k pv => ?_)
  obtain ⟨ts, y1, y2⟩ := strs_perm hs pv
  exact sorts_to I k y1 (y2.trans pm) few q
def rSortL (K : PySem.W.Frag) : List V → Hp → VK → Prop := fun xs H Q => ∃ (a : Addr) (ss : List Str), xs = [.ref a] ∧ SqL K H a (ss.map V.str) ∧ ss.length < 64 ∧ GivesS H ss Q
theorem call_sortL {K : PySem.W.Frag} (hK : X.K = K) : CallR X (.builtin "sorted") (rSortL K) := by
  subst hK
  intro pins s σ H xs us Q I r h
  obtain ⟨a, ss, rfl, h1, few, q⟩ := h
  obtain ⟨u, rfl, ru⟩ := vals1 r
  cases ru
  obtain ⟨its, r1, p1, _⟩ := I.list h1
  have hs := strs_of_vals r1
  refine sorted_walked (collect_list p1.isList ?_ (by rw [hs.length, sizeLine_eq]; omega))
  exact sorts_to (d' := s.drawn) (tk := s.toks) I (fun b o e => (Heap.get?_update_other _ _ (Nat.ne_of_gt (Heap.lt_size e))).trans (Heap.get?_push_of_some _ e)) hs (List.Perm.refl _) few q
def rSortD : List V → Hp → VK → Prop := fun xs H Q => ∃ (d : Addr) (kvs : List (Key × V)) (ss : List Str), xs = [.ref d] ∧ H d = some (.dK kvs) ∧ kvs.map (·.1) = ss.map .inr ∧ ss.length < 64 ∧ GivesS H ss Q
theorem call_sortD (hc : X.calm = true) : CallR X (.builtin "sorted") rSortD := by
  intro pins s σ H xs us Q I r h
  obtain ⟨d, kvs, ss, rfl, h1, hk, few, q⟩ := h
  obtain ⟨u, rfl, ru⟩ := vals1 r
  cases ru
  obtain ⟨_, lo, vs, rv, o, es, ep, ho, h2, h3, h4⟩ : ObjOk X.prog X.w H s.heap d (.dK kvs) := I.hok d _ h1
  have D : s.heap.DictAt (mixKind X.prog X.w) d vs ep := ⟨o, es, ho, h2, h3, h4⟩
  have ln : vs.length = ss.length := by
    have := congrArg List.length hk
    rw [List.length_map, List.length_map] at this
    rw [← this]; exact rv.length.symm
  refine sorted_walked (collect_src (PySem.W.kdl_dict (knd := mixKind X.prog X.w) (kvs := vs) (ep := ep) lo) (by simpa using I.ok.hd hc) D (by rw [ln, sizeLine_eq]; omega) fun h' tk us k lu it => ?_)
  have hs : StrsAre us ss := by
    refine strs_by (by rw [lu, ln]) fun j v e => ?_
    obtain ⟨ky, x, e1, e2⟩ := it j v e
    have e3 : (kvs.map (·.1))[j]? = some ky := by rw [← kv_keys rv, List.getElem?_map, e1]; rfl
    rw [hk, List.getElem?_map] at e3
    cases z : ss[j]? with
    | none => rw [z] at e3; cases e3
    | some y =>
      rw [z] at e3
      injection e3 with e3
      subst e3
      obtain ⟨t, rfl⟩ := relV_key e2
      exact ⟨_, t, rfl, rfl⟩
  exact sorts_to (d' := s.drawn) I k hs (List.Perm.refl _) few q
end
end L2
namespace L2
open PySem
theorem op_catT3K {X : Cx} {K : PySem.W.Frag} (h : X.K = K) : OpR X (binaryOp .Add) (rCatT3 K) := by
  subst h
  exact op_catT3
end L2

/-! ### a tuple against the empty one -/
namespace L2
open PySem PySem.Spec PyProof.Rows
section
variable {X : Cx}
def rEqT0 (K : PySem.W.Frag) (neg : Bool) : R2 := fun x y H Q => ∃ a b xs, x = .ref a ∧ y = .ref b ∧ SqT K H a xs ∧ SqT K H b [] ∧ Q (.bl (if neg then !decide (xs = []) else decide (xs = []))) H
theorem more_ne (b : Value) (l : List Value) : (((List.range (min (b :: l).toArray.size (#[] : Array Value).size)).all fun _ => true) && (b :: l).toArray.size == (#[] : Array Value).size) = false := by simp
theorem op_eqT0 (hu : X.A.units + 1 < cLine) : OpR X (compareOp .Eq) (rEqT0 X.K false) := by
  intro pins s σ H x y v u Q I rx ry h
  obtain ⟨a, b, xs, rfl, rfl, h1, h2, q⟩ := h
  cases rx
  cases ry
  obtain ⟨its, r1, p1, _⟩ := I.tuple h1
  obtain ⟨its2, r2, p2, _⟩ := I.tuple h2
  cases r2
  have key := SeqAt.RcAt.tuples (A := X.A) (s := s) (e := fun _ => true) p1 p2 (by omega) (fun j g1 g2 => absurd g2 (by simp))
  cases r1 with
  | nil => exact key _ _ _ _ ⟨.bl _, H, I, rfl, q⟩
  | cons r rr =>
    rw [more_ne] at key
    exact key _ _ _ _ ⟨.bl _, H, I, rfl, q⟩
theorem op_neT0 (hu : X.A.units + 1 < cLine) : OpR X (compareOp .NotEq) (rEqT0 X.K true) := by
  intro pins s σ H x y v u Q I rx ry h
  obtain ⟨a, b, xs, rfl, rfl, h1, h2, q⟩ := h
  cases rx
  cases ry
  obtain ⟨its, r1, p1, _⟩ := I.tuple h1
  obtain ⟨its2, r2, p2, _⟩ := I.tuple h2
  cases r2
  have key := SeqAt.RcNeAt.tuples (A := X.A) (s := s) (e := fun _ => true) p1 p2 (by omega) (fun j g1 g2 => absurd g2 (by simp))
  cases r1 with
  | nil => exact key _ _ _ _ ⟨.bl _, H, I, rfl, q⟩
  | cons r rr =>
    rw [more_ne] at key
    exact key _ _ _ _ ⟨.bl _, H, I, rfl, q⟩
end
end L2

/-! ### t[lo:hi] of a tuple, the whole of it too -/
namespace L2
open PySem PySem.Spec PyProof.Rows
theorem tuple_whole {prog : Program} {w : World} {A : Around} {E : Value → Shared → Prop} {s : Shared} {t sl : Addr} {items : Array Value} {vl vu : Value} {lo hi : Option Int} {Q : Value → Shared → Prop} (ht : IsTup s.heap t items) (hs : s.heap.IsSliceOf sl vl vu .none) (pl : IsPart vl lo) (pu : IsPart vu hi)
    (w0 : HT.sIx items.size 0 lo = 0) (w1 : HT.sIx items.size items.size hi = items.size) (h : Q (.ref t) s) : wpAny (model prog w) A (getItem (.ref t) (.ref sl)) Q E s := by
  obtain ⟨os, hos, hcs, hds⟩ := id hs
  have hTs : s.TypeIs (.ref sl) "slice" := ⟨os, hos, hcs⟩
  have hT := ht.typeIs
  unfold getItem
  try with_reducible refine wpAny_holding ?_
  first | refine wpAny_bind (wpAny_pure ?_) | skip
  refine wpAny_bind (wpAny_sequenceKey ht.typeIs (by decide) ?_)
  refine wpAny_bind (wpAny_callSpecial?_slot (name := Str.ofString "__getitem__") ht.typeIs PyProof.Rows.slot_tuple_getitem
    (wpAny_call_entry PyProof.Rows.slot_tuple_getitem ht.typeIs entry_tuple_getitem ?_ (args_tuple_getitem _ _)))
  show wpAny _ _ (Builtin.Tuple.tupleItemsOf (.ref t) >>= _) _ _ s
  refine wpAny_bind (tupleItemsOf_ ht ?_)
  refine wpAny_bind (wpAny_typeOf hTs ?_)
  rw [if_pos (by decide)]
  refine wpAny_bind (HT.sliceApplied_gen hs pl pu ?_)
  have hyes : (((HT.sIx items.size 0 lo : Nat) : Int) == 0 && (1 : Int) == 1 && (HT.sIx items.size items.size hi - HT.sIx items.size 0 lo) == items.size) = true := by
    rw [w0, w1]; simp
  show wpAny _ _ (if (((HT.sIx items.size 0 lo : Nat) : Int) == 0 && (1 : Int) == 1 && (HT.sIx items.size items.size hi - HT.sIx items.size 0 lo) == items.size) = true then _ else _) _ _ s
  rw [if_pos hyes]
  refine wpAny_bind (m := Builtin.Tuple.tupleIsExact _) ?_
  unfold Builtin.Tuple.tupleIsExact
  refine wpAny_bind (wpAny_typeOf hT (wpAny_pure ?_))
  rw [if_pos (by decide)]
  exact wpAny_bind (wpAny_rule (wpAny_pure ⟨_, rfl, wpAny_pure h⟩))
section
variable {X : Cx}
/-- t[lo:hi]: the whole of it is t itself -/
def rSlW (K : PySem.W.Frag) : V → Option Int → Option Int → Hp → VK → Prop := fun x lo hi H Q => ∃ a xs, x = .ref a ∧ SqT K H a xs ∧
  ((HT.sIx xs.length 0 lo = 0 ∧ HT.sIx xs.length xs.length hi = xs.length) → Q (.ref a) H) ∧ (¬ (HT.sIx xs.length 0 lo = 0 ∧ HT.sIx xs.length xs.length hi = xs.length) → ∀ p, H p = none → Q (.ref p) (upd H p (.tup (cutV xs lo hi))))
theorem sl_tupW : SlR X (rSlW X.K) := by
  intro pins s σ H x v vl vu lo hi sl Q I rx hs pl pu h
  obtain ⟨a, xs, rfl, hx, q1, q2⟩ := h
  by_cases hw : HT.sIx xs.length 0 lo = 0 ∧ HT.sIx xs.length xs.length hi = xs.length
  · cases rx
    obtain ⟨its, r, ht, hz⟩ := I.tuple hx
    have hlen : its.toArray.size = xs.length := by rw [List.size_toArray]; exact r.length.symm
    refine ⟨"tuple", _, PyProof.Rows.slot_tuple_getitem.lookup, ht.typeIs, ?_⟩
    exact tuple_whole ht hs pl pu (by rw [hlen]; exact hw.1) (by rw [hlen]; exact hw.2) ⟨.ref a, H, I, rfl, q1 hw⟩
  · exact sl_tup pins s σ H _ v vl vu lo hi sl Q I rx hs pl pu ⟨a, xs, rfl, hx, hw, q2 hw⟩
theorem op_neE (hu : X.A.units + 1 < cLine) : OpR X (compareOp .NotEq) (rEqE X.K true) := by
  intro pins s σ H x y v u Q I rx ry h
  obtain ⟨a, b, xs, rfl, rfl, h1, h2, q⟩ := h
  cases rx
  cases ry
  obtain ⟨its, r1, p1, _⟩ := I.list h1
  obtain ⟨its2, r2, p2, _⟩ := I.list h2
  cases r2
  cases r1 with
  | nil =>
    exact SeqAt.RcNeAt.lists (A := X.A) (s := s) (e := fun _ => true) p1.isList p2.isList rfl (by omega) (fun j g1 g2 => absurd g1 (by simp)) _ _ _ _ ⟨.bl _, H, I, rfl, q⟩
  | cons r rr =>
    exact SeqAt.RcNeAt.lists_lengths p1.isList p2.isList (by simp) (by omega) _ _ _ _ ⟨.bl _, H, I, rfl, q⟩
end
end L2



set_option maxHeartbeats 4000000
namespace K12
open PySem L2
def top (i : Nat) : Stmt := PySem.Challenge.pw_stemshelf_k12_what_is_a_block.main.body.getD i (.Pass ⟨0, 0, 0, 0⟩)
abbrev s_is_whole : Stmt := top 1
theorem sc_is_whole : FnScope ["thing"] ["thing"] (defScope s_is_whole) := ⟨rfl, rfl, rfl, by decide +kernel, rfl, by decide +kernel, by decide +kernel⟩
abbrev s_is_between : Stmt := top 2
theorem sc_is_between : FnScope ["thing", "least", "most"] ["thing", "least", "most"] (defScope s_is_between) := ⟨rfl, rfl, rfl, by decide +kernel, rfl, by decide +kernel, by decide +kernel⟩
abbrev s_is_tuple_of : Stmt := top 3
theorem sc_is_tuple_of : FnScope ["thing", "many"] ["thing", "many"] (defScope s_is_tuple_of) := ⟨rfl, rfl, rfl, by decide +kernel, rfl, by decide +kernel, by decide +kernel⟩
abbrev s_is_text : Stmt := top 6
theorem sc_is_text : FnScope ["thing", "least", "most"] ["thing", "least", "most"] (defScope s_is_text) := ⟨rfl, rfl, rfl, by decide +kernel, rfl, by decide +kernel, by decide +kernel⟩
abbrev s_is_name : Stmt := top 22
theorem sc_is_name : FnScope ["thing"] ["thing"] (defScope s_is_name) := ⟨rfl, rfl, rfl, by decide +kernel, rfl, by decide +kernel, by decide +kernel⟩
abbrev s_is_tag : Stmt := top 23
theorem sc_is_tag : FnScope ["thing"] ["thing"] (defScope s_is_tag) := ⟨rfl, rfl, rfl, by decide +kernel, rfl, by decide +kernel, by decide +kernel⟩
abbrev s_is_block : Stmt := top 24
theorem sc_is_block : FnScope ["thing"] ["thing"] (defScope s_is_block) := ⟨rfl, rfl, rfl, by decide +kernel, rfl, by decide +kernel, by decide +kernel⟩
abbrev s_are_row_tags : Stmt := top 25
theorem sc_are_row_tags : FnScope ["thing", "level"] ["thing", "level"] (defScope s_are_row_tags) := ⟨rfl, rfl, rfl, by decide +kernel, rfl, by decide +kernel, by decide +kernel⟩
abbrev s_are_entries : Stmt := top 26
theorem sc_are_entries : FnScope ["thing", "names"] ["thing"] (defScope s_are_entries) := ⟨rfl, rfl, rfl, by decide +kernel, rfl, by decide +kernel, by decide +kernel⟩
abbrev s_is_entry : Stmt := top 27
theorem sc_is_entry : FnScope ["thing"] ["thing"] (defScope s_is_entry) := ⟨rfl, rfl, rfl, by decide +kernel, rfl, by decide +kernel, by decide +kernel⟩
abbrev s__law_numbers : Stmt := top 29
theorem sc__law_numbers : FnScope ["_law_cell", "_law_many", "_law_found", "_law_number", "_law_k"] ["_law_cell", "_law_many"] (defScope s__law_numbers) := ⟨rfl, rfl, rfl, by decide +kernel, rfl, by decide +kernel, by decide +kernel⟩
abbrev s__law_signs : Stmt := top 30
theorem sc__law_signs : FnScope ["_law_some"] [] (defScope s__law_signs) := ⟨rfl, rfl, rfl, by decide +kernel, rfl, by decide +kernel, by decide +kernel⟩
abbrev s__law_tag : Stmt := top 31
theorem sc__law_tag : FnScope ["_law_number", "_law_found"] ["_law_number"] (defScope s__law_tag) := ⟨rfl, rfl, rfl, by decide +kernel, rfl, by decide +kernel, by decide +kernel⟩
abbrev s__law_name : Stmt := top 32
theorem sc__law_name : FnScope ["_law_number", "_law_size", "_law_signs_here"] ["_law_number"] (defScope s__law_name) := ⟨rfl, rfl, rfl, by decide +kernel, rfl, by decide +kernel, by decide +kernel⟩
abbrev s__law_block : Stmt := top 33
theorem sc__law_block : FnScope ["_law_some", "_law_level", "_law_many", "_law_entries", "_law_number"] ["_law_some"] (defScope s__law_block) := ⟨rfl, rfl, rfl, by decide +kernel, rfl, by decide +kernel, by decide +kernel⟩
abbrev s__law_whole_from : Stmt := top 34
theorem sc__law_whole_from : FnScope ["_law_thing", "_law_least", "_law_most"] ["_law_thing", "_law_least", "_law_most"] (defScope s__law_whole_from) := ⟨rfl, rfl, rfl, by decide +kernel, rfl, by decide +kernel, by decide +kernel⟩
abbrev s__law_is_name : Stmt := top 35
theorem sc__law_is_name : FnScope ["_law_thing"] ["_law_thing"] (defScope s__law_is_name) := ⟨rfl, rfl, rfl, by decide +kernel, rfl, by decide +kernel, by decide +kernel⟩
abbrev s__law_is_tag : Stmt := top 36
theorem sc__law_is_tag : FnScope ["_law_thing"] ["_law_thing"] (defScope s__law_is_tag) := ⟨rfl, rfl, rfl, by decide +kernel, rfl, by decide +kernel, by decide +kernel⟩
abbrev s__law_is_entry : Stmt := top 37
theorem sc__law_is_entry : FnScope ["_law_thing"] ["_law_thing"] (defScope s__law_is_entry) := ⟨rfl, rfl, rfl, by decide +kernel, rfl, by decide +kernel, by decide +kernel⟩
abbrev s__law_is_block : Stmt := top 38
theorem sc__law_is_block : FnScope ["_law_thing", "_law_names"] ["_law_thing"] (defScope s__law_is_block) := ⟨rfl, rfl, rfl, by decide +kernel, rfl, by decide +kernel, by decide +kernel⟩
abbrev s__law_other : Stmt := top 39
theorem sc__law_other : FnScope ["_law_some", "_law_thing", "_law_found"] ["_law_some", "_law_thing"] (defScope s__law_other) := ⟨rfl, rfl, rfl, by decide +kernel, rfl, by decide +kernel, by decide +kernel⟩
abbrev s__law_bent : Stmt := top 40
theorem sc__law_bent : FnScope ["_law_thing", "_law_some", "_law_deep", "_law_at", "_law_how"] ["_law_thing", "_law_some", "_law_deep"] (defScope s__law_bent) := ⟨rfl, rfl, rfl, by decide +kernel, rfl, by decide +kernel, by decide +kernel⟩
abbrev s__law_copied : Stmt := top 41
theorem sc__law_copied : FnScope ["_law_thing"] ["_law_thing"] (defScope s__law_copied) := ⟨rfl, rfl, rfl, by decide +kernel, rfl, by decide +kernel, by decide +kernel⟩
abbrev s_law : Stmt := top 42
theorem sc_law : FnScope ["_law_script", "_law_cell", "_law_some", "_law_block_here", "_law_thing", "_law_kept", "_law_found"] ["_law_script"] (defScope s_law) := ⟨rfl, rfl, rfl, by decide +kernel, rfl, by decide +kernel, by decide +kernel⟩
structure Txt (K : PySem.W.Frag) (mg : Str → Option Value) : Prop where
  b_all : mg "all" = none
  b_bool : mg "bool" = none
  b_int : mg "int" = none
  b_isinstance : mg "isinstance" = none
  b_len : mg "len" = none
  b_list : mg "list" = none
  b_max : mg "max" = none
  b_range : mg "range" = none
  b_set : mg "set" = none
  b_sorted : mg "sorted" = none
  b_str : mg "str" = none
  b_tuple : mg "tuple" = none
  c_SIGNS : ∃ t, mg "SIGNS" = some (.str (PySem.Str.ofString " !\"#$&'()*+,-./0123456789:;<=>?@ABCDEFGHIJKLMNOPQRSTUVWXYZ[\\]^_`abcdefghijklmnopqrstuvwxyz{|}~") t)
  c_PIECE : ∃ t, mg "PIECE" = some (.int 0 t)
  c_ROW : ∃ t, mg "ROW" = some (.int 1 t)
  c_FOLDER : ∃ t, mg "FOLDER" = some (.int 2 t)
  c_FILE_ENTRY : ∃ t, mg "FILE_ENTRY" = some (.int 1 t)
  c_FOLDER_ENTRY : ∃ t, mg "FOLDER_ENTRY" = some (.int 2 t)
  c_NAME_SIGNS : ∃ t, mg "NAME_SIGNS" = some (.str (PySem.Str.ofString "0123456789abcdefghijklmnopqrstuvwxyz") t)
  c_MOST_NAME_SIGNS : ∃ t, mg "MOST_NAME_SIGNS" = some (.int 8 t)
  c_MOST_CELL : ∃ t, mg "MOST_CELL" = some (.int 999999 t)
  c_MOST_BIRTH : ∃ t, mg "MOST_BIRTH" = some (.int 999999999 t)
  c_SUM_RESTS : ∃ t, mg "SUM_RESTS" = some (.int 997 t)
  c_MOST_PIECE_SIGNS : ∃ t, mg "MOST_PIECE_SIGNS" = some (.int 8 t)
  c_MOST_LEVEL : ∃ t, mg "MOST_LEVEL" = some (.int 9 t)
  c_MOST_TAGS : ∃ t, mg "MOST_TAGS" = some (.int 8 t)
  c_MOST_ENTRIES : ∃ t, mg "MOST_ENTRIES" = some (.int 16 t)
abbrev SG : Str := PySem.Str.ofString " !\"#$&'()*+,-./0123456789:;<=>?@ABCDEFGHIJKLMNOPQRSTUVWXYZ[\\]^_`abcdefghijklmnopqrstuvwxyz{|}~"
theorem sg_len : SG.cps.toList.length = 94 := by decide +kernel
theorem sg_len2 : SG.length ≤ sizeLine := small (by decide +kernel)
theorem sg_find : ∀ k : Nat, k < 94 → PySem.Txt.find SG ⟨#[SG.cps.toList.getD k 0]⟩ = (k : Int) := by decide +kernel
theorem sg_at {i : Int} (h0 : 0 ≤ i) (h1 : i < 94) : atI SG.cps.toList i = some (SG.cps.toList.getD i.toNat 0) := by
  have hk : i.toNat < SG.cps.toList.length := by rw [sg_len]; omega
  have q : atI SG.cps.toList ((i.toNat : Nat) : Int) = some (SG.cps.toList.getD i.toNat 0) := atI_nat (by rw [List.getElem?_eq_getElem hk]; simp only [List.getD, List.getElem?_eq_getElem hk, Option.getD_some])
  have ek : ((i.toNat : Nat) : Int) = i := by omega
  rw [ek] at q
  exact q
section
variable {P : Program} {w : World} {K : PySem.W.Frag} {mg : Str → Option Value} {base : Heap} {f : Addr} {fd : FuncData}
def sp__law_numbers (K : PySem.W.Frag) : Sp := fun vs H Q _ => ∃ (c m : Int), vs = [.int c, .int m] ∧ 0 ≤ m ∧ m ≤ 1000 ∧
  ∀ (r : Addr) (H' : Hp) (ns : List Int), Same H H' → H r = none → H' r = some (.lst (ns.map V.int)) → ns.length = m.toNat → (∀ x ∈ ns, 0 ≤ x ∧ x < 2147483647) → Q (.ref r) H'
theorem ok__law_numbers (T : Txt K mg) (F : Fun K "_law_numbers" "_law_numbers" s__law_numbers f fd) : FnOk P w K mg base CX0 1 f fd ["_law_cell", "_law_many"] (sp__law_numbers K) := by
  refine F.ok sc__law_numbers (fun vs H Q E h => ?_) (fun cdv A outer s H vs Q E hr h => ?_)
  · obtain ⟨c, m, rfl, _⟩ := h
    rfl
  obtain ⟨c, m, rfl, hm0, hm1, q⟩ := h
  refine ⟨_, (@pss_cons _ _ _ _ _ (@ps_set _ _ (2) _ _ _ _ sc__law_numbers.nd rfl (by first | exact Or.inl rfl | exact Or.inr rfl) (@pe_lst _ _ _ _ (@pa_nil _)) (by rfl) (by first | exact .inl rfl | exact .inr rfl | assumption)) (@pss_cons _ _ _ _ _ (@ps_set _ _ (3) _ _ _ _ sc__law_numbers.nd rfl (by first | exact Or.inl rfl | exact Or.inr rfl) (@pe_op _ _ _ _ _ _ _ _ op_sub (@pv _ 0 _ _ (by rfl) (by first | exact Or.inl rfl | exact Or.inr (Or.inl rfl) | exact Or.inr (Or.inr rfl)) (by decide) (by decide)) (@pe_op _ _ _ _ _ _ _ _ op_pow (@pe_int _ _ _ _) (@pe_int _ _ _ _))) (by rfl) (by first | exact .inl rfl | exact .inr rfl | assumption)) (@pss_cons _ _ _ _ _ (@ps_if _ _ _ _ _ _ _ _ (@pt_cmpR _ _ _ _ _ _ _ _ op_ge (@pv _ 3 _ _ (by rfl) (by first | exact Or.inl rfl | exact Or.inr (Or.inl rfl) | exact Or.inr (Or.inr rfl)) (by decide) (by decide)) (@pe_int _ _ _ _) (nomark _)) (@pss_cons _ _ _ _ _ (@ps_for _ _ _ _ _ _ _ _ PassesOwn.never rfl (@pi_range1 _ _ _ _ _ _ rfl T.b_range (@pa_cons _ _ _ _ _ (@pv _ 1 _ _ (by rfl) (by first | exact Or.inl rfl | exact Or.inr (Or.inl rfl) | exact Or.inr (Or.inr rfl)) (by decide) (by decide)) (@pa_nil _) (by rfl)) (by rfl)) (@pg_name _ _ (4) _ sc__law_numbers.nd rfl (by first | exact Or.inl rfl | exact Or.inr rfl) (by first | exact .inl rfl | exact .inr rfl | assumption)) (@pss_cons _ _ _ _ _ (@ps_expr _ _ _ _ (@pe_bm _ _ _ _ _ _ _ _ _ _ _ _ PySem.F.plainAttrs_list PySem.F.slot_list_append PySem.F.type_list_append mt_append (@pv _ 2 _ _ (by rfl) (by first | exact Or.inl rfl | exact Or.inr (Or.inl rfl) | exact Or.inr (Or.inr rfl)) (by decide) (by decide)) (@pa_cons _ _ _ _ _ (@pe_op _ _ _ _ _ _ _ _ op_mod (@pv _ 3 _ _ (by rfl) (by first | exact Or.inl rfl | exact Or.inr (Or.inl rfl) | exact Or.inr (Or.inr rfl)) (by decide) (by decide)) (@pe_int _ _ _ _)) (@pa_nil _) (by rfl)) (by rfl) (by rfl) (by rfl) (by rfl) (by rfl)) (by rfl)) (@pss_one _ _ _ (@ps_set _ _ (3) _ _ _ _ sc__law_numbers.nd rfl (by first | exact Or.inl rfl | exact Or.inr rfl) (@pe_op _ _ _ _ _ _ _ _ op_fdiv (@pv _ 3 _ _ (by rfl) (by first | exact Or.inl rfl | exact Or.inr (Or.inl rfl) | exact Or.inr (Or.inr rfl)) (by decide) (by decide)) (@pe_int _ _ _ _)) (by rfl) (by first | exact .inl rfl | exact .inr rfl | assumption)))) (by intro _; rfl)) (@pss_one _ _ _ (@ps_ret _ _ _ _ (@pv _ 2 _ _ (by rfl) (by first | exact Or.inl rfl | exact Or.inr (Or.inl rfl) | exact Or.inr (Or.inr rfl)) (by decide) (by decide))))) (@pss_nil _)) (@pss_cons _ _ _ _ _ (@ps_set _ _ (3) _ _ _ _ sc__law_numbers.nd rfl (by first | exact Or.inl rfl | exact Or.inr rfl) (@pe_op _ _ _ _ _ _ _ _ op_mod (@pv _ 0 _ _ (by rfl) (by first | exact Or.inl rfl | exact Or.inr (Or.inl rfl) | exact Or.inr (Or.inr rfl)) (by decide) (by decide)) (@pe_int _ _ _ _)) (by rfl) (by first | exact .inl rfl | exact .inr rfl | assumption)) (@pss_cons _ _ _ _ _ (@ps_for _ _ _ _ _ _ _ _ PassesOwn.never rfl (@pi_range1 _ _ _ _ _ _ rfl T.b_range (@pa_cons _ _ _ _ _ (@pe_op _ _ _ _ _ _ _ _ op_add (@pv _ 1 _ _ (by rfl) (by first | exact Or.inl rfl | exact Or.inr (Or.inl rfl) | exact Or.inr (Or.inr rfl)) (by decide) (by decide)) (@pe_int _ _ _ _)) (@pa_nil _) (by rfl)) (by rfl)) (@pg_name _ _ (4) _ sc__law_numbers.nd rfl (by first | exact Or.inl rfl | exact Or.inr rfl) (by first | exact .inl rfl | exact .inr rfl | assumption)) (@pss_cons _ _ _ _ _ (@ps_set _ _ (3) _ _ _ _ sc__law_numbers.nd rfl (by first | exact Or.inl rfl | exact Or.inr rfl) (@pe_op _ _ _ _ _ _ _ _ op_mod (@pe_op _ _ _ _ _ _ _ _ op_mul (@pe_op _ _ _ _ _ _ _ _ op_add (@pe_op _ _ _ _ _ _ _ _ op_add (@pv _ 3 _ _ (by rfl) (by first | exact Or.inl rfl | exact Or.inr (Or.inl rfl) | exact Or.inr (Or.inr rfl)) (by decide) (by decide)) (@pv _ 4 _ _ (by rfl) (by first | exact Or.inl rfl | exact Or.inr (Or.inl rfl) | exact Or.inr (Or.inr rfl)) (by decide) (by decide))) (@pe_int _ _ _ _)) (@pe_int _ _ _ _)) (@pe_int _ _ _ _)) (by rfl) (by first | exact .inl rfl | exact .inr rfl | assumption)) (@pss_one _ _ _ (@ps_expr _ _ _ _ (@pe_bm _ _ _ _ _ _ _ _ _ _ _ _ PySem.F.plainAttrs_list PySem.F.slot_list_append PySem.F.type_list_append mt_append (@pv _ 2 _ _ (by rfl) (by first | exact Or.inl rfl | exact Or.inr (Or.inl rfl) | exact Or.inr (Or.inr rfl)) (by decide) (by decide)) (@pa_cons _ _ _ _ _ (@pe_op _ _ _ _ _ _ _ _ op_mod (@pe_op _ _ _ _ _ _ _ _ op_mul (@pv _ 3 _ _ (by rfl) (by first | exact Or.inl rfl | exact Or.inr (Or.inl rfl) | exact Or.inr (Or.inr rfl)) (by decide) (by decide)) (@pe_int _ _ _ _)) (@pe_int _ _ _ _)) (@pa_nil _) (by rfl)) (by rfl) (by rfl) (by rfl) (by rfl) (by rfl)) (by rfl)))) (by intro _; rfl)) (@pss_one _ _ _ (@ps_ret _ _ _ _ (@pe_slice _ _ _ _ _ _ _ _ _ _ sl_list (@pv _ 2 _ _ (by rfl) (by first | exact Or.inl rfl | exact Or.inr (Or.inl rfl) | exact Or.inr (Or.inr rfl)) (by decide) (by decide)) (@po_some _ _ _ (@pe_int _ _ _ _)) (@po_none _))))))))), ?_⟩
  refine ⟨small (by show 0 ≤ 1000000; decide), fun g hg => ?_⟩
  refine ⟨_, rfl, _, _, rfl, rfl, ⟨by decide, by decide, by decide⟩, _, _, rfl, rfl, ?_⟩
  refine ⟨_, rfl, _, _, rfl, rfl, _, rfl, ?_⟩
  refine ite2 (fun c1 => ?_) (fun c1 => ?_)
  · refine ⟨_, rfl, m, rfl, by omega, by omega, for_range (lo := 0) (n := m.toNat) (fun i σ H2 => ∃ (ns : List Int) (z : Int) (v : Option V), σ = [some (.int c), some (.int m), some (.ref g), some (.int z), v] ∧ Same H H2 ∧ H2 g = some (.lst (ns.map V.int)) ∧ ns.length = i ∧ ∀ x ∈ ns, 0 ≤ x ∧ x < 2147483647)
      ⟨[], _, none, rfl, same_new hg _, upd_same, rfl, fun _ h => nomatch h⟩ ?_ ?_⟩
    · rintro i σ H2 hi ⟨ns, z, v, rfl, s2, hg2, hl, hb⟩
      refine ⟨_, rfl, .inl ⟨rfl, _, SqL.of hg2⟩, _, rfl, _, _, rfl, rfl, (by show (0 : Int) < 5040; decide), g, _, _, rfl, rfl, hg2, smallLt (by rw [List.length_map]; omega), ?_⟩
      refine ⟨_, rfl, _, _, rfl, rfl, ⟨by decide, by decide⟩, ?_⟩
      refine ⟨ns ++ [z % 5040], _, _, rfl, same_upd s2 hg _, ?_, ?_, fun x hx => ?_⟩
      · rw [upd_same, List.map_append]; rfl
      · rw [List.length_append, hl]; rfl
      · rcases List.mem_append.mp hx with hx | hx
        · exact hb x hx
        · rw [List.mem_singleton.mp hx]; omega
    · rintro σ H2 ⟨ns, z, v, rfl, s2, hg2, hl, hb⟩
      exact ⟨_, rfl, q g _ ns s2 hg hg2 hl hb⟩
  · refine ⟨_, rfl, _, _, rfl, rfl, (by show (0 : Int) < 2147483647; decide), ?_⟩
    refine ⟨_, rfl, _, _, rfl, rfl, m + 1, rfl, by omega, by omega, for_range (lo := 0) (n := (m + 1).toNat) (fun i σ H2 => ∃ (ns : List Int) (z : Int) (v : Option V), σ = [some (.int c), some (.int m), some (.ref g), some (.int z), v] ∧ Same H H2 ∧ H2 g = some (.lst (ns.map V.int)) ∧ ns.length = i ∧ ∀ x ∈ ns, 0 ≤ x ∧ x < 2147483647)
      ⟨[], _, none, rfl, same_new hg _, upd_same, rfl, fun _ h => nomatch h⟩ ?_ ?_⟩
    · rintro i σ H2 hi ⟨ns, z, v, rfl, s2, hg2, hl, hb⟩
      refine ⟨_, rfl, _, rfl, _, _, rfl, rfl, _, _, rfl, rfl, _, _, rfl, rfl, .inr ⟨by decide, by decide⟩, _, _, rfl, rfl, (by show (0 : Int) < 2147483647; decide), ?_⟩
      refine ⟨_, rfl, .inl ⟨rfl, _, SqL.of hg2⟩, _, rfl, _, _, rfl, rfl, .inr ⟨by decide, by decide⟩, _, _, rfl, rfl, (by show (0 : Int) < 2147483629; decide), g, _, _, rfl, rfl, hg2, smallLt (by rw [List.length_map]; omega), ?_⟩
      refine ⟨ns ++ [(z + (0 + (i : Int)) + 1) * 48271 % 2147483647 * 69621 % 2147483629], _, _, rfl, same_upd s2 hg _, ?_, ?_, fun x hx => ?_⟩
      · rw [upd_same, List.map_append]; rfl
      · rw [List.length_append, hl]; rfl
      · rcases List.mem_append.mp hx with hx | hx
        · exact hb x hx
        · rw [List.mem_singleton.mp hx]; omega
    · rintro σ H2 ⟨ns, z, v, rfl, s2, hg2, hl, hb⟩
      refine ⟨_, rfl, _, rfl, g, _, rfl, SqL.of hg2, fun p hp => ?_⟩
      refine q p _ (ns.drop 1) (s2.trans (same_new hp _)) (s2.free hp) ?_ ?_ fun x hx => hb x (List.mem_of_mem_drop hx)
      · rw [upd_same, cut_lo (by decide), List.map_drop]; rfl
      · rw [List.length_drop, hl]; omega
def sp__law_signs (K : PySem.W.Frag) : Sp := fun vs H Q _ => vs = [] ∧ Q (.str SG) H
theorem ok__law_signs (T : Txt K mg) (F : Fun K "_law_signs" "_law_signs" s__law_signs f fd) : FnOk P w K mg base CX0 1 f fd [] (sp__law_signs K) := by
  refine F.ok sc__law_signs (fun vs H Q E h => ?_) (fun cdv A outer s H vs Q E hr h => ?_)
  · obtain ⟨rfl, _⟩ := h
    rfl
  obtain ⟨rfl, q⟩ := h
  refine ⟨_, (@pss_cons _ _ _ _ _ (@ps_set _ _ (0) _ _ _ _ sc__law_signs.nd rfl (by first | exact Or.inl rfl | exact Or.inr rfl) (@pe_str _ _ _ _) (by rfl) (by first | exact .inl rfl | exact .inr rfl | assumption)) (@pss_one _ _ _ (@ps_ret _ _ _ _ (@pe_op _ _ _ _ _ _ _ _ op_add_str (@pv _ 0 _ _ (by rfl) (by first | exact Or.inl rfl | exact Or.inr (Or.inl rfl) | exact Or.inr (Or.inr rfl)) (by decide) (by decide)) (@pe_str _ _ _ _))))), ?_⟩
  refine ⟨_, rfl, _, _, rfl, rfl, small (by decide +kernel), ?_⟩
  have e : (PySem.Str.ofString " !\"#$&'()*+,-./0123456789:;<=>?@ABCDEFGHIJKLMNOPQRSTUVWXYZ[\\]^_`" ++ PySem.Str.ofString "abcdefghijklmnopqrstuvwxyz{|}~") = SG := by decide +kernel
  rw [e]
  exact q
def sp_is_whole (K : PySem.W.Frag) : Sp := fun vs H Q _ => ∃ v, vs = [v] ∧ Ok H v ∧ Q (.bl (wholeB H v)) H
theorem ok_is_whole (T : Txt K mg) (F : Fun K "is_whole" "is_whole" s_is_whole f fd) : FnOk P w K mg base CX0 1 f fd ["thing"] (sp_is_whole K) := by
  refine F.ok sc_is_whole (fun vs H Q E h => ?_) (fun cdv A outer s H vs Q E hr h => ?_)
  · obtain ⟨c, rfl, _⟩ := h
    rfl
  obtain ⟨v, rfl, ok, q⟩ := h
  refine ⟨_, (@pss_one _ _ _ (@ps_ret _ _ _ _ (@pe_and _ _ _ _ _ _ _ (@pe_callB _ _ _ _ _ _ _ _ _ call_isinst (by rfl) T.b_isinstance bt_isinstance (@pa_cons _ _ _ _ _ (@pv _ 0 _ _ (by rfl) (by first | exact Or.inl rfl | exact Or.inr (Or.inl rfl) | exact Or.inr (Or.inr rfl)) (by decide) (by decide)) (@pa_cons _ _ _ _ _ (@pe_ty _ _ _ _ rfl T.b_int bt_int (by decide) (by decide)) (@pa_nil _) (by rfl)) (by rfl)) (by decide) (by decide) (by rfl) (by rfl)) (@pe_one _ _ _ _ _ (@pe_not _ _ _ _ (@pe_callB _ _ _ _ _ _ _ _ _ call_isinst (by rfl) T.b_isinstance bt_isinstance (@pa_cons _ _ _ _ _ (@pv _ 0 _ _ (by rfl) (by first | exact Or.inl rfl | exact Or.inr (Or.inl rfl) | exact Or.inr (Or.inr rfl)) (by decide) (by decide)) (@pa_cons _ _ _ _ _ (@pe_ty _ _ _ _ rfl T.b_bool bt_bool (by decide) (by decide)) (@pa_nil _) (by rfl)) (by rfl)) (by decide) (by decide) (by rfl) (by rfl))))))), ?_⟩
  exact tAndV_p _ _ (fun R q => ⟨_, rfl, _, _, _, _, rfl, ok.ty K, ok.kit K, q⟩) (fun _ R q => ⟨_, rfl, _, _, _, _, rfl, ok.ty K, ok.kit K, _, rfl, q⟩) q
def sp_is_between (K : PySem.W.Frag) : Sp := fun vs H Q _ => ∃ v a b, vs = [v, .int a, .int b] ∧ Ok H v ∧ Q (.bl (betw a b v)) H
theorem ok_is_between (T : Txt K mg) (F : Fun K "is_between" "is_between" s_is_between f fd) (D_is_whole : Def P w K mg base 1 "is_whole" ["thing"] (sp_is_whole K)) : FnOk P w K mg base CX0 2 f fd ["thing", "least", "most"] (sp_is_between K) := by
  refine F.ok sc_is_between (fun vs H Q E h => ?_) (fun cdv A outer s H vs Q E hr h => ?_)
  · obtain ⟨v, a, b, rfl, _⟩ := h
    rfl
  obtain ⟨v, a, b, rfl, ok, q⟩ := h
  refine ⟨_, (@pss_one _ _ _ (@ps_ret _ _ _ _ (@pe_and _ _ _ _ _ _ _ (@pe_fn _ _ _ _ _ _ _ _ _ _ D_is_whole (hr.mono (by decide)) rfl (@pa_cons _ _ _ _ _ (@pv _ 0 _ _ (by rfl) (by first | exact Or.inl rfl | exact Or.inr (Or.inl rfl) | exact Or.inr (Or.inr rfl)) (by decide) (by decide)) (@pa_nil _) (by rfl)) (by decide) (by rfl) (by rfl)) (@pe_one _ _ _ _ _ (@pe_chain _ _ _ _ _ _ _ _ _ _ _ _ op_le op_le (@pv _ 1 _ _ (by rfl) (by first | exact Or.inl rfl | exact Or.inr (Or.inl rfl) | exact Or.inr (Or.inr rfl)) (by decide) (by decide)) (@pv _ 0 _ _ (by rfl) (by first | exact Or.inl rfl | exact Or.inr (Or.inl rfl) | exact Or.inr (Or.inr rfl)) (by decide) (by decide)) (@pv _ 2 _ _ (by rfl) (by first | exact Or.inl rfl | exact Or.inr (Or.inl rfl) | exact Or.inr (Or.inr rfl)) (by decide) (by decide)) (by with_unfolding_all rfl)))))), ?_⟩
  refine tAndV_p (wholeB H v) (betw a b v) (fun R q => ⟨_, rfl, v, rfl, ok, q⟩) (fun hw R q => ?_) ?_
  · obtain ⟨i, rfl⟩ := whole_of ok hw
    refine ⟨_, rfl, _, rfl, _, _, rfl, rfl, _, rfl, ?_⟩
    refine ite2 (fun c => ?_) (fun c => ?_)
    · have e : betw a b (.int i) = decide (i ≤ b) := by show (decide (a ≤ i) && decide (i ≤ b)) = _; rw [c]; rfl
      rw [e] at q
      exact ⟨_, rfl, _, _, rfl, rfl, q⟩
    · have e : betw a b (.int i) = false := by show (decide (a ≤ i) && decide (i ≤ b)) = _; rw [Bool.eq_false_iff.mpr c]; rfl
      rw [e] at q
      exact q
  · cases hw : wholeB H v with
    | true => exact q
    | false => rw [betw_eq hw] at q; exact q
def allIn (t : Str) (z : Str) : Bool := (cod z).all fun c => decide (c ∈ cod t)
def textB (a b : Int) : V → Bool
  | .str z => decide (a ≤ (z.length : Int)) && decide ((z.length : Int) ≤ b) && allIn SG z
  | _ => false
theorem textB_no {H : Hp} {v : V} {a b : Int} (h : isA (tyN H v) "str" = false) : textB a b v = false := by
  cases v with
  | str z => exact absurd (show isA "str" "str" = false from h) (by decide)
  | _ => rfl
def sp_is_text (K : PySem.W.Frag) : Sp := fun vs H Q _ => ∃ v a b, vs = [v, .int a, .int b] ∧ Ok H v ∧ ∀ H', Same H H' → Q (.bl (textB a b v)) H'
theorem signs_all (t z : Str) : ((cod z).map fun c => V.str ⟨#[c]⟩).map (fun v => match v with | V.str y => V.bl (!(Builtin.Str.occurrences t y 0 t.length 1).isEmpty) | _ => V.non) = ((cod z).map fun c => decide (c ∈ cod t)).map V.bl := by
  rw [List.map_map, List.map_map]
  refine List.map_congr_left fun c _ => ?_
  show V.bl (!(Builtin.Str.occurrences t ⟨#[c]⟩ 0 t.length 1).isEmpty) = V.bl (decide (c ∈ cod t))
  rw [PySem.StrLaws.found_one]
theorem ok_is_text (T : Txt K mg) (F : Fun K "is_text" "is_text" s_is_text f fd) : FnOk P w K mg base CX0 1 f fd ["thing", "least", "most"] (sp_is_text K) := by
  refine F.ok sc_is_text (fun vs H Q E h => ?_) (fun cdv A outer s H vs Q E hr h => ?_)
  · obtain ⟨v, a, b, rfl, _⟩ := h
    rfl
  obtain ⟨v, a, b, rfl, ok, q⟩ := h
  refine ⟨_, (@pss_cons _ _ _ _ _ (@ps_if _ _ _ _ _ _ _ _ (@PW.pt _ _ _ (@pw_or _ _ _ _ _ _ _ (@pt_not _ _ _ _ (@pt_val _ _ _ (@pe_callB _ _ _ _ _ _ _ _ _ call_isinst (by rfl) T.b_isinstance bt_isinstance (@pa_cons _ _ _ _ _ (@pv _ 0 _ _ (by rfl) (by first | exact Or.inl rfl | exact Or.inr (Or.inl rfl) | exact Or.inr (Or.inr rfl)) (by decide) (by decide)) (@pa_cons _ _ _ _ _ (@pe_ty _ _ _ _ rfl T.b_str bt_str (by decide) (by decide)) (@pa_nil _) (by rfl)) (by rfl)) (by decide) (by decide) (by rfl) (by rfl)) (by intro _; rfl))) (@pw_or1 _ _ _ _ (@pt_not _ _ _ _ (@pt_chain _ _ _ _ _ _ _ _ _ _ _ _ op_le op_le (@pv _ 1 _ _ (by rfl) (by first | exact Or.inl rfl | exact Or.inr (Or.inl rfl) | exact Or.inr (Or.inr rfl)) (by decide) (by decide)) (@pe_callB _ _ _ _ _ _ _ _ _ call_len_str (by rfl) T.b_len bt_len (@pa_cons _ _ _ _ _ (@pv _ 0 _ _ (by rfl) (by first | exact Or.inl rfl | exact Or.inr (Or.inl rfl) | exact Or.inr (Or.inr rfl)) (by decide) (by decide)) (@pa_nil _) (by rfl)) (by decide) (by decide) (by rfl) (by rfl)) (@pv _ 2 _ _ (by rfl) (by first | exact Or.inl rfl | exact Or.inr (Or.inl rfl) | exact Or.inr (Or.inr rfl)) (by decide) (by decide)) (by with_unfolding_all rfl)))))) (@pss_one _ _ _ (@ps_ret _ _ _ _ (@pe_bl _ _ _ _))) (@pss_nil _)) (@pss_one _ _ _ (@ps_ret _ _ _ _ (@pe_callB _ _ _ _ _ _ _ _ _ (call_all rfl) (by rfl) T.b_all bt_all (@pa_cons _ _ _ _ _ (@pe_comp0 _ ["sign"] _ _ _ _ _ _ _ _ _ _ rfl (@pi_str _ _ _ _ (@pv _ 0 _ _ (by rfl) (by first | exact Or.inl rfl | exact Or.inr (Or.inl rfl) | exact Or.inr (Or.inr rfl)) (by decide) (by decide))) (by decide +kernel) (fun C s H fp => ⟨(@pg_name _ _ (0) _ (show (["sign"] : List Str).Nodup by decide +kernel) rfl (by first | exact Or.inl rfl | exact Or.inr rfl) (by first | exact .inl rfl | exact .inr rfl | assumption)), (@pifs_nil _), (@pe_cmpR _ _ _ _ _ _ _ _ op_in_str (@pv _ 0 _ _ (by rfl) (by first | exact Or.inl rfl | exact Or.inr (Or.inl rfl) | exact Or.inr (Or.inr rfl)) (by decide) (by decide)) (@pe_globS _ _ _ _ rfl T.c_SIGNS (by decide)) rfl)⟩) (by intro _; rfl)) (@pa_nil _) (by rfl)) (by decide) (by decide) (by rfl) (by rfl))))), ?_⟩
  refine ⟨_, rfl, _, _, _, _, rfl, ok.ty K, ok.kit K, _, rfl, ?_⟩
  cases hw : isA (tyN H v) "str" with
  | false =>
    refine iteTc rfl ?_
    have := q H (Same.refl _)
    rw [textB_no hw] at this
    exact this
  | true =>
    refine iteFc rfl ?_
    obtain ⟨z, rfl, hz⟩ := str_of ok hw
    have zl := cod_len z
    refine ⟨_, rfl, _, rfl, _, rfl, small (by omega), _, _, rfl, rfl, _, rfl, ?_⟩
    refine ite2 (fun c => ?_) (fun c => ?_)
    · refine ⟨_, rfl, _, _, rfl, rfl, _, rfl, ?_⟩
      refine ite2 (fun d => ?_) (fun d => ?_)
      · have d' : decide ((z.length : Int) ≤ b) = false := by simpa using d
        have e : textB a b (.str z) = false := by show (decide (a ≤ (z.length : Int)) && decide ((z.length : Int) ≤ b) && allIn SG z) = _; rw [d', Bool.and_false]; rfl
        have := q H (Same.refl _)
        rw [e] at this
        exact this
      · have d' : decide ((z.length : Int) ≤ b) = true := by simpa using d
        refine ⟨_, rfl, z, rfl, ?_⟩
        refine comp_map (fun v => match v with | .str y => .bl (!(Builtin.Str.occurrences SG y 0 SG.length 1).isEmpty) | _ => .non) itIs_str (by rw [List.length_map]; exact Nat.le_trans (Nat.le_of_eq zl) (by omega)) (fun x H' R hx s' hR => ?_) fun l H7 n7 s7 h7 => ?_
        · obtain ⟨u, _, rfl⟩ := List.mem_map.mp hx
          exact ⟨_, rfl, _, _, rfl, rfl, hR H' (Same.refl _)⟩
        rw [signs_all] at h7
        refine ⟨l, _, rfl, SqL.of h7, ?_⟩
        have e : textB a b (.str z) = ((cod z).map fun c => decide (c ∈ cod SG)).all id := by
          show (decide (a ≤ (z.length : Int)) && decide ((z.length : Int) ≤ b) && allIn SG z) = _; unfold allIn; rw [c, d', List.all_map]; rfl
        have := q H7 s7
        rw [e] at this
        exact this
    · have c' : decide (a ≤ (z.length : Int)) = false := Bool.eq_false_iff.mpr c
      have e : textB a b (.str z) = false := by show (decide (a ≤ (z.length : Int)) && decide ((z.length : Int) ≤ b) && allIn SG z) = _; rw [c', Bool.false_and]; rfl
      have := q H (Same.refl _)
      rw [e] at this
      exact ⟨_, rfl, this⟩
theorem filter_all (t z : Str) : decide (((((cod z).map fun c => V.str ⟨#[c]⟩).filter fun v => match v with | V.str y => !(!(Builtin.Str.occurrences t y 0 t.length 1).isEmpty) | _ => false).map fun v => v) = []) = allIn t z := by
  rw [Bool.eq_iff_iff, decide_eq_true_eq, List.map_eq_nil_iff, List.filter_eq_nil_iff]
  unfold allIn
  rw [List.all_eq_true]
  constructor
  · intro h c hc
    have q := h (V.str ⟨#[c]⟩) (List.mem_map.mpr ⟨c, hc, rfl⟩)
    have q' : ¬ (!(!(Builtin.Str.occurrences t ⟨#[c]⟩ 0 t.length 1).isEmpty)) = true := q
    rw [PySem.StrLaws.found_one] at q'
    simpa using q'
  · intro h v hv
    obtain ⟨c, hc, rfl⟩ := List.mem_map.mp hv
    show ¬ (!(!(Builtin.Str.occurrences t ⟨#[c]⟩ 0 t.length 1).isEmpty)) = true
    rw [PySem.StrLaws.found_one]
    simpa using h c hc
theorem signs_pure (z : Str) (p : V → Bool) : ((((cod z).map fun c => V.str ⟨#[c]⟩).filter p).map fun v => v).all pureV = true := by
  rw [List.all_eq_true]
  intro v hv
  rw [List.map_id'] at hv
  obtain ⟨c, _, rfl⟩ := List.mem_map.mp (List.mem_filter.mp hv).1
  rfl
abbrev NS : Str := PySem.Str.ofString "0123456789abcdefghijklmnopqrstuvwxyz"
abbrev LN : Str := PySem.Str.ofString "abcdefghijklmnopqrstuvwxyz0123456789"
theorem ns_ln : (∀ c ∈ cod NS, c ∈ cod LN) ∧ ∀ c ∈ cod LN, c ∈ cod NS ∧ c ∈ cod SG := by decide +kernel
def nameB : V → Bool
  | .str z => decide ((1 : Int) ≤ z.length) && decide ((z.length : Int) ≤ 8) && allIn LN z
  | _ => false
theorem allIn_two (z : Str) : (allIn SG z && allIn NS z) = allIn LN z := by
  unfold allIn
  rw [Bool.eq_iff_iff, Bool.and_eq_true, List.all_eq_true, List.all_eq_true, List.all_eq_true]
  simp only [decide_eq_true_eq]
  exact ⟨fun h c hc => ns_ln.1 c (h.2 c hc), fun h => ⟨fun c hc => (ns_ln.2 c (h c hc)).2, fun c hc => (ns_ln.2 c (h c hc)).1⟩⟩
theorem name_text (v : V) : nameB v = match v with | .str z => textB 1 8 v && allIn NS z | _ => false := by
  cases v with
  | str z =>
    show (decide ((1 : Int) ≤ z.length) && decide ((z.length : Int) ≤ 8) && allIn LN z) = ((decide ((1 : Int) ≤ (z.length : Int)) && decide ((z.length : Int) ≤ 8) && allIn SG z) && allIn NS z)
    rw [← allIn_two z]
    simp only [Bool.and_assoc]
  | _ => rfl
def sp_is_name (K : PySem.W.Frag) : Sp := fun vs H Q _ => ∃ v, vs = [v] ∧ Ok H v ∧ ∀ H', Same H H' → Q (.bl (nameB v)) H'
theorem ok_is_name (T : Txt K mg) (F : Fun K "is_name" "is_name" s_is_name f fd) (D_is_text : Def P w K mg base 1 "is_text" ["thing", "least", "most"] (sp_is_text K)) : FnOk P w K mg base CX0 2 f fd ["thing"] (sp_is_name K) := by
  refine F.ok sc_is_name (fun vs H Q E h => ?_) (fun cdv A outer s H vs Q E hr h => ?_)
  · obtain ⟨v, rfl, _⟩ := h
    rfl
  obtain ⟨v, rfl, ok, q⟩ := h
  refine ⟨_, (@pss_one _ _ _ (@ps_ret _ _ _ _ (@pe_and _ _ _ _ _ _ _ (@pe_fn _ _ _ _ _ _ _ _ _ _ D_is_text (hr.mono (by decide)) rfl (@pa_cons _ _ _ _ _ (@pv _ 0 _ _ (by rfl) (by first | exact Or.inl rfl | exact Or.inr (Or.inl rfl) | exact Or.inr (Or.inr rfl)) (by decide) (by decide)) (@pa_cons _ _ _ _ _ (@pe_int _ _ _ _) (@pa_cons _ _ _ _ _ (@pe_globI _ _ _ _ rfl T.c_MOST_NAME_SIGNS (by decide)) (@pa_nil _) (by rfl)) (by rfl)) (by rfl)) (by decide) (by rfl) (by rfl)) (@pe_one _ _ _ _ _ (@pe_callB _ _ _ _ _ _ _ _ _ (call_all rfl) (by rfl) T.b_all bt_all (@pa_cons _ _ _ _ _ (@pe_comp0 _ ["sign"] _ _ _ _ _ _ _ _ _ _ rfl (@pi_str _ _ _ _ (@pv _ 0 _ _ (by rfl) (by first | exact Or.inl rfl | exact Or.inr (Or.inl rfl) | exact Or.inr (Or.inr rfl)) (by decide) (by decide))) (by decide +kernel) (fun C s H fp => ⟨(@pg_name _ _ (0) _ (show (["sign"] : List Str).Nodup by decide +kernel) rfl (by first | exact Or.inl rfl | exact Or.inr rfl) (by first | exact .inl rfl | exact .inr rfl | assumption)), (@pifs_nil _), (@pe_cmpR _ _ _ _ _ _ _ _ op_in_str (@pv _ 0 _ _ (by rfl) (by first | exact Or.inl rfl | exact Or.inr (Or.inl rfl) | exact Or.inr (Or.inr rfl)) (by decide) (by decide)) (@pe_globS _ _ _ _ rfl T.c_NAME_SIGNS (by decide)) rfl)⟩) (by intro _; rfl)) (@pa_nil _) (by rfl)) (by decide) (by decide) (by rfl) (by rfl)))))), ?_⟩
  refine ⟨_, rfl, v, 1, 8, rfl, ok, fun H1 s1 => ⟨_, rfl, ?_⟩⟩
  have en := name_text v
  refine ite2 (fun c => ?_) (fun c => ?_)
  · cases v with
    | str z =>
      have hz : z.length ≤ 1000 := ok
      have zl := cod_len z
      refine ⟨_, rfl, z, rfl, ?_⟩
      refine comp_map (fun v => match v with | .str y => .bl (!(Builtin.Str.occurrences NS y 0 NS.length 1).isEmpty) | _ => .non) itIs_str (by rw [List.length_map]; exact Nat.le_trans (Nat.le_of_eq zl) (by omega)) (fun x H' R hx s' hR => ?_) fun l H7 n7 s7 h7 => ?_
      · obtain ⟨u, _, rfl⟩ := List.mem_map.mp hx
        exact ⟨_, rfl, _, _, rfl, rfl, hR H' (Same.refl _)⟩
      rw [signs_all] at h7
      refine ⟨l, _, rfl, SqL.of h7, ?_⟩
      have e : nameB (.str z) = ((cod z).map fun c => decide (c ∈ cod NS)).all id := by
        rw [en]; show (textB 1 8 (.str z) && allIn NS z) = _; rw [c]; unfold allIn; rw [List.all_map]; rfl
      have := q H7 (s1.trans s7)
      rw [e] at this
      exact this
    | _ => exact absurd (show false = true from c) Bool.false_ne_true
  · have e : nameB v = false := by
      rw [en]
      cases v with
      | str z => show (textB 1 8 (.str z) && allIn NS z) = false; rw [Bool.eq_false_iff.mpr c]; rfl
      | _ => rfl
    have := q H1 s1
    rw [e] at this
    exact this
def tupN (H : Hp) (v : V) (n : Int) : Bool := match v with
  | .ref a => match H a with
    | some (.tup xs) => decide ((xs.length : Int) = n)
    | _ => false
  | _ => false
theorem tupN_tup {H : Hp} {a : Addr} {xs : List V} {n : Int} (h : H a = some (.tup xs)) : tupN H (.ref a) n = decide ((xs.length : Int) = n) := by simp only [tupN, h]
theorem tupN_no {H : Hp} {v : V} {n : Int} (ok : Ok H v) (h : isA (tyN H v) "tuple" = false) : tupN H v n = false := by
  refine ok.elim (fun e _ => ?_) (fun _ e _ => ?_) (fun _ e _ => ?_) (fun _ e _ _ => ?_) (fun a xs e e2 _ => ?_) (fun _ _ _ _ e => ?_)
  · rw [e]; rfl
  · rw [e]; rfl
  · rw [e]; rfl
  · rw [e]; rfl
  · rw [e]; simp only [tupN, e2]
  · rw [e] at h; exact absurd h (by decide)
theorem tupN_of {H : Hp} {v : V} {n : Int} (h : tupN H v n = true) : ∃ a xs, v = .ref a ∧ H a = some (.tup xs) ∧ (xs.length : Int) = n := by
  unfold tupN at h
  split at h
  · split at h
    · rename_i a _ xs e
      exact ⟨a, xs, rfl, e, of_decide_eq_true h⟩
    · cases h
  · cases h
def sp_is_tuple_of (K : PySem.W.Frag) : Sp := fun vs H Q _ => ∃ v n, vs = [v, .int n] ∧ Ok H v ∧ Q (.bl (tupN H v n)) H
theorem ok_is_tuple_of (T : Txt K mg) (F : Fun K "is_tuple_of" "is_tuple_of" s_is_tuple_of f fd) : FnOk P w K mg base CX0 1 f fd ["thing", "many"] (sp_is_tuple_of K) := by
  refine F.ok sc_is_tuple_of (fun vs H Q E h => ?_) (fun cdv A outer s H vs Q E hr h => ?_)
  · obtain ⟨v, n, rfl, _⟩ := h
    rfl
  obtain ⟨v, n, rfl, ok, q⟩ := h
  refine ⟨_, (@pss_one _ _ _ (@ps_ret _ _ _ _ (@pe_and _ _ _ _ _ _ _ (@pe_callB _ _ _ _ _ _ _ _ _ call_isinst (by rfl) T.b_isinstance bt_isinstance (@pa_cons _ _ _ _ _ (@pv _ 0 _ _ (by rfl) (by first | exact Or.inl rfl | exact Or.inr (Or.inl rfl) | exact Or.inr (Or.inr rfl)) (by decide) (by decide)) (@pa_cons _ _ _ _ _ (@pe_ty _ _ _ _ rfl T.b_tuple bt_tuple (by decide) (by decide)) (@pa_nil _) (by rfl)) (by rfl)) (by decide) (by decide) (by rfl) (by rfl)) (@pe_one _ _ _ _ _ (@pe_cmpR _ _ _ _ _ _ _ _ op_eq (@pe_callB _ _ _ _ _ _ _ _ _ call_len_seq (by rfl) T.b_len bt_len (@pa_cons _ _ _ _ _ (@pv _ 0 _ _ (by rfl) (by first | exact Or.inl rfl | exact Or.inr (Or.inl rfl) | exact Or.inr (Or.inr rfl)) (by decide) (by decide)) (@pa_nil _) (by rfl)) (by decide) (by decide) (by rfl) (by rfl)) (@pv _ 1 _ _ (by rfl) (by first | exact Or.inl rfl | exact Or.inr (Or.inl rfl) | exact Or.inr (Or.inr rfl)) (by decide) (by decide)) (nomark _)))))), ?_⟩
  refine tAndV_p (isA (tyN H v) "tuple") (tupN H v n) (fun R q => ⟨_, rfl, _, _, _, _, rfl, ok.ty K, ok.kit K, q⟩) (fun hw R q => ?_) ?_
  · obtain ⟨a, xs, rfl, e⟩ := tuple_of ok hw
    rw [tupN_tup e] at q
    refine ⟨_, rfl, a, xs, rfl, .inr (SqT.of e), _, rfl, rfl, ?_⟩
    rw [dec_int, Bool.beq_eq_decide_eq]; exact q
  · cases hw : isA (tyN H v) "tuple" with
    | true => exact q
    | false => rw [tupN_no ok hw] at q; exact q
def isT : Nat → Tr → Bool
  | 0, _ => false
  | _ + 1, .int i => decide (0 ≤ i) && decide (i ≤ 999999999)
  | _ + 1, .str z => decide ((z.length : Int) ≤ 400) && allIn SG z
  | n + 1, .tup ts => decide (ts.length ≤ 100) && ts.all (isT n)
  | _ + 1, _ => false
def All : Addr → Prop := fun _ => True
/-! what a thing is made of, in words -/
def NL : Addr → Prop := fun _ => False
mutual
theorem rep_tup {H H' : Hp} (k : ∀ c xs, H c = some (.tup xs) → H' c = some (.tup xs)) : ∀ (t : Tr) (v : V), Rep NL H t v → Rep NL H' t v
  | .non, _, h => h
  | .bl _, _, h => h
  | .int _, _, h => h
  | .str _, _, h => h
  | .tup ts, _, ⟨a, vs, e, ha, hr⟩ => ⟨a, vs, e, k a _ ha, reps_tup k ts vs hr⟩
  | .lst _, _, ⟨_, _, _, fa, _⟩ => fa.elim
theorem reps_tup {H H' : Hp} (k : ∀ c xs, H c = some (.tup xs) → H' c = some (.tup xs)) : ∀ (ts : List Tr) (vs : List V), Reps NL H ts vs → Reps NL H' ts vs
  | [], _, h => h
  | t :: ts, _, ⟨v, us, e, h1, h2⟩ => ⟨v, us, e, rep_tup k t v h1, reps_tup k ts us h2⟩
end
theorem rep_all {H : Hp} {t : Tr} {v : V} (h : Rep NL H t v) : Rep All H t v := Rep.mono (fun _ z => z.elim) t v h
mutual
theorem isT_ok : ∀ (n : Nat) (t : Tr), isT n t = true → t.ok
  | 0, _, h => nomatch h
  | n + 1, .non, h => nomatch h
  | n + 1, .bl _, h => nomatch h
  | n + 1, .int _, _ => trivial
  | n + 1, .str z, h => by
    have h' : (decide ((z.length : Int) ≤ 400) && allIn SG z) = true := h
    rw [Bool.and_eq_true, decide_eq_true_eq] at h'
    show z.length ≤ 1000
    omega
  | n + 1, .tup ts, h => by
    have h' : (decide (ts.length ≤ 100) && ts.all (isT n)) = true := h
    rw [Bool.and_eq_true, decide_eq_true_eq] at h'
    exact ⟨by omega, isTs_ok n ts h'.2⟩
  | n + 1, .lst _, h => nomatch h
theorem isTs_ok : ∀ (n : Nat) (ts : List Tr), ts.all (isT n) = true → Tr.oks ts
  | _, [], _ => trivial
  | n, t :: ts, h => by
    rw [List.all_cons, Bool.and_eq_true] at h
    exact ⟨isT_ok n t h.1, isTs_ok n ts h.2⟩
end
def idx (c : Nat) : Int := PySem.Txt.find SG ⟨#[c]⟩
theorem idx_sg {c : Nat} (h : c ∈ cod SG) : 0 ≤ idx c ∧ idx c < 94 ∧ SG.cps.toList.getD (idx c).toNat 0 = c := by
  obtain ⟨k, hk, e⟩ := List.getElem_of_mem (show c ∈ SG.cps.toList from h)
  have hk' : k < 94 := by rw [sg_len] at hk; exact hk
  have eg : SG.cps.toList.getD k 0 = c := by simp only [List.getD, List.getElem?_eq_getElem hk, Option.getD_some]; exact e
  have := sg_find k hk'
  rw [eg] at this
  have ei : idx c = (k : Int) := this
  rw [ei]
  exact ⟨by omega, by omega, eg⟩
mutual
def wT : Tr → List Int
  | .int i => [0, i]
  | .str z => 1 :: (z.length : Int) :: (cod z).map idx
  | .tup ts => 2 :: (ts.length : Int) :: wTs ts
  | _ => []
def wTs : List Tr → List Int
  | [] => []
  | t :: ts => wT t ++ wTs ts
end
theorem wTs_app : ∀ (a b : List Tr), wTs (a ++ b) = wTs a ++ wTs b
  | [], _ => rfl
  | t :: a, b => by
    show wT t ++ wTs (a ++ b) = (wT t ++ wTs a) ++ wTs b
    rw [wTs_app a b, List.append_assoc]
theorem wTs_take {ts : List Tr} {i : Nat} {t : Tr} (h : ts[i]? = some t) : wTs (ts.take (i + 1)) = wTs (ts.take i) ++ wT t := by
  rw [List.take_add_one, h, wTs_app]
  show wTs (ts.take i) ++ (wT t ++ []) = _
  rw [List.append_nil]
theorem wTs_le {ts : List Tr} (i : Nat) : (wTs (ts.take i)).length ≤ (wTs ts).length := by
  have := congrArg List.length (wTs_app (ts.take i) (ts.drop i))
  rw [List.take_append_drop, List.length_append] at this
  omega
theorem wTs_one {ts : List Tr} {i : Nat} {t : Tr} (h : ts[i]? = some t) : (wTs (ts.take i)).length + (wT t).length ≤ (wTs ts).length := by
  have := wTs_le (ts := ts) (i + 1)
  rw [wTs_take h, List.length_append] at this
  exact this
theorem isT_str {n : Nat} {z : Str} (h : isT n (.str z) = true) : z.length ≤ 400 ∧ ∀ c ∈ cod z, c ∈ cod SG := by
  cases n with
  | zero => cases h
  | succ n =>
    have h' : (decide ((z.length : Int) ≤ 400) && allIn SG z) = true := h
    rw [Bool.and_eq_true, decide_eq_true_eq] at h'
    refine ⟨by omega, fun c hc => ?_⟩
    have := List.all_eq_true.mp h'.2 c hc
    simpa using this
theorem isT_tup {n : Nat} {ts : List Tr} (h : isT (n + 1) (.tup ts) = true) : ts.length ≤ 100 ∧ ∀ (i : Nat) t, ts[i]? = some t → isT n t = true := by
  have h' : (decide (ts.length ≤ 100) && ts.all (isT n)) = true := h
  rw [Bool.and_eq_true, decide_eq_true_eq] at h'
  exact ⟨h'.1, fun i t ht => List.all_eq_true.mp h'.2 t (List.mem_of_getElem? ht)⟩
theorem wT_tup (ts : List Tr) : wT (.tup ts) = 2 :: (ts.length : Int) :: wTs ts := rfl
theorem wT_str (z : Str) : wT (.str z) = 1 :: (z.length : Int) :: (cod z).map idx := rfl
/-- words_of, to a depth -/
def sp_wo (n : Nat) (K : PySem.W.Frag) : Sp := fun vs H Q _ => ∃ (v : V) (t : Tr), vs = [v] ∧ Rep NL H t v ∧ isT n t = true ∧ (wT t).length ≤ 900000 ∧ ∀ l H', Same H H' → H l = none → H' l = some (.lst ((wT t).map V.int)) → Q (.ref l) H'
/-! what a block is -/
abbrev Tg := Int × Int × Int
structure En where
  nm : Str
  kd : Int
  tg : Tg
inductive Bk where
  | piece (z : Str)
  | row (lv : Int) (ts : List Tg)
  | folder (es : List En)
def tgT (t : Tg) : Tr := .tup [.int t.1, .int t.2.1, .int t.2.2]
def enT (e : En) : Tr := .tup [.str e.nm, .int e.kd, tgT e.tg]
def bkT : Bk → Tr
  | .piece z => .tup [.int 0, .str z]
  | .row lv ts => .tup [.int 1, .int lv, .tup (ts.map tgT)]
  | .folder es => .tup [.int 2, .tup (es.map enT)]
def tgOk (t : Tg) : Prop := (1 ≤ t.1 ∧ t.1 ≤ 999999) ∧ (0 ≤ t.2.1 ∧ t.2.1 ≤ 999999999) ∧ 0 ≤ t.2.2 ∧ t.2.2 ≤ 996
def enOk (e : En) : Prop := nameB (.str e.nm) = true ∧ (1 ≤ e.kd ∧ e.kd ≤ 2) ∧ tgOk e.tg
def rowOk (lv : Int) (ts : List Tg) : Prop := ts.length ≤ 8 ∧ (1 < lv → ts ≠ []) ∧ ∀ t ∈ ts, tgOk t
def folOk (es : List En) : Prop := es.length ≤ 16 ∧ (∀ e ∈ es, enOk e) ∧ PyProof.Rows.sortedS (es.map (·.nm)) = true ∧ (es.map (·.nm)).Nodup
def bkOk : Bk → Prop
  | .piece z => textB 1 8 (.str z) = true
  | .row lv ts => (1 ≤ lv ∧ lv ≤ 9) ∧ rowOk lv ts
  | .folder es => folOk es
theorem rep_tg {H : Hp} {t : Tg} {v : V} (h : Rep NL H (tgT t) v) : ∃ a, v = .ref a ∧ H a = some (.tup [.int t.1, .int t.2.1, .int t.2.2]) := by
  obtain ⟨a, vs, rfl, e, x1, u1, rfl, rfl, x2, u2, rfl, rfl, x3, u3, rfl, rfl, rfl⟩ := h
  exact ⟨a, rfl, e⟩
theorem tg_rep {H : Hp} {t : Tg} {a : Addr} (e : H a = some (.tup [.int t.1, .int t.2.1, .int t.2.2])) : Rep NL H (tgT t) (.ref a) := ⟨a, _, rfl, e, _, _, rfl, rfl, _, _, rfl, rfl, _, _, rfl, rfl, rfl⟩
theorem rep_en {H : Hp} {x : En} {v : V} (h : Rep NL H (enT x) v) : ∃ a b, v = .ref a ∧ H a = some (.tup [.str x.nm, .int x.kd, .ref b]) ∧ H b = some (.tup [.int x.tg.1, .int x.tg.2.1, .int x.tg.2.2]) := by
  obtain ⟨a, vs, rfl, e, x1, u1, rfl, rfl, x2, u2, rfl, rfl, x3, u3, rfl, r3, rfl⟩ := h
  obtain ⟨b, rfl, e2⟩ := rep_tg r3
  exact ⟨a, b, rfl, e, e2⟩
theorem en_rep {H : Hp} {x : En} {a b : Addr} (e : H a = some (.tup [.str x.nm, .int x.kd, .ref b])) (e2 : H b = some (.tup [.int x.tg.1, .int x.tg.2.1, .int x.tg.2.2])) : Rep NL H (enT x) (.ref a) := ⟨a, _, rfl, e, _, _, rfl, rfl, _, _, rfl, rfl, _, _, rfl, tg_rep e2, rfl⟩
theorem rep_piece {H : Hp} {z : Str} {v : V} (h : Rep NL H (bkT (.piece z)) v) : ∃ a, v = .ref a ∧ H a = some (.tup [.int 0, .str z]) := by
  obtain ⟨a, vs, rfl, e, x1, u1, rfl, rfl, x2, u2, rfl, rfl, rfl⟩ := h
  exact ⟨a, rfl, e⟩
theorem rep_row {H : Hp} {lv : Int} {ts : List Tg} {v : V} (h : Rep NL H (bkT (.row lv ts)) v) : ∃ a b vs, v = .ref a ∧ H a = some (.tup [.int 1, .int lv, .ref b]) ∧ H b = some (.tup vs) ∧ Reps NL H (ts.map tgT) vs := by
  obtain ⟨a, vs, rfl, e, x1, u1, rfl, rfl, x2, u2, rfl, rfl, x3, u3, rfl, ⟨b, us, rfl, e2, r⟩, rfl⟩ := h
  exact ⟨a, b, us, rfl, e, e2, r⟩
theorem rep_folder {H : Hp} {es : List En} {v : V} (h : Rep NL H (bkT (.folder es)) v) : ∃ a b vs, v = .ref a ∧ H a = some (.tup [.int 2, .ref b]) ∧ H b = some (.tup vs) ∧ Reps NL H (es.map enT) vs := by
  obtain ⟨a, vs, rfl, e, x1, u1, rfl, rfl, x2, u2, rfl, ⟨b, us, rfl, e2, r⟩, rfl⟩ := h
  exact ⟨a, b, us, rfl, e, e2, r⟩
theorem reps_at {α : Type} {g : α → Tr} {H : Hp} {xs : List α} {vs : List V} (h : Reps NL H (xs.map g) vs) {v : V} (hv : v ∈ vs) : ∃ x ∈ xs, Rep NL H (g x) v := by
  obtain ⟨i, hi, e⟩ := List.getElem_of_mem hv
  obtain ⟨t, ht, r⟩ := Reps.get h (show vs[i]? = some v by rw [List.getElem?_eq_getElem hi, e])
  rw [List.getElem?_map] at ht
  cases z : xs[i]? with
  | none => rw [z] at ht; cases ht
  | some x =>
    rw [z] at ht
    cases ht
    exact ⟨x, List.mem_of_getElem? z, r⟩
theorem isT_tg {t : Tg} (h : tgOk t) (n : Nat) : isT (n + 2) (tgT t) = true := by
  obtain ⟨⟨a1, a2⟩, ⟨b1, b2⟩, c1, c2⟩ := h
  simp only [tgT, isT, List.all_cons, List.all_nil, List.length_cons, List.length_nil, Bool.and_true, Bool.and_eq_true, decide_eq_true_eq]
  omega
theorem name_parts {z : Str} (h : nameB (.str z) = true) : 1 ≤ z.length ∧ z.length ≤ 8 ∧ allIn SG z = true ∧ ∀ c ∈ cod z, c ∈ cod SG := by
  have h' : (decide ((1 : Int) ≤ z.length) && decide ((z.length : Int) ≤ 8) && allIn LN z) = true := h
  simp only [Bool.and_eq_true, decide_eq_true_eq] at h'
  have a : allIn SG z = true := by
    have := h'.2
    rw [← allIn_two, Bool.and_eq_true] at this
    exact this.1
  refine ⟨by omega, by omega, a, fun c hc => ?_⟩
  have := List.all_eq_true.mp a c hc
  simpa using this
theorem isT_en {x : En} (h : enOk x) (n : Nat) : isT (n + 3) (enT x) = true := by
  obtain ⟨a, b, c⟩ := h
  obtain ⟨n1, n2, n3, _⟩ := name_parts a
  have d := isT_tg c n
  simp only [enT, isT, List.all_cons, List.all_nil, List.length_cons, List.length_nil, Bool.and_true, Bool.and_eq_true, decide_eq_true_eq, n3, d, and_true]
  omega
theorem isT_bk {b : Bk} (h : bkOk b) : isT 8 (bkT b) = true := by
  cases b with
  | piece z =>
    have h' : (decide ((1 : Int) ≤ (z.length : Int)) && decide ((z.length : Int) ≤ 8) && allIn SG z) = true := h
    simp only [Bool.and_eq_true, decide_eq_true_eq] at h'
    simp only [bkT, isT, List.all_cons, List.all_nil, List.length_cons, List.length_nil, Bool.and_true, Bool.and_eq_true, decide_eq_true_eq, h'.2, and_true]
    omega
  | row lv ts =>
    obtain ⟨l, n, _, o⟩ := h
    have d : (ts.map tgT).all (isT 6) = true := List.all_eq_true.mpr fun t ht => by
      obtain ⟨x, hx, rfl⟩ := List.mem_map.mp ht
      exact isT_tg (o x hx) 4
    simp only [bkT, isT, List.all_cons, List.all_nil, List.length_cons, List.length_nil, List.length_map, Bool.and_true, Bool.and_eq_true, decide_eq_true_eq, d, and_true]
    omega
  | folder es =>
    obtain ⟨n, o, _⟩ := h
    have d : (es.map enT).all (isT 6) = true := List.all_eq_true.mpr fun t ht => by
      obtain ⟨x, hx, rfl⟩ := List.mem_map.mp ht
      exact isT_en (o x hx) 3
    simp only [bkT, isT, List.all_cons, List.all_nil, List.length_cons, List.length_nil, List.length_map, Bool.and_true, Bool.and_eq_true, decide_eq_true_eq, d, and_true]
    omega
theorem rep_ok {H : Hp} {t : Tr} {v : V} {n : Nat} (h : Rep NL H t v) (i : isT n t = true) : Ok H v := (rep_all h).ok (isT_ok _ _ i)
theorem le_anti {a b : List Nat} (h1 : ¬ b < a) (h2 : ¬ a < b) : a = b := List.le_antisymm h1 h2
theorem rising_all : ∀ {p : Str} {l : List Str}, PyProof.Rows.risingS p l = true → ∀ x ∈ l, ¬ x.cps.toList < p.cps.toList
  | p, y :: r, h, x, hx => by
    have h' := h
    rw [PyProof.Rows.risingS, Bool.and_eq_true, PyProof.Rows.ltCps_eq] at h'
    have h1 : ¬ y.cps.toList < p.cps.toList := by simpa using h'.1
    rcases List.mem_cons.mp hx with rfl | hx
    · exact h1
    · exact List.le_trans h1 (rising_all h'.2 x hx)
theorem sorted_tail {x : Str} {l : List Str} (h : PyProof.Rows.sortedS (x :: l) = true) : PyProof.Rows.sortedS l = true := by
  cases l with
  | nil => rfl
  | cons y r =>
    have h' := h
    rw [PyProof.Rows.sortedS, PyProof.Rows.risingS, Bool.and_eq_true] at h'
    exact h'.2
theorem sorted_one : ∀ {a b : List Str}, a.Perm b → PyProof.Rows.sortedS a = true → PyProof.Rows.sortedS b = true → a = b
  | [], b, p, _, _ => (List.nil_perm.mp p).symm
  | x :: a, [], p, _, _ => absurd p.length_eq (by simp)
  | x :: a, y :: b, p, ha, hb => by
    have e : x = y := by
      have m1 : x ∈ y :: b := p.mem_iff.mp List.mem_cons_self
      have m2 : y ∈ x :: a := p.mem_iff.mpr List.mem_cons_self
      rcases List.mem_cons.mp m1 with e | m1
      · exact e
      rcases List.mem_cons.mp m2 with e | m2
      · exact e.symm
      have l1 := rising_all (p := x) (l := a) ha y m2
      have l2 := rising_all (p := y) (l := b) hb x m1
      have := le_anti l1 l2
      cases x; cases y
      simp only [PySem.Str.mk.injEq]
      exact Array.toList_inj.mp this
    subst e
    rw [sorted_one p.cons_inv (sorted_tail ha) (sorted_tail hb)]
theorem once_app : ∀ (l ks : List Str), (ks ++ l).Nodup → l.foldl (fun ks k => if k ∈ ks then ks else ks ++ [k]) ks = ks ++ l
  | [], ks, _ => (List.append_nil _).symm
  | k :: r, ks, h => by
    have nk : k ∉ ks := fun z => by
      have := (List.nodup_append.mp h).2.2 k z k List.mem_cons_self
      exact this rfl
    have e : (if k ∈ ks then ks else ks ++ [k]) = ks ++ [k] := if_neg nk
    rw [List.foldl_cons, e, once_app r (ks ++ [k]) (by rw [List.append_assoc]; exact h), List.append_assoc]
    rfl
theorem once_id {a : List Str} (h : a.Nodup) : onceS a = a := once_app a [] h
theorem names_of : ∀ {es : List En} {us : List V} {H : Hp}, Reps NL H (es.map enT) us → (us.map fun v => match v with | .ref x => (match H x with | some (.tup (y :: _)) => y | _ => .non) | _ => .non) = (es.map (·.nm)).map V.str
  | [], us, H, r => by rw [show us = [] from r]; rfl
  | e :: es, us, H, r => by
    obtain ⟨v, us', rfl, r1, r2⟩ := r
    obtain ⟨a, b, rfl, e1, _⟩ := rep_en r1
    rw [List.map_cons, List.map_cons, List.map_cons, names_of r2]
    simp only [e1]
theorem trues {H : Hp} {l : Addr} {us : List V} (h : H l = some (.lst (us.map fun _ => V.bl true))) : H l = some (.lst ((us.map fun _ => true).map V.bl)) := by rw [h, List.map_map]; rfl
theorem all_trues (us : List V) : (us.map fun _ => true).all id = true := by simp
theorem trueQ {Q : VK} {H : Hp} {us : List V} (q : Q (.bl true) H) : Q (.bl ((us.map fun _ => true).all id)) H := by rw [all_trues]; exact q
theorem comp_map3 {J : It} {xs : List V} {te : TE} {Q : VK} {σ : St} {H : Hp} (f : V → V) (hJ : ItIs J H xs) (hn : xs.length ≤ 1000000) (htg : ∀ x ∈ xs, ∃ a x1 x2 x3, x = .ref a ∧ H a = some (.tup [x1, x2, x3]))
    (helt : ∀ a x1 x2 x3 (H' : Hp) (R : VK), V.ref a ∈ xs → H a = some (.tup [x1, x2, x3]) → Same H H' → (∀ H'', Same H' H'' → R (f (.ref a)) H'') → te [some x1, some x2, some x3] H' R)
    (hQ : ∀ l H', H l = none → Same H H' → H' l = some (.lst (xs.map f)) → Q (.ref l) H') :
    tCompK [none, none, none] (gTup K 3 (gCons (gName 0) (gCons (gName 1) (gCons (gName 2) gNil)))) tYes te σ Q J H := by
  intro l hl
  refine ⟨fun i m σ' H' => m = xs.length - i ∧ i ≤ xs.length ∧ (∃ y0 y1 y2, σ' = [y0, y1, y2]) ∧ Same H H' ∧ H' l = some (.lst ((xs.take i).map f)), ⟨xs.length, by simp, Nat.zero_le _, ⟨_, _, _, rfl⟩, same_new hl _, by rw [upd_same, List.take_zero, List.map_nil]⟩, ?_⟩
  rintro i m σ' H' ⟨rfl, hi, ⟨y0, y1, y2, rfl⟩, hs, hl'⟩
  obtain ⟨h1, h2, h3⟩ := hJ H' hs i
  by_cases hlt : i < xs.length
  · refine .inr ⟨h1 hlt, fun x H'' y => ?_⟩
    obtain ⟨rfl, hx⟩ := h2 x H'' y
    have hx := hx hlt
    obtain ⟨a, x1, x2, x3, rfl, ha⟩ := htg x (List.mem_of_getElem? hx)
    refine ⟨a, _, rfl, SqT.of (hs.get ha), rfl, _, _, rfl, _, _, rfl, _, _, rfl, rfl, ?_⟩
    refine helt a x1 x2 x3 H'' _ (List.mem_of_getElem? hx) ha hs fun H4 s4 => ?_
    refine ⟨_, s4.get hl', smallLt (by rw [List.length_map, List.length_take]; omega), xs.length - (i + 1), by omega, rfl, hlt, ⟨_, _, _, rfl⟩, same_upd (hs.trans s4) hl _, ?_⟩
    rw [upd_same, List.take_add_one, hx]
    simp
  · have e : i = xs.length := by omega
    subst e
    exact .inl ⟨h3 (Nat.le_refl _), hQ l H' hl hs (by rw [hl', List.take_of_length_le (Nat.le_refl _)])⟩
def itemsOk (H : Hp) (v : V) : Prop := ∀ a xs, v = .ref a → H a = some (.tup xs) → ∀ x ∈ xs, Ok H x
def tagB (H : Hp) (v : V) : Bool := match v with
  | .ref a => match H a with
    | some (.tup [x, y, z]) => betw 1 999999 x && betw 0 999999999 y && betw 0 996 z
    | _ => false
  | _ => false
theorem three_of {xs : List V} (h : (xs.length : Int) = 3) : ∃ x y z, xs = [x, y, z] := by
  match xs, h with
  | [x, y, z], _ => exact ⟨x, y, z, rfl⟩
  | [], h => simp at h
  | [_], h => simp at h
  | [_, _], h => simp at h
  | _ :: _ :: _ :: _ :: _, h => simp at h; omega
theorem tagB_no {H : Hp} {v : V} (h : tupN H v 3 = false) : tagB H v = false := by
  unfold tagB
  split
  · rename_i a
    split
    · rename_i x y z e
      rw [tupN_tup e] at h
      exact absurd h (by simp)
    · rfl
  · rfl
theorem tagB_three {H : Hp} {a : Addr} {x y z : V} (e : H a = some (.tup [x, y, z])) : tagB H (.ref a) = (betw 1 999999 x && betw 0 999999999 y && betw 0 996 z) := by simp only [tagB, e]
theorem at3 {x y z : V} : atI [x, y, z] 0 = some x ∧ atI [x, y, z] 1 = some y ∧ atI [x, y, z] 2 = some z := ⟨rfl, rfl, rfl⟩
def sp_is_tag (K : PySem.W.Frag) : Sp := fun vs H Q _ => ∃ v, vs = [v] ∧ Ok H v ∧ itemsOk H v ∧ Q (.bl (tagB H v)) H
theorem ok_is_tag (T : Txt K mg) (F : Fun K "is_tag" "is_tag" s_is_tag f fd) (D_is_between : Def P w K mg base 2 "is_between" ["thing", "least", "most"] (sp_is_between K)) (D_is_tuple_of : Def P w K mg base 1 "is_tuple_of" ["thing", "many"] (sp_is_tuple_of K)) : FnOk P w K mg base CX0 3 f fd ["thing"] (sp_is_tag K) := by
  refine F.ok sc_is_tag (fun vs H Q E h => ?_) (fun cdv A outer s H vs Q E hr h => ?_)
  · obtain ⟨v, rfl, _⟩ := h
    rfl
  obtain ⟨v, rfl, ok, iok, q⟩ := h
  refine ⟨_, (@pss_cons _ _ _ _ _ (@ps_if _ _ _ _ _ _ _ _ (@pt_not _ _ _ _ (@pt_val _ _ _ (@pe_fn _ _ _ _ _ _ _ _ _ _ D_is_tuple_of (hr.mono (by decide)) rfl (@pa_cons _ _ _ _ _ (@pv _ 0 _ _ (by rfl) (by first | exact Or.inl rfl | exact Or.inr (Or.inl rfl) | exact Or.inr (Or.inr rfl)) (by decide) (by decide)) (@pa_cons _ _ _ _ _ (@pe_int _ _ _ _) (@pa_nil _) (by rfl)) (by rfl)) (by decide) (by rfl) (by rfl)) (by intro _; rfl))) (@pss_one _ _ _ (@ps_ret _ _ _ _ (@pe_bl _ _ _ _))) (@pss_nil _)) (@pss_cons _ _ _ _ _ (@ps_if _ _ _ _ _ _ _ _ (@PW.pt _ _ _ (@pw_or _ _ _ _ _ _ _ (@pt_not _ _ _ _ (@pt_val _ _ _ (@pe_fn _ _ _ _ _ _ _ _ _ _ D_is_between (hr.mono (by decide)) rfl (@pa_cons _ _ _ _ _ (@pe_ix _ _ _ _ _ _ _ ix_tup (@pv _ 0 _ _ (by rfl) (by first | exact Or.inl rfl | exact Or.inr (Or.inl rfl) | exact Or.inr (Or.inr rfl)) (by decide) (by decide)) (@pe_int _ _ _ _) (fun _ _ => rfl)) (@pa_cons _ _ _ _ _ (@pe_int _ _ _ _) (@pa_cons _ _ _ _ _ (@pe_globI _ _ _ _ rfl T.c_MOST_CELL (by decide)) (@pa_nil _) (by rfl)) (by rfl)) (by rfl)) (by decide) (by rfl) (by rfl)) (by intro _; rfl))) (@pw_or1 _ _ _ _ (@pt_not _ _ _ _ (@pt_val _ _ _ (@pe_fn _ _ _ _ _ _ _ _ _ _ D_is_between (hr.mono (by decide)) rfl (@pa_cons _ _ _ _ _ (@pe_ix _ _ _ _ _ _ _ ix_tup (@pv _ 0 _ _ (by rfl) (by first | exact Or.inl rfl | exact Or.inr (Or.inl rfl) | exact Or.inr (Or.inr rfl)) (by decide) (by decide)) (@pe_int _ _ _ _) (fun _ _ => rfl)) (@pa_cons _ _ _ _ _ (@pe_int _ _ _ _) (@pa_cons _ _ _ _ _ (@pe_globI _ _ _ _ rfl T.c_MOST_BIRTH (by decide)) (@pa_nil _) (by rfl)) (by rfl)) (by rfl)) (by decide) (by rfl) (by rfl)) (by intro _; rfl)))))) (@pss_one _ _ _ (@ps_ret _ _ _ _ (@pe_bl _ _ _ _))) (@pss_nil _)) (@pss_one _ _ _ (@ps_ret _ _ _ _ (@pe_fn _ _ _ _ _ _ _ _ _ _ D_is_between (hr.mono (by decide)) rfl (@pa_cons _ _ _ _ _ (@pe_ix _ _ _ _ _ _ _ ix_tup (@pv _ 0 _ _ (by rfl) (by first | exact Or.inl rfl | exact Or.inr (Or.inl rfl) | exact Or.inr (Or.inr rfl)) (by decide) (by decide)) (@pe_int _ _ _ _) (fun _ _ => rfl)) (@pa_cons _ _ _ _ _ (@pe_int _ _ _ _) (@pa_cons _ _ _ _ _ (@pe_op _ _ _ _ _ _ _ _ op_sub (@pe_globI _ _ _ _ rfl T.c_SUM_RESTS (by decide)) (@pe_int _ _ _ _)) (@pa_nil _) (by rfl)) (by rfl)) (by rfl)) (by decide) (by rfl) (by rfl)))))), ?_⟩
  refine ⟨_, rfl, v, 3, rfl, ok, _, rfl, ?_⟩
  cases hw : tupN H v 3 with
  | false =>
    refine iteTc rfl ?_
    rw [tagB_no hw] at q
    exact q
  | true =>
    refine iteFc rfl ?_
    obtain ⟨a, xs, rfl, e, hl⟩ := tupN_of hw
    obtain ⟨x, y, z, rfl⟩ := three_of hl
    have i1 := iok a _ rfl e
    have ox : Ok H x := i1 x (by simp)
    have oy : Ok H y := i1 y (by simp)
    have oz : Ok H z := i1 z (by simp)
    rw [tagB_three e] at q
    dsimp only [tNext, tSeq, tIfS]
    refine tOr_p (!betw 1 999999 x) (!betw 0 999999999 y) (fun R q => ⟨_, rfl, a, _, _, _, rfl, rfl, SqT.of e, at3.1, x, 1, 999999, rfl, ox, _, rfl, q⟩) (fun _ R q => ⟨_, rfl, a, _, _, _, rfl, rfl, SqT.of e, at3.2.1, y, 0, 999999999, rfl, oy, _, rfl, q⟩) ?_
    refine ite2 (fun c => ?_) (fun c => ?_)
    · have : (betw 1 999999 x && betw 0 999999999 y && betw 0 996 z) = false := by
        cases h1 : betw 1 999999 x <;> cases h2 : betw 0 999999999 y <;> simp_all
      rw [this] at q
      exact q
    · have : (betw 1 999999 x && betw 0 999999999 y && betw 0 996 z) = betw 0 996 z := by
        cases h1 : betw 1 999999 x <;> cases h2 : betw 0 999999999 y <;> simp_all
      rw [this] at q
      exact ⟨_, rfl, a, _, _, _, rfl, rfl, SqT.of e, at3.2.2, _, _, rfl, rfl, z, 0, 996, rfl, oz, q⟩
def sp__law_whole_from (K : PySem.W.Frag) : Sp := fun vs H Q _ => ∃ v a b, vs = [v, .int a, .int b] ∧ Ok H v ∧ Q (.bl (betw a b v)) H
theorem ok__law_whole_from (T : Txt K mg) (F : Fun K "_law_whole_from" "_law_whole_from" s__law_whole_from f fd) : FnOk P w K mg base CX0 1 f fd ["_law_thing", "_law_least", "_law_most"] (sp__law_whole_from K) := by
  refine F.ok sc__law_whole_from (fun vs H Q E h => ?_) (fun cdv A outer s H vs Q E hr h => ?_)
  · obtain ⟨v, a, b, rfl, _⟩ := h
    rfl
  obtain ⟨v, a, b, rfl, ok, q⟩ := h
  refine ⟨_, (@pss_one _ _ _ (@ps_ret _ _ _ _ (@pe_and _ _ _ _ _ _ _ (@pe_callB _ _ _ _ _ _ _ _ _ call_isinst (by rfl) T.b_isinstance bt_isinstance (@pa_cons _ _ _ _ _ (@pv _ 0 _ _ (by rfl) (by first | exact Or.inl rfl | exact Or.inr (Or.inl rfl) | exact Or.inr (Or.inr rfl)) (by decide) (by decide)) (@pa_cons _ _ _ _ _ (@pe_ty _ _ _ _ rfl T.b_int bt_int (by decide) (by decide)) (@pa_nil _) (by rfl)) (by rfl)) (by decide) (by decide) (by rfl) (by rfl)) (@pe_and _ _ _ _ _ _ _ (@pe_not _ _ _ _ (@pe_callB _ _ _ _ _ _ _ _ _ call_isinst (by rfl) T.b_isinstance bt_isinstance (@pa_cons _ _ _ _ _ (@pv _ 0 _ _ (by rfl) (by first | exact Or.inl rfl | exact Or.inr (Or.inl rfl) | exact Or.inr (Or.inr rfl)) (by decide) (by decide)) (@pa_cons _ _ _ _ _ (@pe_ty _ _ _ _ rfl T.b_bool bt_bool (by decide) (by decide)) (@pa_nil _) (by rfl)) (by rfl)) (by decide) (by decide) (by rfl) (by rfl))) (@pe_and _ _ _ _ _ _ _ (@pe_cmpR _ _ _ _ _ _ _ _ op_le (@pv _ 1 _ _ (by rfl) (by first | exact Or.inl rfl | exact Or.inr (Or.inl rfl) | exact Or.inr (Or.inr rfl)) (by decide) (by decide)) (@pv _ 0 _ _ (by rfl) (by first | exact Or.inl rfl | exact Or.inr (Or.inl rfl) | exact Or.inr (Or.inr rfl)) (by decide) (by decide)) (nomark _)) (@pe_one _ _ _ _ _ (@pe_cmpR _ _ _ _ _ _ _ _ op_le (@pv _ 0 _ _ (by rfl) (by first | exact Or.inl rfl | exact Or.inr (Or.inl rfl) | exact Or.inr (Or.inr rfl)) (by decide) (by decide)) (@pv _ 2 _ _ (by rfl) (by first | exact Or.inl rfl | exact Or.inr (Or.inl rfl) | exact Or.inr (Or.inr rfl)) (by decide) (by decide)) (nomark _)))))))), ?_⟩
  cases hw : wholeB H v with
  | true =>
    obtain ⟨i, rfl⟩ := whole_of ok hw
    refine tAndV_p true (decide (a ≤ i) && decide (i ≤ b)) (fun R q => ⟨_, rfl, _, _, _, _, rfl, .int i, kit_int_int K, q⟩) (fun _ R q => tAndV_p true _ (fun R q => ⟨_, rfl, _, _, _, _, rfl, .int i, kit_int_bool K, _, rfl, q⟩) (fun _ R q => tAndV_p (decide (a ≤ i)) (decide (i ≤ b)) (fun R q => ⟨_, rfl, _, rfl, _, _, rfl, rfl, q⟩) (fun _ R q => ⟨_, rfl, _, rfl, _, _, rfl, rfl, q⟩) q) q) q
  | false =>
    rw [betw_eq hw] at q
    refine ⟨_, rfl, _, _, _, _, rfl, ok.ty K, ok.kit K, _, rfl, ?_⟩
    refine ite2 (fun c => ?_) (fun c => q)
    refine ⟨_, rfl, _, _, _, _, rfl, ok.ty K, ok.kit K, _, rfl, _, rfl, ?_⟩
    refine ite2 (fun d => ?_) (fun d => q)
    unfold wholeB at hw
    rw [c, d] at hw
    cases hw
def sp__law_is_name (K : PySem.W.Frag) : Sp := fun vs H Q _ => ∃ v, vs = [v] ∧ Ok H v ∧ ∀ H', Same H H' → Q (.bl (nameB v)) H'
theorem ok__law_is_name (T : Txt K mg) (F : Fun K "_law_is_name" "_law_is_name" s__law_is_name f fd) : FnOk P w K mg base CX0 1 f fd ["_law_thing"] (sp__law_is_name K) := by
  refine F.ok sc__law_is_name (fun vs H Q E h => ?_) (fun cdv A outer s H vs Q E hr h => ?_)
  · obtain ⟨v, rfl, _⟩ := h
    rfl
  obtain ⟨v, rfl, ok, q⟩ := h
  have hu := hu_of hr
  refine ⟨_, (@pss_cons _ _ _ _ _ (@ps_if _ _ _ _ _ _ _ _ (@PW.pt _ _ _ (@pw_or _ _ _ _ _ _ _ (@pt_not _ _ _ _ (@pt_val _ _ _ (@pe_callB _ _ _ _ _ _ _ _ _ call_isinst (by rfl) T.b_isinstance bt_isinstance (@pa_cons _ _ _ _ _ (@pv _ 0 _ _ (by rfl) (by first | exact Or.inl rfl | exact Or.inr (Or.inl rfl) | exact Or.inr (Or.inr rfl)) (by decide) (by decide)) (@pa_cons _ _ _ _ _ (@pe_ty _ _ _ _ rfl T.b_str bt_str (by decide) (by decide)) (@pa_nil _) (by rfl)) (by rfl)) (by decide) (by decide) (by rfl) (by rfl)) (by intro _; rfl))) (@pw_or _ _ _ _ _ _ _ (@pt_cmpR _ _ _ _ _ _ _ _ op_lt (@pe_callB _ _ _ _ _ _ _ _ _ call_len_str (by rfl) T.b_len bt_len (@pa_cons _ _ _ _ _ (@pv _ 0 _ _ (by rfl) (by first | exact Or.inl rfl | exact Or.inr (Or.inl rfl) | exact Or.inr (Or.inr rfl)) (by decide) (by decide)) (@pa_nil _) (by rfl)) (by decide) (by decide) (by rfl) (by rfl)) (@pe_int _ _ _ _) (nomark _)) (@pw_or1 _ _ _ _ (@pt_cmpR _ _ _ _ _ _ _ _ op_gt (@pe_callB _ _ _ _ _ _ _ _ _ call_len_str (by rfl) T.b_len bt_len (@pa_cons _ _ _ _ _ (@pv _ 0 _ _ (by rfl) (by first | exact Or.inl rfl | exact Or.inr (Or.inl rfl) | exact Or.inr (Or.inr rfl)) (by decide) (by decide)) (@pa_nil _) (by rfl)) (by decide) (by decide) (by rfl) (by rfl)) (@pe_int _ _ _ _) (nomark _)))))) (@pss_one _ _ _ (@ps_ret _ _ _ _ (@pe_bl _ _ _ _))) (@pss_nil _)) (@pss_one _ _ _ (@ps_ret _ _ _ _ (@pe_cmpR _ _ _ _ _ _ _ _ (op_eqE hu) (@pe_comp0 _ ["_law_sign"] _ _ _ _ _ _ _ _ _ _ rfl (@pi_str _ _ _ _ (@pv _ 0 _ _ (by rfl) (by first | exact Or.inl rfl | exact Or.inr (Or.inl rfl) | exact Or.inr (Or.inr rfl)) (by decide) (by decide))) (by decide +kernel) (fun C s H fp => ⟨(@pg_name _ _ (0) _ (show (["_law_sign"] : List Str).Nodup by decide +kernel) rfl (by first | exact Or.inl rfl | exact Or.inr rfl) (by first | exact .inl rfl | exact .inr rfl | assumption)), (@pifs_one _ _ _ (@pt_cmpR _ _ _ _ _ _ _ _ op_notin_str (@pv _ 0 _ _ (by rfl) (by first | exact Or.inl rfl | exact Or.inr (Or.inl rfl) | exact Or.inr (Or.inr rfl)) (by decide) (by decide)) (@pe_str _ _ _ _) rfl)), (@pv _ 0 _ _ (by rfl) (by first | exact Or.inl rfl | exact Or.inr (Or.inl rfl) | exact Or.inr (Or.inr rfl)) (by decide) (by decide))⟩) (by intro _; rfl)) (@pe_lst _ _ _ _ (@pa_nil _)) (nomark _))))), ?_⟩
  refine ⟨_, rfl, _, _, _, _, rfl, ok.ty K, ok.kit K, _, rfl, ?_⟩
  cases hw : isA (tyN H v) "str" with
  | false =>
    refine iteTc rfl ?_
    have e : nameB v = false := by
      cases v with
      | str z => exact absurd (show isA "str" "str" = false from hw) (by decide)
      | _ => rfl
    have := q H (Same.refl _)
    rw [e] at this
    exact this
  | true =>
    refine iteFc rfl ?_
    obtain ⟨z, rfl, hz⟩ := str_of ok hw
    have zl := cod_len z
    have en : nameB (.str z) = (decide ((1 : Int) ≤ z.length) && decide ((z.length : Int) ≤ 8) && allIn LN z) := rfl
    refine tOr_p (decide ((z.length : Int) < 1)) (decide ((8 : Int) < z.length)) (fun R q => ⟨_, rfl, _, rfl, small (by omega), _, _, rfl, rfl, _, rfl, q⟩) (fun _ R q => ⟨_, rfl, _, rfl, small (by omega), _, _, rfl, rfl, _, rfl, q⟩) ?_
    refine ite2 (fun c => ?_) (fun c => ?_)
    · simp only [Bool.or_eq_true, decide_eq_true_eq] at c
      have e : nameB (.str z) = false := by
        rw [en]
        rcases c with c | c
        · rw [decide_eq_false (show ¬ (1 : Int) ≤ z.length by omega)]; rfl
        · rw [decide_eq_false (show ¬ (z.length : Int) ≤ 8 by omega), Bool.and_false]; rfl
      have := q H (Same.refl _)
      rw [e] at this
      exact this
    · simp only [Bool.or_eq_true, decide_eq_true_eq, not_or] at c
      have e : nameB (.str z) = allIn LN z := by rw [en, decide_eq_true (show (1 : Int) ≤ z.length by omega), decide_eq_true (show (z.length : Int) ≤ 8 by omega)]; rfl
      refine ⟨_, rfl, z, rfl, ?_⟩
      refine comp_filter (fun v => match v with | .str y => !(!(Builtin.Str.occurrences LN y 0 LN.length 1).isEmpty) | _ => false) (fun v => v) itIs_str (by rw [List.length_map]; exact Nat.le_trans (Nat.le_of_eq zl) (by omega)) (fun x H' R hx s' hR => ?_) (fun x H' R hx _ s' hR => ?_) fun l H7 n7 s7 h7 => ?_
      · obtain ⟨u, _, rfl⟩ := List.mem_map.mp hx
        exact ⟨_, rfl, _, _, rfl, rfl, _, rfl, hR⟩
      · exact ⟨_, rfl, hR H' (Same.refl _)⟩
      refine ⟨small (by show 0 ≤ 1000000; decide), fun e2 he2 => ?_⟩
      refine ⟨l, e2, _, rfl, rfl, SqL.of ((same_new he2 _).get h7), SqL.of upd_same, ?_⟩
      have h9 := q _ (s7.trans (same_new he2 (.lst [])))
      rw [e, ← filter_all LN z] at h9
      exact h9
end
section
variable {P : Program} {w : World} {K : PySem.W.Frag} {mg : Str → Option Value} {base : Heap} {f : Addr} {fd : FuncData}
theorem ints_get {ns : List Int} {i : Nat} {y : V} (h : (ns.map V.int)[i]? = some y) : ∃ n, y = .int n ∧ ns[i]? = some n := by
  rw [List.getElem?_map] at h
  cases z : ns[i]? with
  | none => rw [z] at h; cases h
  | some n => rw [z] at h; cases h; exact ⟨n, rfl, rfl⟩
def sp__law_tag (K : PySem.W.Frag) : Sp := fun vs H Q _ => ∃ n : Int, vs = [.int n] ∧ 0 ≤ n ∧ n < 2147483647 ∧ ∀ a t H', Same H H' → H a = none → tgOk t → H' a = some (.tup [.int t.1, .int t.2.1, .int t.2.2]) → Q (.ref a) H'
theorem ok__law_tag (T : Txt K mg) (F : Fun K "_law_tag" "_law_tag" s__law_tag f fd) : FnOk P w K mg base CX0 1 f fd ["_law_number"] (sp__law_tag K) := by
  refine F.ok sc__law_tag (fun vs H Q E h => ?_) (fun cdv A outer s H vs Q E hr h => ?_)
  · obtain ⟨n, rfl, _⟩ := h
    rfl
  obtain ⟨n, rfl, n0, n1, q⟩ := h
  refine ⟨_, (@pss_cons _ _ _ _ _ (@ps_set _ _ (1) _ _ _ _ sc__law_tag.nd rfl (by first | exact Or.inl rfl | exact Or.inr rfl) (@pe_tup _ _ _ _ _ (@pa_cons _ _ _ _ _ (@pe_op _ _ _ _ _ _ _ _ op_add (@pe_int _ _ _ _) (@pe_op _ _ _ _ _ _ _ _ op_mod (@pv _ 0 _ _ (by rfl) (by first | exact Or.inl rfl | exact Or.inr (Or.inl rfl) | exact Or.inr (Or.inr rfl)) (by decide) (by decide)) (@pe_int _ _ _ _))) (@pa_cons _ _ _ _ _ (@pe_op _ _ _ _ _ _ _ _ op_mod (@pe_op _ _ _ _ _ _ _ _ op_mul (@pv _ 0 _ _ (by rfl) (by first | exact Or.inl rfl | exact Or.inr (Or.inl rfl) | exact Or.inr (Or.inr rfl)) (by decide) (by decide)) (@pe_int _ _ _ _)) (@pe_op _ _ _ _ _ _ _ _ op_pow (@pe_int _ _ _ _) (@pe_int _ _ _ _))) (@pa_cons _ _ _ _ _ (@pe_op _ _ _ _ _ _ _ _ op_mod (@pe_op _ _ _ _ _ _ _ _ op_fdiv (@pv _ 0 _ _ (by rfl) (by first | exact Or.inl rfl | exact Or.inr (Or.inl rfl) | exact Or.inr (Or.inr rfl)) (by decide) (by decide)) (@pe_int _ _ _ _)) (@pe_int _ _ _ _)) (@pa_nil _) (by rfl)) (by rfl)) (by rfl))) (by rfl) (by first | exact .inl rfl | exact .inr rfl | assumption)) (@pss_cons _ _ _ _ _ (@ps_if _ _ _ _ _ _ _ _ (@pt_cmpR _ _ _ _ _ _ _ _ op_eq (@pe_op _ _ _ _ _ _ _ _ op_mod (@pv _ 0 _ _ (by rfl) (by first | exact Or.inl rfl | exact Or.inr (Or.inl rfl) | exact Or.inr (Or.inr rfl)) (by decide) (by decide)) (@pe_int _ _ _ _)) (@pe_int _ _ _ _) (nomark _)) (@pss_one _ _ _ (@ps_set _ _ (1) _ _ _ _ sc__law_tag.nd rfl (by first | exact Or.inl rfl | exact Or.inr rfl) (@pe_tup _ _ _ _ _ (@pa_cons _ _ _ _ _ (@pe_int _ _ _ _) (@pa_cons _ _ _ _ _ (@pe_int _ _ _ _) (@pa_cons _ _ _ _ _ (@pe_ix _ _ _ _ _ _ _ ix_list (@pe_lst _ _ _ _ (@pa_cons _ _ _ _ _ (@pe_int _ _ _ _) (@pa_cons _ _ _ _ _ (@pe_int _ _ _ _) (@pa_nil _) (by rfl)) (by rfl))) (@pe_op _ _ _ _ _ _ _ _ op_mod (@pe_op _ _ _ _ _ _ _ _ op_fdiv (@pv _ 0 _ _ (by rfl) (by first | exact Or.inl rfl | exact Or.inr (Or.inl rfl) | exact Or.inr (Or.inr rfl)) (by decide) (by decide)) (@pe_int _ _ _ _)) (@pe_int _ _ _ _)) (fun _ _ => rfl)) (@pa_nil _) (by rfl)) (by rfl)) (by rfl))) (by rfl) (by first | exact .inl rfl | exact .inr rfl | assumption))) (@pss_nil _)) (@pss_cons _ _ _ _ _ (@ps_if _ _ _ _ _ _ _ _ (@pt_cmpR _ _ _ _ _ _ _ _ op_eq (@pe_op _ _ _ _ _ _ _ _ op_mod (@pv _ 0 _ _ (by rfl) (by first | exact Or.inl rfl | exact Or.inr (Or.inl rfl) | exact Or.inr (Or.inr rfl)) (by decide) (by decide)) (@pe_int _ _ _ _)) (@pe_int _ _ _ _) (nomark _)) (@pss_one _ _ _ (@ps_set _ _ (1) _ _ _ _ sc__law_tag.nd rfl (by first | exact Or.inl rfl | exact Or.inr rfl) (@pe_tup _ _ _ _ _ (@pa_cons _ _ _ _ _ (@pe_op _ _ _ _ _ _ _ _ op_add (@pe_int _ _ _ _) (@pe_op _ _ _ _ _ _ _ _ op_mod (@pv _ 0 _ _ (by rfl) (by first | exact Or.inl rfl | exact Or.inr (Or.inl rfl) | exact Or.inr (Or.inr rfl)) (by decide) (by decide)) (@pe_int _ _ _ _))) (@pa_cons _ _ _ _ _ (@pe_op _ _ _ _ _ _ _ _ op_mod (@pe_op _ _ _ _ _ _ _ _ op_fdiv (@pv _ 0 _ _ (by rfl) (by first | exact Or.inl rfl | exact Or.inr (Or.inl rfl) | exact Or.inr (Or.inr rfl)) (by decide) (by decide)) (@pe_int _ _ _ _)) (@pe_int _ _ _ _)) (@pa_cons _ _ _ _ _ (@pe_op _ _ _ _ _ _ _ _ op_mod (@pe_op _ _ _ _ _ _ _ _ op_fdiv (@pv _ 0 _ _ (by rfl) (by first | exact Or.inl rfl | exact Or.inr (Or.inl rfl) | exact Or.inr (Or.inr rfl)) (by decide) (by decide)) (@pe_int _ _ _ _)) (@pe_int _ _ _ _)) (@pa_nil _) (by rfl)) (by rfl)) (by rfl))) (by rfl) (by first | exact .inl rfl | exact .inr rfl | assumption))) (@pss_nil _)) (@pss_one _ _ _ (@ps_ret _ _ _ _ (@pv _ 1 _ _ (by rfl) (by first | exact Or.inl rfl | exact Or.inr (Or.inl rfl) | exact Or.inr (Or.inr rfl)) (by decide) (by decide))))))), ?_⟩
  refine seq_mid (fun σ H1 => ∃ a t, σ = [some (.int n), some (.ref a)] ∧ Same H H1 ∧ H a = none ∧ tgOk t ∧ H1 a = some (.tup [.int t.1, .int t.2.1, .int t.2.2])) (fun N hN => ?_) ?_
  · refine ⟨_, rfl, _, _, rfl, rfl, (show (0 : Int) < 999999 by decide), _, _, rfl, rfl, _, rfl, _, _, rfl, rfl, .inr ⟨by decide, by decide⟩, _, _, rfl, rfl, ⟨by decide, by decide, by decide⟩, _, _, rfl, rfl, (show (0 : Int) < 10 ^ 9 by decide), _, rfl, _, _, rfl, rfl, ⟨by decide, by decide⟩, _, _, rfl, rfl, (show (0 : Int) < 997 by decide), small (by show 3 ≤ 1000000; decide), fun p hp => ?_⟩
    refine hN _ _ ⟨p, (1 + n % 999999, n * 48271 % 1000000000, n / 5 % 997), rfl, same_new hp _, hp, ⟨by dsimp only; omega, by dsimp only; omega, by dsimp only; omega⟩, upd_same⟩
  rintro σ H1 ⟨a, t, rfl, s1, na, ot, ha⟩
  refine seq_mid (fun σ H2 => ∃ a t, σ = [some (.int n), some (.ref a)] ∧ Same H H2 ∧ H a = none ∧ tgOk t ∧ H2 a = some (.tup [.int t.1, .int t.2.1, .int t.2.2])) (fun N hN => ?_) ?_
  · refine ⟨_, rfl, _, _, rfl, rfl, (show (0 : Int) < 7 by decide), rfl, _, rfl, ite2 (fun c => ?_) (fun c => hN _ _ ⟨a, t, rfl, s1, na, ot, ha⟩)⟩
    refine ⟨small (by show 2 ≤ 1000000; decide), fun p hp => ?_⟩
    have s2 := same_new hp (.lst [V.int 996, V.int 0])
    obtain ⟨k, hk, k0, k1⟩ : ∃ k : Int, atI [V.int 996, V.int 0] (n / 7 % 2) = some (.int k) ∧ 0 ≤ k ∧ k ≤ 996 := by
      rcases (show n / 7 % 2 = 0 ∨ n / 7 % 2 = 1 by omega) with e | e
      · rw [e]; exact ⟨996, rfl, by decide, by decide⟩
      · rw [e]; exact ⟨0, rfl, by decide, by decide⟩
    refine ⟨_, rfl, _, _, rfl, rfl, ⟨by decide, by decide⟩, _, _, rfl, rfl, (show (0 : Int) < 2 by decide), p, _, _, _, rfl, rfl, SqL.of upd_same, hk, small (by show 3 ≤ 1000000; decide), fun p2 hp2 => ?_⟩
    exact hN _ _ ⟨p2, (999999, 999999999, k), rfl, (s1.trans s2).trans (same_new hp2 _), (s1.trans s2).free hp2, ⟨⟨show (1 : Int) ≤ 999999 by decide, show (999999 : Int) ≤ 999999 by decide⟩, ⟨show (0 : Int) ≤ 999999999 by decide, show (999999999 : Int) ≤ 999999999 by decide⟩, k0, k1⟩, upd_same⟩
  rintro σ H2 ⟨a, t, rfl, s2, na, ot, ha⟩
  refine seq_mid (fun σ H3 => ∃ a t, σ = [some (.int n), some (.ref a)] ∧ Same H H3 ∧ H a = none ∧ tgOk t ∧ H3 a = some (.tup [.int t.1, .int t.2.1, .int t.2.2])) (fun N hN => ?_) ?_
  · refine ⟨_, rfl, _, _, rfl, rfl, (show (0 : Int) < 7 by decide), rfl, _, rfl, ite2 (fun c => ?_) (fun c => hN _ _ ⟨a, t, rfl, s2, na, ot, ha⟩)⟩
    refine ⟨_, rfl, _, _, rfl, rfl, (show (0 : Int) < 9 by decide), _, _, rfl, rfl, _, rfl, _, _, rfl, rfl, ⟨by decide, by decide⟩, _, _, rfl, rfl, (show (0 : Int) < 2 by decide), _, rfl, _, _, rfl, rfl, ⟨by decide, by decide⟩, _, _, rfl, rfl, (show (0 : Int) < 997 by decide), small (by show 3 ≤ 1000000; decide), fun p hp => ?_⟩
    exact hN _ _ ⟨p, (1 + n % 9, n / 9 % 2, n / 18 % 997), rfl, s2.trans (same_new hp _), s2.free hp, ⟨by dsimp only; omega, by dsimp only; omega, by dsimp only; omega⟩, upd_same⟩
  rintro σ H3 ⟨a, t, rfl, s3, na, ot, ha⟩
  exact ⟨_, rfl, q a t H3 s3 na ot ha⟩
theorem foldl_glue {g : Array Nat} (hg : g.toList = []) : ∀ (xs : List Str) (acc : Array Nat), (xs.foldl (fun acc p => acc ++ g ++ p.cps) acc).toList = acc.toList ++ (xs.map cod).flatten
  | [], acc => by simp
  | x :: xs, acc => by
    rw [List.foldl_cons, foldl_glue hg xs, Array.toList_append, Array.toList_append, hg, List.append_nil, List.map_cons, List.flatten_cons, List.append_assoc]
theorem join_cod {g : Str} (hg : cod g = []) (ys : List Str) : cod (PySem.Txt.join g ys) = (ys.map cod).flatten := by
  unfold PySem.Txt.join PySem.Builtin.Str.glued
  change Array.toList (List.foldl _ _ _) = _
  rw [foldl_glue (g := g.cps) hg]
  cases ys with
  | nil => rfl
  | cons y ys => simp
abbrev nilS : Str := PySem.Str.ofString ""
theorem ln_len : (cod LN).length = 36 := by decide +kernel
theorem at_cod {z : Str} {i : Int} (h0 : 0 ≤ i) (h1 : i < (cod z).length) : ∃ c, atI z.cps.toList i = some c ∧ c ∈ cod z := by
  obtain ⟨k, rfl⟩ := Int.eq_ofNat_of_zero_le h0
  have hk : k < z.cps.toList.length := by have : ((k : Nat) : Int) < (cod z).length := h1; exact_mod_cast this
  refine ⟨z.cps.toList[k], ?_, List.getElem_mem hk⟩
  have hk2 : k < z.cps.size := by simpa using hk
  unfold atI ixN
  rw [if_pos h0]
  simp [hk2]
theorem singles {T : List Nat} : ∀ (ys : List V), (∀ y ∈ ys, ∃ c, y = .str ⟨#[c]⟩ ∧ c ∈ T) → ∃ cs : List Nat, ys = (cs.map fun c => (⟨#[c]⟩ : Str)).map V.str ∧ ∀ c ∈ cs, c ∈ T
  | [], _ => ⟨[], rfl, fun _ h => nomatch h⟩
  | y :: ys, h => by
    obtain ⟨c, rfl, hc⟩ := h y List.mem_cons_self
    obtain ⟨cs, e, hs⟩ := singles ys fun y hy => h y (List.mem_cons_of_mem _ hy)
    exact ⟨c :: cs, by rw [e]; rfl, fun d hd => (List.mem_cons.mp hd).elim (fun z => z ▸ hc) (hs d)⟩
theorem cod_singles (cs : List Nat) : cod (PySem.Txt.join nilS (cs.map fun c => (⟨#[c]⟩ : Str))) = cs := by
  rw [join_cod (g := nilS) (by decide +kernel), List.map_map]
  induction cs with
  | nil => rfl
  | cons c r ih => rw [List.map_cons, List.flatten_cons, ih]; rfl
theorem fits_singles (cs : List Nat) (h : cs.length ≤ 100) : ((cs.map fun c => (⟨#[c]⟩ : Str)).map (·.length)).sum + (cs.map fun c => (⟨#[c]⟩ : Str)).length * nilS.length ≤ 16777216 := by
  have e : nilS.length = 0 := by decide +kernel
  have e2 : ((cs.map fun c => (⟨#[c]⟩ : Str)).map (·.length)).sum = cs.length := by
    clear h
    induction cs with
    | nil => rfl
    | cons c r ih =>
      rw [List.map_cons, List.map_cons, List.sum_cons, ih, List.length_cons]
      show 1 + r.length = _
      omega
  rw [e, e2]
  omega
def sp__law_name (K : PySem.W.Frag) : Sp := fun vs H Q _ => ∃ n : Int, vs = [.int n] ∧ 0 ≤ n ∧ ∀ z H', Same H H' → nameB (.str z) = true → Q (.str z) H'
theorem ok__law_name (T : Txt K mg) (F : Fun K "_law_name" "_law_name" s__law_name f fd) : FnOk P w K mg base CX0 1 f fd ["_law_number"] (sp__law_name K) := by
  refine F.ok sc__law_name (fun vs H Q E h => ?_) (fun cdv A outer s H vs Q E hr h => ?_)
  · obtain ⟨n, rfl, _⟩ := h
    rfl
  obtain ⟨n, rfl, n0, q⟩ := h
  refine ⟨_, (@pss_cons _ _ _ _ _ (@ps_set _ _ (1) _ _ _ _ sc__law_name.nd rfl (by first | exact Or.inl rfl | exact Or.inr rfl) (@pe_op _ _ _ _ _ _ _ _ op_add (@pe_int _ _ _ _) (@pe_op _ _ _ _ _ _ _ _ op_mod (@pv _ 0 _ _ (by rfl) (by first | exact Or.inl rfl | exact Or.inr (Or.inl rfl) | exact Or.inr (Or.inr rfl)) (by decide) (by decide)) (@pe_int _ _ _ _))) (by rfl) (by first | exact .inl rfl | exact .inr rfl | assumption)) (@pss_cons _ _ _ _ _ (@ps_set _ _ (2) _ _ _ _ sc__law_name.nd rfl (by first | exact Or.inl rfl | exact Or.inr rfl) (@pe_str _ _ _ _) (by rfl) (by first | exact .inl rfl | exact .inr rfl | assumption)) (@pss_one _ _ _ (@ps_ret _ _ _ _ (@pe_bm _ _ _ _ _ _ _ _ _ _ _ _ PySem.F.plainAttrs_str PySem.F.slot_str_join PySem.F.type_str_join (mt_join rfl) (@pe_str _ _ _ _) (@pa_cons _ _ _ _ _ (@pe_comp _ ["_law_k", "_law_signs_here", "_law_number"] [none, some 2, some 0] _ _ _ _ _ _ _ _ _ _ _ rfl (@pi_range1 _ _ _ _ _ _ rfl T.b_range (@pa_cons _ _ _ _ _ (@pv _ 1 _ _ (by rfl) (by first | exact Or.inl rfl | exact Or.inr (Or.inl rfl) | exact Or.inr (Or.inr rfl)) (by decide) (by decide)) (@pa_nil _) (by rfl)) (by rfl)) (by rfl) rfl (by repeat (first | exact trivial | refine ⟨rfl, ?_⟩)) (by repeat (first | exact trivial | refine ⟨fun h => (by first | exact ⟨_, rfl⟩ | cases h), ?_⟩)) (fun C s H fp => ⟨(@pg_name _ _ (0) _ (show (["_law_k", "_law_signs_here", "_law_number"] : List Str).Nodup by decide +kernel) rfl (by first | exact Or.inl rfl | exact Or.inr rfl) (by first | exact .inl rfl | exact .inr rfl | assumption)), (@pifs_nil _), (@pe_ix _ _ _ _ _ _ _ ix_str (@pv _ 1 _ _ (by rfl) (by first | exact Or.inl rfl | exact Or.inr (Or.inl rfl) | exact Or.inr (Or.inr rfl)) (by decide) (by decide)) (@pe_op _ _ _ _ _ _ _ _ op_mod (@pe_op _ _ _ _ _ _ _ _ op_add (@pe_op _ _ _ _ _ _ _ _ op_fdiv (@pv _ 2 _ _ (by rfl) (by first | exact Or.inl rfl | exact Or.inr (Or.inl rfl) | exact Or.inr (Or.inr rfl)) (by decide) (by decide)) (@pe_int _ _ _ _)) (@pe_op _ _ _ _ _ _ _ _ op_mul (@pv _ 0 _ _ (by rfl) (by first | exact Or.inl rfl | exact Or.inr (Or.inl rfl) | exact Or.inr (Or.inr rfl)) (by decide) (by decide)) (@pe_op _ _ _ _ _ _ _ _ op_mod (@pe_op _ _ _ _ _ _ _ _ op_fdiv (@pv _ 2 _ _ (by rfl) (by first | exact Or.inl rfl | exact Or.inr (Or.inl rfl) | exact Or.inr (Or.inr rfl)) (by decide) (by decide)) (@pe_int _ _ _ _)) (@pe_int _ _ _ _)))) (@pe_int _ _ _ _)) (fun _ _ => rfl))⟩) (by intro _; rfl)) (@pa_nil _) (by rfl)) (by rfl) (by rfl) (by rfl) (by rfl) (by rfl)))))), ?_⟩
  refine ⟨_, rfl, _, _, rfl, rfl, (show (0 : Int) < 8 by decide), _, _, rfl, rfl, ?_⟩
  obtain ⟨m, hm⟩ : ∃ m : Nat, 1 + n % 8 = (m : Int) := ⟨(1 + n % 8).toNat, by omega⟩
  have m1 : 1 ≤ m := by omega
  have m8 : m ≤ 8 := by omega
  dsimp only
  rw [hm]
  refine ⟨rfl, _, rfl, (m : Int), rfl, by omega, by omega, ?_⟩
  refine comp_rel (xs := (List.range (m : Int).toNat).map fun (i : Nat) => V.int (0 + (i : Int))) (fun _ y _ => ∃ c, y = .str ⟨#[c]⟩ ∧ c ∈ cod LN) (fun _ _ _ _ h _ => h) (fun _ _ _ _ _ _ h _ _ => h) itIs_range (by rw [List.length_map, List.length_range]; omega) (fun x H' R hx s' hR => ?_) fun l H7 ys n7 s7 h7 l7 hy => ?_
  · obtain ⟨k, hk, rfl⟩ := List.mem_map.mp hx
    obtain ⟨c, hc, mc⟩ := at_cod (z := LN) (i := (n / 8 + (0 + (k : Int)) * (n / 288 % 36)) % 36) (Int.emod_nonneg _ (by decide)) (by rw [ln_len]; exact Int.emod_lt_of_pos _ (by decide))
    refine ⟨_, rfl, _, rfl, _, _, rfl, rfl, ⟨by decide, by decide⟩, _, rfl, _, rfl, _, _, rfl, rfl, ⟨by decide, by decide⟩, _, _, rfl, rfl, (show (0 : Int) < 36 by decide), _, _, rfl, rfl, .inr ⟨by omega, by omega⟩, _, _, rfl, rfl, _, _, rfl, rfl, (show (0 : Int) < 36 by decide), LN, _, c, rfl, rfl, small (by show LN.length ≤ 1000000; decide +kernel), hc, ?_⟩
    exact hR _ H' (Same.refl _) (fun _ z => nomatch z) ⟨c, rfl, mc⟩
  obtain ⟨cs, rfl, hcs⟩ := singles (T := cod LN) ys fun y hy' => by
    obtain ⟨i, hi, e⟩ := List.getElem_of_mem hy'
    have lx : i < ((List.range (m : Int).toNat).map fun (i : Nat) => V.int (0 + (i : Int))).length := by rw [← l7]; exact hi
    exact (hy i _ y (List.getElem?_eq_getElem lx) (by rw [List.getElem?_eq_getElem hi, e])).1
  have lc : cs.length = m := by
    rw [List.length_map, List.length_map, List.length_map, List.length_range] at l7
    omega
  refine ⟨l, nilS, _, rfl, rfl, SqL.of h7, fits_singles cs (by omega), q _ H7 s7 ?_⟩
  have ec := cod_singles cs
  have el : (PySem.Txt.join nilS (cs.map fun c => (⟨#[c]⟩ : Str))).length = m := by rw [← cod_len, ec, lc]
  show (decide ((1 : Int) ≤ ((PySem.Txt.join nilS (cs.map fun c => (⟨#[c]⟩ : Str))).length : Int)) && decide (((PySem.Txt.join nilS (cs.map fun c => (⟨#[c]⟩ : Str))).length : Int) ≤ 8) && allIn LN (PySem.Txt.join nilS (cs.map fun c => (⟨#[c]⟩ : Str)))) = true
  unfold allIn
  rw [el, ec, Bool.and_eq_true, Bool.and_eq_true, decide_eq_true_eq, decide_eq_true_eq, List.all_eq_true]
  exact ⟨⟨by omega, by omega⟩, fun c hc => decide_eq_true (hcs c hc)⟩
theorem sl_ints (ns : List Int) {lo hi : Int} (h0 : 0 ≤ lo) (h1 : 0 ≤ hi) : cutV (ns.map V.int) (some lo) (some hi) = ((ns.drop lo.toNat).take (hi.toNat - lo.toNat)).map V.int := by
  rw [cut_lohi h0 h1, ← List.map_drop, ← List.map_take]
theorem sg_len' : (cod SG).length = 94 := by decide +kernel
theorem tags_build {H : Hp} : ∀ (ys : List V), (∀ y ∈ ys, ∃ a t, y = .ref a ∧ tgOk t ∧ H a = some (.tup [.int t.1, .int t.2.1, .int t.2.2])) → ∃ ts : List Tg, ts.length = ys.length ∧ (∀ t ∈ ts, tgOk t) ∧ Reps NL H (ts.map tgT) ys
  | [], _ => ⟨[], rfl, (fun _ h => nomatch h), rfl⟩
  | y :: ys, h => by
    obtain ⟨a, t, rfl, ot, e⟩ := h y List.mem_cons_self
    obtain ⟨ts, l, o, r⟩ := tags_build ys fun y hy => h y (List.mem_cons_of_mem _ hy)
    exact ⟨t :: ts, by rw [List.length_cons, List.length_cons, l], fun u hu => (List.mem_cons.mp hu).elim (fun z => z ▸ ot) (o u), ⟨.ref a, ys, rfl, tg_rep e, r⟩⟩
/-- what comes of each of a comprehension's items -/
theorem each_of {Pr : V → Prop} {xs ys : List V} {n : Nat} (l7 : ys.length = xs.length) (h : ∀ (i : Nat) x y, xs[i]? = some x → ys[i]? = some y → Pr y) : ∀ y ∈ ys, Pr y := fun y hy => by
  obtain ⟨i, hi, e⟩ := List.getElem_of_mem hy
  have lx : i < xs.length := by rw [← l7]; exact hi
  exact h i _ y (List.getElem?_eq_getElem lx) (by rw [List.getElem?_eq_getElem hi, e])
def TgAt (H : Hp) (y : V) : Prop := ∃ a t, y = .ref a ∧ tgOk t ∧ H a = some (.tup [.int t.1, .int t.2.1, .int t.2.2])
theorem TgAt.upd {H : Hp} {y : V} {l : Addr} {us us' : List V} (h : TgAt H y) (hl : H l = some (.lst us)) : TgAt (upd H l (.lst us')) y := by
  obtain ⟨a, t, rfl, ot, e⟩ := h
  exact ⟨a, t, rfl, ot, by rw [upd_ne (fun z => by rw [z, hl] at e; cases e)]; exact e⟩
/-- an entry of the dict of entries -/
def DEnt (H : Hp) (e : Key × V) : Prop := ∃ z p b kd t, e = (.inr z, .ref p) ∧ nameB (.str z) = true ∧ H p = some (.tup [.int kd, .ref b]) ∧ (1 ≤ kd ∧ kd ≤ 2) ∧ tgOk t ∧ H b = some (.tup [.int t.1, .int t.2.1, .int t.2.2])
theorem DEnt.keep {H H' : Hp} {e : Key × V} (h : DEnt H e) (k : ∀ c xs, H c = some (.tup xs) → H' c = some (.tup xs)) : DEnt H' e := by
  obtain ⟨z, p, b, kd, t, e1, e2, e3, e4, e5, e6⟩ := h
  exact ⟨z, p, b, kd, t, e1, e2, k _ _ e3, e4, e5, k _ _ e6⟩
theorem put_mem {kvs : List (Key × V)} {k : Key} {v : V} {e : Key × V} (h : e ∈ putK kvs k v) : e ∈ kvs ∨ e = (k, v) := by
  unfold putK at h
  split at h
  · obtain ⟨x, hx, rfl⟩ := List.mem_map.mp h
    by_cases c : x.1 = k
    · rw [if_pos c, c]; exact .inr rfl
    · rw [if_neg c]; exact .inl hx
  · rcases List.mem_append.mp h with h | h
    · exact .inl h
    · exact .inr (List.mem_singleton.mp h)
theorem put_nodup {kvs : List (Key × V)} {k : Key} {v : V} (h : (kvs.map (·.1)).Nodup) : ((putK kvs k v).map (·.1)).Nodup := by
  unfold putK
  split
  · rw [List.map_map]
    have e : (kvs.map ((fun x : Key × V => x.1) ∘ fun kv => if kv.1 = k then (kv.1, v) else kv)) = kvs.map (·.1) := List.map_congr_left fun x _ => by
      show (if x.1 = k then (x.1, v) else x).1 = x.1
      split <;> rfl
    rw [e]; exact h
  · rename_i c
    rw [List.map_append, List.nodup_append]
    refine ⟨h, by simp, fun a ha b hb => ?_⟩
    rw [List.map_cons, List.map_nil, List.mem_singleton] at hb
    subst hb
    intro z
    subst z
    obtain ⟨x, hx, e⟩ := List.mem_map.mp ha
    exact c (List.any_eq_true.mpr ⟨x, hx, decide_eq_true e⟩)
theorem val_of {kvs : List (Key × V)} {k : Key} (h : k ∈ kvs.map (·.1)) : ∃ v, valV kvs k = some v ∧ (k, v) ∈ kvs := by
  obtain ⟨x, hx, e⟩ := List.mem_map.mp h
  have a : (valV kvs k).isSome = true := by
    rw [← valV_any]
    exact List.any_eq_true.mpr ⟨x, hx, decide_eq_true e⟩
  obtain ⟨v, hv⟩ := Option.isSome_iff_exists.mp a
  refine ⟨v, hv, ?_⟩
  unfold valV at hv
  cases z : kvs.find? fun kv => decide (kv.1 = k) with
  | none => rw [z] at hv; cases hv
  | some y =>
    rw [z] at hv
    injection hv with hv
    have h1 := List.find?_some z
    have h2 := List.mem_of_find?_eq_some z
    have e1 : y.1 = k := of_decide_eq_true h1
    rw [← e1, ← hv]
    exact h2
theorem keys_strs {H : Hp} : ∀ (kvs : List (Key × V)), (∀ e ∈ kvs, DEnt H e) → ∃ ss : List Str, kvs.map (·.1) = ss.map Sum.inr
  | [], _ => ⟨[], rfl⟩
  | e :: r, h => by
    obtain ⟨z, p, b, kd, t, rfl, _⟩ := h e List.mem_cons_self
    obtain ⟨ss, es⟩ := keys_strs r fun x hx => h x (List.mem_cons_of_mem _ hx)
    exact ⟨z :: ss, by rw [List.map_cons, es]; rfl⟩
def EnAt (H : Hp) (z y : V) : Prop := ∃ (x : En) (p b : Addr), z = .str x.nm ∧ y = .ref p ∧ enOk x ∧ H p = some (.tup [.str x.nm, .int x.kd, .ref b]) ∧ H b = some (.tup [.int x.tg.1, .int x.tg.2.1, .int x.tg.2.2])
theorem EnAt.keep {H H' : Hp} {z y : V} (h : EnAt H z y) (k : ∀ c xs, H c = some (.tup xs) → H' c = some (.tup xs)) : EnAt H' z y := by
  obtain ⟨x, p, b, e1, e2, e3, e4, e5⟩ := h
  exact ⟨x, p, b, e1, e2, e3, k _ _ e4, k _ _ e5⟩
theorem ens_build {H : Hp} : ∀ (ts : List Str) (ys : List V), ys.length = (ts.map V.str).length → (∀ (i : Nat) x y, (ts.map V.str)[i]? = some x → ys[i]? = some y → EnAt H x y) → ∃ es : List En, es.map (·.nm) = ts ∧ (∀ x ∈ es, enOk x) ∧ Reps NL H (es.map enT) ys
  | [], [], _, _ => ⟨[], rfl, (fun _ h => nomatch h), rfl⟩
  | [], _ :: _, h, _ => absurd h (by simp)
  | _ :: _, [], h, _ => absurd h (by simp)
  | t :: ts, y :: ys, h, f => by
    obtain ⟨x, p, b, e1, rfl, o, e2, e3⟩ := f 0 _ _ rfl rfl
    obtain ⟨es, n, os, r⟩ := ens_build ts ys (by simpa using h) fun i x y h1 h2 => f (i + 1) x y h1 h2
    injection e1 with e1
    subst e1
    exact ⟨x :: es, by rw [List.map_cons, n], fun u hu => (List.mem_cons.mp hu).elim (fun z => z ▸ o) (os u), ⟨.ref p, ys, rfl, en_rep e2 e3, r⟩⟩
theorem nodup_inr : ∀ (ss : List Str), (ss.map (Sum.inr : Str → Key)).Nodup → ss.Nodup
  | [], _ => List.nodup_nil
  | x :: r, h => by
    rw [List.map_cons, List.nodup_cons] at h
    exact List.nodup_cons.mpr ⟨fun z => h.1 (List.mem_map.mpr ⟨x, z, rfl⟩), nodup_inr r h.2⟩
def sp__law_block (K : PySem.W.Frag) : Sp := fun vs H Q _ => ∃ (a : Addr) (ns : List Int), vs = [.ref a] ∧ H a = some (.lst (ns.map V.int)) ∧ ns.length = 24 ∧ (∀ x ∈ ns, 0 ≤ x ∧ x < 2147483647) ∧ ∀ v b H', Same H H' → bkOk b → Rep NL H' (bkT b) v → Q v H'
theorem ok__law_block (T : Txt K mg) (F : Fun K "_law_block" "_law_block" s__law_block f fd) (D__law_name : Def P w K mg base 1 "_law_name" ["_law_number"] (sp__law_name K)) (D__law_tag : Def P w K mg base 1 "_law_tag" ["_law_number"] (sp__law_tag K)) (D__law_signs : Def P w K mg base 1 "_law_signs" [] (sp__law_signs K)) : FnOk P w K mg base CX0 2 f fd ["_law_some"] (sp__law_block K) := by
  refine F.ok sc__law_block (fun vs H Q E h => ?_) (fun cdv A outer s H vs Q E hr h => ?_)
  · obtain ⟨a, ns, rfl, _⟩ := h
    rfl
  obtain ⟨a, ns, rfl, ha, ln, nb, q⟩ := h
  have hu := hu_of hr
  have nn : ∀ k : Nat, k < 24 → 0 ≤ ns.getD k 0 := fun k hk => by
    have hk' : k < ns.length := by omega
    simp only [List.getD, List.getElem?_eq_getElem hk', Option.getD_some]
    exact (nb _ (List.getElem_mem hk')).1
  have p0 := nn 0 (by decide)
  have p1 := nn 1 (by decide)
  have p2 := nn 2 (by decide)
  have A0 : atI (ns.map V.int) 0 = some (.int (ns.getD 0 0)) := at_int (by decide) (by omega)
  have A1 : atI (ns.map V.int) 1 = some (.int (ns.getD 1 0)) := at_int (by decide) (by omega)
  have A2 : atI (ns.map V.int) 2 = some (.int (ns.getD 2 0)) := at_int (by decide) (by omega)
  generalize ns.getD 0 0 = r0 at p0 A0
  generalize ns.getD 1 0 = r1 at p1 A1
  generalize ns.getD 2 0 = r2 at p2 A2
  refine ⟨_, (@pss_cons _ _ _ _ _ (@ps_if _ _ _ _ _ _ _ _ (@pt_cmpR _ _ _ _ _ _ _ _ op_eq (@pe_op _ _ _ _ _ _ _ _ op_mod (@pe_ix _ _ _ _ _ _ _ ix_list (@pv _ 0 _ _ (by rfl) (by first | exact Or.inl rfl | exact Or.inr (Or.inl rfl) | exact Or.inr (Or.inr rfl)) (by decide) (by decide)) (@pe_int _ _ _ _) (fun _ _ => rfl)) (@pe_int _ _ _ _)) (@pe_int _ _ _ _) (nomark _)) (@pss_one _ _ _ (@ps_ret _ _ _ _ (@pe_tup _ _ _ _ _ (@pa_cons _ _ _ _ _ (@pe_int _ _ _ _) (@pa_cons _ _ _ _ _ (@pe_bm _ _ _ _ _ _ _ _ _ _ _ _ PySem.F.plainAttrs_str PySem.F.slot_str_join PySem.F.type_str_join (mt_join rfl) (@pe_str _ _ _ _) (@pa_cons _ _ _ _ _ (@pe_comp0 _ ["_law_number"] _ _ _ _ _ _ _ _ _ _ rfl (@pi_list _ _ _ _ (@pe_slice _ _ _ _ _ _ _ _ _ _ sl_list (@pv _ 0 _ _ (by rfl) (by first | exact Or.inl rfl | exact Or.inr (Or.inl rfl) | exact Or.inr (Or.inr rfl)) (by decide) (by decide)) (@po_some _ _ _ (@pe_int _ _ _ _)) (@po_some _ _ _ (@pe_op _ _ _ _ _ _ _ _ op_add (@pe_int _ _ _ _) (@pe_op _ _ _ _ _ _ _ _ op_mod (@pe_ix _ _ _ _ _ _ _ ix_list (@pv _ 0 _ _ (by rfl) (by first | exact Or.inl rfl | exact Or.inr (Or.inl rfl) | exact Or.inr (Or.inr rfl)) (by decide) (by decide)) (@pe_int _ _ _ _) (fun _ _ => rfl)) (@pe_int _ _ _ _)))))) (by decide +kernel) (fun C s H fp => ⟨(@pg_name _ _ (0) _ (show (["_law_number"] : List Str).Nodup by decide +kernel) rfl (by first | exact Or.inl rfl | exact Or.inr rfl) (by first | exact .inl rfl | exact .inr rfl | assumption)), (@pifs_nil _), (@pe_ix _ _ _ _ _ _ _ ix_str (@pe_fn0 _ _ _ _ _ _ _ D__law_signs (hr.mono (by decide)) rfl (by decide)) (@pe_op _ _ _ _ _ _ _ _ op_mod (@pv _ 0 _ _ (by rfl) (by first | exact Or.inl rfl | exact Or.inr (Or.inl rfl) | exact Or.inr (Or.inr rfl)) (by decide) (by decide)) (@pe_int _ _ _ _)) (fun _ _ => rfl))⟩) (by intro _; rfl)) (@pa_nil _) (by rfl)) (by rfl) (by rfl) (by rfl) (by rfl) (by rfl)) (@pa_nil _) (by rfl)) (by rfl))))) (@pss_nil _)) (@pss_cons _ _ _ _ _ (@ps_if _ _ _ _ _ _ _ _ (@pt_cmpR _ _ _ _ _ _ _ _ op_eq (@pe_op _ _ _ _ _ _ _ _ op_mod (@pe_ix _ _ _ _ _ _ _ ix_list (@pv _ 0 _ _ (by rfl) (by first | exact Or.inl rfl | exact Or.inr (Or.inl rfl) | exact Or.inr (Or.inr rfl)) (by decide) (by decide)) (@pe_int _ _ _ _) (fun _ _ => rfl)) (@pe_int _ _ _ _)) (@pe_int _ _ _ _) (nomark _)) (@pss_cons _ _ _ _ _ (@ps_set _ _ (1) _ _ _ _ sc__law_block.nd rfl (by first | exact Or.inl rfl | exact Or.inr rfl) (@pe_op _ _ _ _ _ _ _ _ op_add (@pe_int _ _ _ _) (@pe_op _ _ _ _ _ _ _ _ op_mod (@pe_ix _ _ _ _ _ _ _ ix_list (@pv _ 0 _ _ (by rfl) (by first | exact Or.inl rfl | exact Or.inr (Or.inl rfl) | exact Or.inr (Or.inr rfl)) (by decide) (by decide)) (@pe_int _ _ _ _) (fun _ _ => rfl)) (@pe_int _ _ _ _))) (by rfl) (by first | exact .inl rfl | exact .inr rfl | assumption)) (@pss_cons _ _ _ _ _ (@ps_set _ _ (2) _ _ _ _ sc__law_block.nd rfl (by first | exact Or.inl rfl | exact Or.inr rfl) (@pe_callB _ _ _ _ _ _ _ _ _ (call_max2 rfl) (by rfl) T.b_max bt_max (@pa_cons _ _ _ _ _ (@pe_callTy _ _ _ _ _ _ _ _ _ call_int1 (by rfl) T.b_int bt_int (@pa_cons _ _ _ _ _ (@pe_cmpR _ _ _ _ _ _ _ _ op_gt (@pv _ 1 _ _ (by rfl) (by first | exact Or.inl rfl | exact Or.inr (Or.inl rfl) | exact Or.inr (Or.inr rfl)) (by decide) (by decide)) (@pe_int _ _ _ _) (nomark _)) (@pa_nil _) (by rfl)) (by decide) (by decide) (by rfl) (by rfl)) (@pa_cons _ _ _ _ _ (@pe_op _ _ _ _ _ _ _ _ op_mod (@pe_ix _ _ _ _ _ _ _ ix_list (@pv _ 0 _ _ (by rfl) (by first | exact Or.inl rfl | exact Or.inr (Or.inl rfl) | exact Or.inr (Or.inr rfl)) (by decide) (by decide)) (@pe_int _ _ _ _) (fun _ _ => rfl)) (@pe_int _ _ _ _)) (@pa_nil _) (by rfl)) (by rfl)) (by decide) (by decide) (by rfl) (by rfl)) (by rfl) (by first | exact .inl rfl | exact .inr rfl | assumption)) (@pss_one _ _ _ (@ps_ret _ _ _ _ (@pe_tup _ _ _ _ _ (@pa_cons _ _ _ _ _ (@pe_int _ _ _ _) (@pa_cons _ _ _ _ _ (@pv _ 1 _ _ (by rfl) (by first | exact Or.inl rfl | exact Or.inr (Or.inl rfl) | exact Or.inr (Or.inr rfl)) (by decide) (by decide)) (@pa_cons _ _ _ _ _ (@pe_callTy _ _ _ _ _ _ _ _ _ call_tuple_of (by rfl) T.b_tuple bt_tuple (@pa_cons _ _ _ _ _ (@pe_comp0 _ ["_law_number"] _ _ _ _ _ _ _ _ _ _ rfl (@pi_list _ _ _ _ (@pe_slice _ _ _ _ _ _ _ _ _ _ sl_list (@pv _ 0 _ _ (by rfl) (by first | exact Or.inl rfl | exact Or.inr (Or.inl rfl) | exact Or.inr (Or.inr rfl)) (by decide) (by decide)) (@po_some _ _ _ (@pe_int _ _ _ _)) (@po_some _ _ _ (@pe_op _ _ _ _ _ _ _ _ op_add (@pe_int _ _ _ _) (@pv _ 2 _ _ (by rfl) (by first | exact Or.inl rfl | exact Or.inr (Or.inl rfl) | exact Or.inr (Or.inr rfl)) (by decide) (by decide)))))) (by decide +kernel) (fun C s H fp => ⟨(@pg_name _ _ (0) _ (show (["_law_number"] : List Str).Nodup by decide +kernel) rfl (by first | exact Or.inl rfl | exact Or.inr rfl) (by first | exact .inl rfl | exact .inr rfl | assumption)), (@pifs_nil _), (@pe_fn _ _ _ _ _ _ _ _ _ _ D__law_tag (hr.mono (by decide)) rfl (@pa_cons _ _ _ _ _ (@pv _ 0 _ _ (by rfl) (by first | exact Or.inl rfl | exact Or.inr (Or.inl rfl) | exact Or.inr (Or.inr rfl)) (by decide) (by decide)) (@pa_nil _) (by rfl)) (by decide) (by rfl) (by rfl))⟩) (by intro _; rfl)) (@pa_nil _) (by rfl)) (by decide) (by decide) (by rfl) (by rfl)) (@pa_nil _) (by rfl)) (by rfl)) (by rfl))))))) (@pss_nil _)) (@pss_cons _ _ _ _ _ (@ps_set _ _ (3) _ _ _ _ sc__law_block.nd rfl (by first | exact Or.inl rfl | exact Or.inr rfl) (@pe_dnewK _ _) (by rfl) (by first | exact .inl rfl | exact .inr rfl | assumption)) (@pss_cons _ _ _ _ _ (@ps_for _ _ _ _ _ _ _ _ PassesOwn.never rfl (@pi_list _ _ _ _ (@pe_slice _ _ _ _ _ _ _ _ _ _ sl_list (@pv _ 0 _ _ (by rfl) (by first | exact Or.inl rfl | exact Or.inr (Or.inl rfl) | exact Or.inr (Or.inr rfl)) (by decide) (by decide)) (@po_some _ _ _ (@pe_int _ _ _ _)) (@po_some _ _ _ (@pe_op _ _ _ _ _ _ _ _ op_add (@pe_int _ _ _ _) (@pe_op _ _ _ _ _ _ _ _ op_mod (@pe_ix _ _ _ _ _ _ _ ix_list (@pv _ 0 _ _ (by rfl) (by first | exact Or.inl rfl | exact Or.inr (Or.inl rfl) | exact Or.inr (Or.inr rfl)) (by decide) (by decide)) (@pe_int _ _ _ _) (fun _ _ => rfl)) (@pe_int _ _ _ _)))))) (@pg_name _ _ (4) _ sc__law_block.nd rfl (by first | exact Or.inl rfl | exact Or.inr rfl) (by first | exact .inl rfl | exact .inr rfl | assumption)) (@pss_one _ _ _ (@ps_dput _ _ _ _ _ _ _ _ _ hu (@pv _ 3 _ _ (by rfl) (by first | exact Or.inl rfl | exact Or.inr (Or.inl rfl) | exact Or.inr (Or.inr rfl)) (by decide) (by decide)) (@pe_fn _ _ _ _ _ _ _ _ _ _ D__law_name (hr.mono (by decide)) rfl (@pa_cons _ _ _ _ _ (@pv _ 4 _ _ (by rfl) (by first | exact Or.inl rfl | exact Or.inr (Or.inl rfl) | exact Or.inr (Or.inr rfl)) (by decide) (by decide)) (@pa_nil _) (by rfl)) (by decide) (by rfl) (by rfl)) (@pe_tup _ _ _ _ _ (@pa_cons _ _ _ _ _ (@pe_op _ _ _ _ _ _ _ _ op_add (@pe_int _ _ _ _) (@pe_op _ _ _ _ _ _ _ _ op_mod (@pe_op _ _ _ _ _ _ _ _ op_fdiv (@pv _ 4 _ _ (by rfl) (by first | exact Or.inl rfl | exact Or.inr (Or.inl rfl) | exact Or.inr (Or.inr rfl)) (by decide) (by decide)) (@pe_int _ _ _ _)) (@pe_int _ _ _ _))) (@pa_cons _ _ _ _ _ (@pe_fn _ _ _ _ _ _ _ _ _ _ D__law_tag (hr.mono (by decide)) rfl (@pa_cons _ _ _ _ _ (@pe_op _ _ _ _ _ _ _ _ op_mod (@pe_op _ _ _ _ _ _ _ _ op_mul (@pv _ 4 _ _ (by rfl) (by first | exact Or.inl rfl | exact Or.inr (Or.inl rfl) | exact Or.inr (Or.inr rfl)) (by decide) (by decide)) (@pe_int _ _ _ _)) (@pe_int _ _ _ _)) (@pa_nil _) (by rfl)) (by decide) (by rfl) (by rfl)) (@pa_nil _) (by rfl)) (by rfl))) rfl)) (by intro _; rfl)) (@pss_one _ _ _ (@ps_ret _ _ _ _ (@pe_tup _ _ _ _ _ (@pa_cons _ _ _ _ _ (@pe_int _ _ _ _) (@pa_cons _ _ _ _ _ (@pe_callTy _ _ _ _ _ _ _ _ _ call_tuple_of (by rfl) T.b_tuple bt_tuple (@pa_cons _ _ _ _ _ (@pe_comp _ ["_law_name_here", "_law_entries"] [none, some 3] _ _ _ _ _ _ _ _ _ _ _ rfl (@pi_list _ _ _ _ (@pe_callB _ _ _ _ _ _ _ _ _ (call_sortD rfl) (by rfl) T.b_sorted bt_sorted (@pa_cons _ _ _ _ _ (@pv _ 3 _ _ (by rfl) (by first | exact Or.inl rfl | exact Or.inr (Or.inl rfl) | exact Or.inr (Or.inr rfl)) (by decide) (by decide)) (@pa_nil _) (by rfl)) (by decide) (by decide) (by rfl) (by rfl))) (by rfl) rfl (by repeat (first | exact trivial | refine ⟨rfl, ?_⟩)) (by repeat (first | exact trivial | refine ⟨fun h => (by first | exact ⟨_, rfl⟩ | cases h), ?_⟩)) (fun C s H fp => ⟨(@pg_name _ _ (0) _ (show (["_law_name_here", "_law_entries"] : List Str).Nodup by decide +kernel) rfl (by first | exact Or.inl rfl | exact Or.inr rfl) (by first | exact .inl rfl | exact .inr rfl | assumption)), (@pifs_nil _), (@pe_op _ _ _ _ _ _ _ _ (op_catT3K (K := K) (by rfl)) (@pe_tup _ _ _ _ _ (@pa_cons _ _ _ _ _ (@pv _ 0 _ _ (by rfl) (by first | exact Or.inl rfl | exact Or.inr (Or.inl rfl) | exact Or.inr (Or.inr rfl)) (by decide) (by decide)) (@pa_nil _) (by rfl))) (@pe_dget _ _ _ _ _ _ hu (@pv _ 1 _ _ (by rfl) (by first | exact Or.inl rfl | exact Or.inr (Or.inl rfl) | exact Or.inr (Or.inr rfl)) (by decide) (by decide)) (@pv _ 0 _ _ (by rfl) (by first | exact Or.inl rfl | exact Or.inr (Or.inl rfl) | exact Or.inr (Or.inr rfl)) (by decide) (by decide)) (fun _ _ => rfl)))⟩) (by intro _; rfl)) (@pa_nil _) (by rfl)) (by decide) (by decide) (by rfl) (by rfl)) (@pa_nil _) (by rfl)) (by rfl))))))))), ?_⟩
  refine ⟨_, rfl, a, _, _, _, rfl, rfl, SqL.of ha, A0, _, _, rfl, rfl, (show (0 : Int) < 3 by decide), rfl, _, rfl, ite2 (fun c => ?_) (fun c => ?_)⟩
  · refine ⟨rfl, _, rfl, 2, rfl, _, rfl, a, _, _, _, rfl, rfl, SqL.of ha, A1, _, _, rfl, rfl, (show (0 : Int) < 8 by decide), _, _, rfl, rfl, _, rfl, a, _, rfl, SqL.of ha, fun p hp => ?_⟩
    rw [sl_ints ns (by decide) (by omega)]
    have s1 := same_new hp (.lst (((ns.drop (2 : Int).toNat).take ((3 + r1 % 8).toNat - (2 : Int).toNat)).map V.int))
    have lm : ((ns.drop (2 : Int).toNat).take ((3 + r1 % 8).toNat - (2 : Int).toNat)).length = (1 + r1 % 8).toNat := by
      rw [List.length_take, List.length_drop, ln]
      show min ((3 + r1 % 8).toNat - 2) (24 - 2) = _
      omega
    refine ⟨p, rfl, ⟨_, SqL.of upd_same⟩, comp_rel (xs := ((ns.drop (2 : Int).toNat).take ((3 + r1 % 8).toNat - (2 : Int).toNat)).map V.int) (fun _ y _ => ∃ c, y = .str ⟨#[c]⟩ ∧ c ∈ cod SG) (fun _ _ _ _ h _ => h) (fun _ _ _ _ _ _ h _ _ => h) (itIs_list (SqL.of upd_same)) (by rw [List.length_map, lm]; omega) (fun x H' R hx s' hR => ?_) fun l H7 ys n7 s7 h7 l7 hy => ?_⟩
    · obtain ⟨k, hk, rfl⟩ := List.mem_map.mp hx
      obtain ⟨c, hc, mc⟩ := at_cod (z := SG) (i := k % 94) (Int.emod_nonneg _ (by decide)) (by rw [sg_len']; exact Int.emod_lt_of_pos _ (by decide))
      exact ⟨rfl, _, rfl, _, _, rfl, rfl, (show (0 : Int) < 94 by decide), SG, _, c, rfl, rfl, small (by show SG.length ≤ 1000000; decide +kernel), hc, hR _ H' (Same.refl _) (fun _ z => nomatch z) ⟨c, rfl, mc⟩⟩
    obtain ⟨cs, rfl, hcs⟩ := singles (T := cod SG) ys (each_of (n := 0) l7 fun i x y h1 h2 => (hy i x y h1 h2).1)
    have lc : cs.length = (1 + r1 % 8).toNat := by
      rw [List.length_map, List.length_map, List.length_map, lm] at l7
      exact l7
    have ec := cod_singles cs
    have el : (PySem.Txt.join nilS (cs.map fun c => (⟨#[c]⟩ : Str))).length = (1 + r1 % 8).toNat := by rw [← cod_len, ec, lc]
    refine ⟨l, nilS, _, rfl, rfl, SqL.of h7, fits_singles cs (by omega), small (by show 2 ≤ 1000000; decide), fun p2 hp2 => ?_⟩
    refine q _ (.piece (PySem.Txt.join nilS (cs.map fun c => (⟨#[c]⟩ : Str)))) _ ((s1.trans s7).trans (same_new hp2 _)) ?_ ⟨p2, _, rfl, upd_same, _, _, rfl, rfl, _, _, rfl, rfl, rfl⟩
    show (decide ((1 : Int) ≤ ((PySem.Txt.join nilS (cs.map fun c => (⟨#[c]⟩ : Str))).length : Int)) && decide (((PySem.Txt.join nilS (cs.map fun c => (⟨#[c]⟩ : Str))).length : Int) ≤ 8) && allIn SG (PySem.Txt.join nilS (cs.map fun c => (⟨#[c]⟩ : Str)))) = true
    unfold allIn
    rw [el, ec, Bool.and_eq_true, Bool.and_eq_true, decide_eq_true_eq, decide_eq_true_eq, List.all_eq_true]
    exact ⟨⟨by omega, by omega⟩, fun c hc => decide_eq_true (hcs c hc)⟩
  refine ⟨_, rfl, a, _, _, _, rfl, rfl, SqL.of ha, A0, _, _, rfl, rfl, (show (0 : Int) < 3 by decide), rfl, _, rfl, ite2 (fun c => ?_) (fun c => ?_)⟩
  · refine ⟨_, rfl, a, _, _, _, rfl, rfl, SqL.of ha, A1, _, _, rfl, rfl, (show (0 : Int) < 9 by decide), _, _, rfl, rfl, ?_⟩
    refine ⟨_, rfl, _, _, rfl, rfl, .inr ⟨_, rfl, _, rfl, a, _, _, _, rfl, rfl, SqL.of ha, A2, _, _, rfl, rfl, (show (0 : Int) < 9 by decide), _, _, rfl, ?_⟩⟩
    dsimp only
    obtain ⟨m, hm, m8, m1⟩ : ∃ m : Nat, (if r2 % 9 > (if decide (1 < 1 + r1 % 9) = true then (1 : Int) else 0) then r2 % 9 else (if decide (1 < 1 + r1 % 9) = true then (1 : Int) else 0)) = (m : Int) ∧ m ≤ 8 ∧ (1 < 1 + r1 % 9 → 1 ≤ m) := by
      by_cases c1 : 1 < 1 + r1 % 9
      · rw [decide_eq_true c1, if_pos rfl]
        by_cases c2 : r2 % 9 > 1
        · rw [if_pos c2]; exact ⟨(r2 % 9).toNat, by omega, by omega, by omega⟩
        · rw [if_neg c2]; exact ⟨1, rfl, by decide, fun _ => Nat.le_refl _⟩
      · rw [decide_eq_false c1, if_neg Bool.false_ne_true]
        by_cases c2 : r2 % 9 > 0
        · rw [if_pos c2]; exact ⟨(r2 % 9).toNat, by omega, by omega, by omega⟩
        · rw [if_neg c2]; exact ⟨0, rfl, by decide, fun z => absurd z c1⟩
    rw [hm]
    refine ⟨_, rfl, _, rfl, 3, rfl, _, rfl, _, _, rfl, rfl, _, rfl, a, _, rfl, SqL.of ha, fun p hp => ?_⟩
    rw [sl_ints ns (by decide) (by omega)]
    have s1 := same_new hp (.lst (((ns.drop (3 : Int).toNat).take ((3 + (m : Int)).toNat - (3 : Int).toNat)).map V.int))
    have lm : ((ns.drop (3 : Int).toNat).take ((3 + (m : Int)).toNat - (3 : Int).toNat)).length = m := by
      rw [List.length_take, List.length_drop, ln]
      show min ((3 + (m : Int)).toNat - 3) (24 - 3) = _
      omega
    refine ⟨p, rfl, ⟨_, SqL.of upd_same⟩, comp_rel (xs := ((ns.drop (3 : Int).toNat).take ((3 + (m : Int)).toNat - (3 : Int).toNat)).map V.int) (fun _ y H => TgAt H y) (fun _ y _ _ h s => let ⟨a, t, e1, e2, e3⟩ := h; ⟨a, t, e1, e2, s.get e3⟩) (fun _ _ _ _ _ _ h hl _ => h.upd hl) (itIs_list (SqL.of upd_same)) (by rw [List.length_map, lm]; omega) (fun x H' R hx s' hR => ?_) fun l H7 ys n7 s7 h7 l7 hy => ?_⟩
    · obtain ⟨k, hk, rfl⟩ := List.mem_map.mp hx
      have bk := nb k (List.mem_of_mem_drop (List.mem_of_mem_take hk))
      exact ⟨_, rfl, k, rfl, bk.1, bk.2, fun b t H3 s3 nb3 ot hb => hR _ H3 s3 (fun x e => by cases e; exact nb3) ⟨b, t, rfl, ot, hb⟩⟩
    obtain ⟨ts, lt, ot, rt⟩ := tags_build ys (each_of (n := 0) l7 fun i x y h1 h2 => (hy i x y h1 h2).1)
    rw [List.length_map, lm] at l7
    refine ⟨l, ys, rfl, .inl ⟨SqL.of h7, fun p2 hp2 => ?_⟩⟩
    have s2 := same_new hp2 (.tup ys)
    refine ⟨small (by show 3 ≤ 1000000; decide), fun p3 hp3 => ?_⟩
    have s3 := same_new hp3 (.tup [V.int 1, V.int (1 + r1 % 9), V.ref p2])
    refine q _ (.row (1 + r1 % 9) ts) _ (((s1.trans s7).trans s2).trans s3) ⟨⟨by omega, by omega⟩, by omega, fun z y => ?_, ot⟩ ⟨p3, _, rfl, upd_same, _, _, rfl, rfl, _, _, rfl, rfl, _, _, rfl, ⟨p2, ys, rfl, s3.get upd_same, Reps.same (s2.trans s3) _ _ rt⟩, rfl⟩
    rw [y] at lt
    have := m1 z
    simp at lt
    omega
  refine fun d hd => ?_
  have sd := same_new hd (.dK [])
  refine ⟨_, rfl, 2, rfl, _, rfl, a, _, _, _, rfl, rfl, SqL.of (sd.get ha), A1, _, _, rfl, rfl, (show (0 : Int) < 17 by decide), _, _, rfl, rfl, _, rfl, a, _, rfl, SqL.of (sd.get ha), fun p hp => ?_⟩
  rw [sl_ints ns (by decide) (by omega)]
  have lm : ((ns.drop (2 : Int).toNat).take ((2 + r1 % 17).toNat - (2 : Int).toNat)).length ≤ 16 := by
    rw [List.length_take, List.length_drop, ln]
    show min ((2 + r1 % 17).toNat - 2) (24 - 2) ≤ _
    omega
  have bm : ∀ k ∈ (ns.drop (2 : Int).toNat).take ((2 + r1 % 17).toNat - (2 : Int).toNat), 0 ≤ k ∧ k < 2147483647 := fun k hk => nb k (List.mem_of_mem_drop (List.mem_of_mem_take hk))
  generalize (ns.drop (2 : Int).toNat).take ((2 + r1 % 17).toNat - (2 : Int).toNat) = ms at lm bm
  have sp := same_new hp (.lst (ms.map V.int))
  have pd : p ≠ d := fun z => by rw [z] at hp; rw [upd_same] at hp; cases hp
  refine ⟨p, rfl, ⟨_, SqL.of upd_same⟩, for_list (K := K) (a := p) (xs := ms.map V.int) (fun i σ H2 => ∃ v4 kvs, σ = [some (.ref a), none, none, some (.ref d), v4] ∧ Same H H2 ∧ H2 d = some (.dK kvs) ∧ H2 p = some (.lst (ms.map V.int)) ∧ kvs.length ≤ i ∧ (kvs.map (·.1)).Nodup ∧ ∀ e ∈ kvs, DEnt H2 e) ⟨none, [], rfl, sd.trans sp, sp.get upd_same, upd_same, Nat.le_refl _, List.nodup_nil, fun _ h => nomatch h⟩ (fun i σ H2 _ ⟨_, _, _, _, _, h, _⟩ => SqL.of h) ?_ ?_⟩
  · rintro i y σ H2 hi ⟨v4, kvs, rfl, s2, hd2, hp2, lk, nk, ek⟩
    obtain ⟨n, rfl, hn⟩ := ints_get hi
    have bn := bm n (List.mem_of_getElem? hn)
    have il := (List.getElem?_eq_some_iff.mp hn).1
    refine ⟨_, rfl, _, _, rfl, rfl, ⟨by decide, by decide⟩, _, _, rfl, rfl, (show (0 : Int) < 2 by decide), _, _, rfl, rfl, _, rfl, _, _, rfl, rfl, .inr ⟨by decide, by decide⟩, _, _, rfl, rfl, (show (0 : Int) < 2147483647 by decide), _, rfl, by omega, by omega, fun b t H3 s3 nb3 ot hb => ?_⟩
    refine ⟨small (by show 2 ≤ 1000000; decide), fun pp hpp => ?_⟩
    have s4 := same_new hpp (.tup [V.int (1 + n / 7 % 2), V.ref b])
    refine ⟨_, rfl, _, rfl, n, rfl, bn.1, fun z H5 s5 nz => ?_⟩
    have s25 := (s3.trans s4).trans s5
    have hd5 := s25.get hd2
    refine ⟨d, _, rfl, DPut.k (k := Sum.inr z) hd5 (by rw [PySem.sizeLine_eq]; omega), ?_⟩
    have keepT : ∀ c xs, H5 c = some (.tup xs) → (upd H5 d (.dK (putK kvs (Sum.inr z) (V.ref pp)))) c = some (.tup xs) := fun c xs e => by rw [upd_ne (fun y => by rw [y, hd5] at e; cases e)]; exact e
    refine ⟨_, _, rfl, same_upd (s2.trans s25) hd _, upd_same, ?_, ?_, put_nodup nk, fun e he => ?_⟩
    · rw [upd_ne pd]; exact s25.get hp2
    · exact Nat.le_trans (length_putK ..) (by omega)
    · rcases put_mem he with he | rfl
      · exact (ek e he).keep fun c xs h => keepT c xs (s25.get h)
      · exact ⟨z, pp, b, 1 + n / 7 % 2, t, rfl, nz, keepT _ _ (s5.get upd_same), by omega, ot, keepT _ _ (s5.get (s4.get hb))⟩
  rintro σ H2 ⟨v4, kvs, rfl, s2, hd2, hp2, lk, nk, ek⟩
  obtain ⟨ss, es⟩ := keys_strs kvs ek
  have lss : ss.length ≤ 16 := by
    have := congrArg List.length es
    rw [List.length_map, List.length_map] at this
    rw [List.length_map] at lk
    omega
  refine ⟨_, rfl, d, kvs, ss, rfl, hd2, es, by omega, fun ts p2 pt st hp2' => ?_⟩
  have s3 := same_new hp2' (.lst (ts.map V.str))
  have hd3 := s3.get hd2
  have lts := pt.length_eq
  refine ⟨p2, rfl, ⟨_, SqL.of upd_same⟩, comp_rel (xs := ts.map V.str) (fun x y H => EnAt H x y) (fun _ y _ _ h s => h.keep fun c xs e => s.get e) (fun _ _ _ _ _ _ h hl _ => h.keep fun c xs e => by rw [upd_ne (fun z => by rw [z, hl] at e; cases e)]; exact e) (itIs_list (SqL.of upd_same)) (by rw [List.length_map]; omega) (fun x H' R hx s' hR => ?_) fun l H7 ys n7 s7 h7 l7 hy => ?_⟩
  · obtain ⟨z, hz, rfl⟩ := List.mem_map.mp hx
    obtain ⟨v, hv, mv⟩ := val_of (kvs := kvs) (k := Sum.inr z) (by rw [es]; exact List.mem_map.mpr ⟨z, pt.mem_iff.mp hz, rfl⟩)
    obtain ⟨z', p', b, kd, t, e1, e2, e3, e4, e5, e6⟩ := ek _ mv
    cases e1
    refine ⟨_, rfl, small (by show 1 ≤ 1000000; decide), fun p1 hp1 => ?_⟩
    have t1 := same_new hp1 (.tup [V.str z])
    have dg := DGet.k (k := Sum.inr z) (t1.get (s'.get hd3))
    rw [hv] at dg
    have u := (s3.trans s').trans t1
    refine ⟨_, rfl, _, rfl, d, _, rfl, dg, p1, p', _, _, rfl, rfl, SqT.of upd_same, SqT.of (u.get e3), small (by show 1 + 2 ≤ 1000000; decide), (fun z => nomatch z), (fun _ z => nomatch z), fun _ _ p3 hp3 => ?_⟩
    have t2 := same_new hp3 (.tup [V.str z, V.int kd, V.ref b])
    exact hR _ _ (t1.trans t2) (fun x e => by cases e; exact t1.free hp3) ⟨⟨z, kd, t⟩, p3, b, rfl, rfl, ⟨e2, e4, e5⟩, upd_same, t2.get (u.get e6)⟩
  obtain ⟨es2, nm, oe, re⟩ := ens_build ts ys l7 fun i x y h1 h2 => (hy i x y h1 h2).1
  refine ⟨l, ys, rfl, .inl ⟨SqL.of h7, fun p3 hp3 => ?_⟩⟩
  have s4 := same_new hp3 (.tup ys)
  refine ⟨small (by show 2 ≤ 1000000; decide), fun p4 hp4 => ?_⟩
  have s5 := same_new hp4 (.tup [V.int 2, V.ref p3])
  have nss : ss.Nodup := by
    rw [es] at nk
    exact nodup_inr ss nk
  refine q _ (.folder es2) _ ((((s2.trans s3).trans s7).trans s4).trans s5) ⟨?_, oe, by rw [nm]; exact st, by rw [nm]; exact pt.nodup_iff.mpr nss⟩ ⟨p4, _, rfl, upd_same, _, _, rfl, rfl, _, _, rfl, ⟨p3, ys, rfl, s5.get upd_same, Reps.same (s4.trans s5) _ _ re⟩, rfl⟩
  have := congrArg List.length nm
  rw [List.length_map] at this
  omega
def sp_cop (n : Nat) (K : PySem.W.Frag) : Sp := fun vs H Q _ => ∃ (v : V) (t : Tr), vs = [v] ∧ t.dep ≤ n ∧ Rep All H t v ∧ t.ok ∧ ∀ v' H', Same H H' → Rep (fun a => H a = none) H' t v' → Q v' H'
def sp__law_copied (K : PySem.W.Frag) : Sp := sp_cop 20 K
theorem dep_pos : ∀ t : Tr, 1 ≤ t.dep
  | .non | .bl _ | .int _ | .str _ => Nat.le_refl _
  | .tup ts => Nat.le_add_right 1 _
  | .lst ts => Nat.le_add_right 1 _
theorem reps_of {F : Addr → Prop} {H : Hp} : ∀ {ts : List Tr} {vs : List V}, vs.length = ts.length → (∀ (i : Nat) t v, ts[i]? = some t → vs[i]? = some v → Rep F H t v) → Reps F H ts vs
  | [], [], _, _ => rfl
  | t :: ts, v :: vs, hl, h => ⟨v, vs, rfl, h 0 t v rfl rfl, reps_of (by simpa using hl) fun i t' v' h1 h2 => h (i + 1) t' v' (by simpa using h1) (by simpa using h2)⟩
theorem cop_step (T : Txt K mg) (F : Fun K "_law_copied" "_law_copied" s__law_copied f fd) (n : Nat) (D__law_copied : Def P w K mg base (1 + n) "_law_copied" ["_law_thing"] (sp_cop n K)) : FnOk P w K mg base CX0 (1 + n + 1) f fd ["_law_thing"] (sp_cop (n + 1) K) := by
  refine F.ok sc__law_copied (fun vs H Q E h => ?_) (fun cdv A outer s H vs Q E hr h => ?_)
  · obtain ⟨v, t, rfl, _⟩ := h
    rfl
  obtain ⟨v, t, rfl, hd, hv, ok, q⟩ := h
  have okv := hv.ok ok
  have ety := hv.tyN
  refine ⟨_, (@pss_cons _ _ _ _ _ (@ps_if _ _ _ _ _ _ _ _ (@pt_val _ _ _ (@pe_callB _ _ _ _ _ _ _ _ _ call_isinst (by rfl) T.b_isinstance bt_isinstance (@pa_cons _ _ _ _ _ (@pv _ 0 _ _ (by rfl) (by first | exact Or.inl rfl | exact Or.inr (Or.inl rfl) | exact Or.inr (Or.inr rfl)) (by decide) (by decide)) (@pa_cons _ _ _ _ _ (@pe_ty _ _ _ _ rfl T.b_list bt_list (by decide) (by decide)) (@pa_nil _) (by rfl)) (by rfl)) (by decide) (by decide) (by rfl) (by rfl)) (by intro _; rfl)) (@pss_one _ _ _ (@ps_ret _ _ _ _ (@pe_comp0 _ ["_law_part"] _ _ _ _ _ _ _ _ _ _ rfl (@pi_list _ _ _ _ (@pv _ 0 _ _ (by rfl) (by first | exact Or.inl rfl | exact Or.inr (Or.inl rfl) | exact Or.inr (Or.inr rfl)) (by decide) (by decide))) (by decide +kernel) (fun C s H fp => ⟨(@pg_name _ _ (0) _ (show (["_law_part"] : List Str).Nodup by decide +kernel) rfl (by first | exact Or.inl rfl | exact Or.inr rfl) (by first | exact .inl rfl | exact .inr rfl | assumption)), (@pifs_nil _), (@pe_fn _ _ _ _ _ _ _ _ _ _ D__law_copied (hr.mono (by omega)) rfl (@pa_cons _ _ _ _ _ (@pv _ 0 _ _ (by rfl) (by first | exact Or.inl rfl | exact Or.inr (Or.inl rfl) | exact Or.inr (Or.inr rfl)) (by decide) (by decide)) (@pa_nil _) (by rfl)) (by decide) (by rfl) (by rfl))⟩) (by intro _; rfl)))) (@pss_nil _)) (@pss_cons _ _ _ _ _ (@ps_if _ _ _ _ _ _ _ _ (@pt_val _ _ _ (@pe_callB _ _ _ _ _ _ _ _ _ call_isinst (by rfl) T.b_isinstance bt_isinstance (@pa_cons _ _ _ _ _ (@pv _ 0 _ _ (by rfl) (by first | exact Or.inl rfl | exact Or.inr (Or.inl rfl) | exact Or.inr (Or.inr rfl)) (by decide) (by decide)) (@pa_cons _ _ _ _ _ (@pe_ty _ _ _ _ rfl T.b_tuple bt_tuple (by decide) (by decide)) (@pa_nil _) (by rfl)) (by rfl)) (by decide) (by decide) (by rfl) (by rfl)) (by intro _; rfl)) (@pss_one _ _ _ (@ps_ret _ _ _ _ (@pe_callTy _ _ _ _ _ _ _ _ _ call_tuple_of (by rfl) T.b_tuple bt_tuple (@pa_cons _ _ _ _ _ (@pe_comp0 _ ["_law_part"] _ _ _ _ _ _ _ _ _ _ rfl (@pi_tup _ _ _ _ (@pv _ 0 _ _ (by rfl) (by first | exact Or.inl rfl | exact Or.inr (Or.inl rfl) | exact Or.inr (Or.inr rfl)) (by decide) (by decide))) (by decide +kernel) (fun C s H fp => ⟨(@pg_name _ _ (0) _ (show (["_law_part"] : List Str).Nodup by decide +kernel) rfl (by first | exact Or.inl rfl | exact Or.inr rfl) (by first | exact .inl rfl | exact .inr rfl | assumption)), (@pifs_nil _), (@pe_fn _ _ _ _ _ _ _ _ _ _ D__law_copied (hr.mono (by omega)) rfl (@pa_cons _ _ _ _ _ (@pv _ 0 _ _ (by rfl) (by first | exact Or.inl rfl | exact Or.inr (Or.inl rfl) | exact Or.inr (Or.inr rfl)) (by decide) (by decide)) (@pa_nil _) (by rfl)) (by decide) (by rfl) (by rfl))⟩) (by intro _; rfl)) (@pa_nil _) (by rfl)) (by decide) (by decide) (by rfl) (by rfl)))) (@pss_nil _)) (@pss_one _ _ _ (@ps_ret _ _ _ _ (@pv _ 0 _ _ (by rfl) (by first | exact Or.inl rfl | exact Or.inr (Or.inl rfl) | exact Or.inr (Or.inr rfl)) (by decide) (by decide)))))), ?_⟩
  dsimp only [cxOf, Cx.nox, Cx.wish, gName, tNext, tSeq, tIfS]
  refine ⟨_, rfl, _, _, _, _, rfl, okv.ty K, okv.kit K, _, rfl, ?_⟩
  have flat : ∀ (h1 : isA t.ty "list" = false) (h2 : isA t.ty "tuple" = false), Rep (fun a => H a = none) H t v := fun h1 h2 => by
    cases t with
    | tup ts => exact absurd (show isA "tuple" "tuple" = false from h2) (by decide)
    | lst ts => exact absurd (show isA "list" "list" = false from h1) (by decide)
    | _ => exact hv
  have elt : ∀ (ts : List Tr) (vs : List V), Reps All H ts vs → Tr.oks ts → 1 + Tr.deps ts ≤ n + 1 → ∀ (i : Nat) (x : V) (H' : Hp) (R : VK), vs[i]? = some x → Same H H' → (∀ y H'', Same H' H'' → Rep (fun a => H' a = none) H'' (ts.getD i .non) y → R y H'') → sp_cop n K [x] H' R E0 := fun ts vs hrs oks hd i x H' R hx s' hR => by
    obtain ⟨tx, et, rx⟩ := Reps.get hrs hx
    have eg : ts.getD i .non = tx := by simp [List.getD, et]
    have := Tr.deps_get et
    rw [eg] at hR
    exact ⟨x, tx, rfl, by omega, Rep.same s' _ _ rx, Tr.oks_get oks et, hR⟩
  have fin : ∀ (ts : List Tr) (ys : List V) (H' : Hp), ys.length = ts.length → (∀ (i : Nat) y, ys[i]? = some y → ∃ H1, Same H H1 ∧ Rep (fun a => H1 a = none) H' (ts.getD i .non) y) → Reps (fun a => H a = none) H' ts ys := fun ts ys H' hl h =>
    reps_of hl fun i t y ht hy => by
      obtain ⟨H1, s1, r1⟩ := h i y hy
      have eg : ts.getD i .non = t := by simp [List.getD, ht]
      rw [eg] at r1
      exact Rep.mono (fun a e => s1.free e) _ _ r1
  have hPm : ∀ (ts : List Tr) (i : Nat) (H1 : Hp) (y : V) (H2 H3 : Hp), Rep (fun a => H1 a = none) H2 (ts.getD i .non) y → Same H2 H3 → Rep (fun a => H1 a = none) H3 (ts.getD i .non) y := fun ts i H1 y H2 H3 h s => Rep.same s _ _ h
  have hUm : ∀ (ts : List Tr) (i : Nat) (H1 : Hp) (y : V) (H2 : Hp) (l : Addr) (us us' ws : List V), Rep (fun a => H1 a = none) H2 (ts.getD i .non) y → H1 l = some (.lst ws) → H2 l = some (.lst us) → Rep (fun a => H1 a = none) (upd H2 l (.lst us')) (ts.getD i .non) y := fun ts i H1 y H2 l us us' ws h h1 h2 => Rep.upd h2 (fun z => by rw [h1] at z; cases z) _ _ h
  rw [ety]
  cases t with
  | lst ts =>
    obtain ⟨a, vs, rfl, _, ha, hrs⟩ := hv
    obtain ⟨okl, oks⟩ := ok
    have lv := Reps.len ts vs hrs
    refine iteTc (by show isA "list" "list" = true; decide) ?_
    refine ⟨_, rfl, a, rfl, ⟨_, SqL.of ha⟩, ?_⟩
    refine comp_new (fun i H1 y H2 => Rep (fun a => H1 a = none) H2 (ts.getD i .non) y) (hPm ts) (hUm ts) (itIs_list (SqL.of ha)) (by omega) (fun i x H' R hx s' hR => ⟨_, rfl, elt ts vs hrs oks hd i x H' R hx s' hR⟩) fun l H7 ys n7 s7 h7 ly hy => ?_
    exact q _ _ s7 ⟨l, ys, rfl, n7, h7, fin ts ys H7 (by rw [ly, lv]) hy⟩
  | tup ts =>
    obtain ⟨a, vs, rfl, ha, hrs⟩ := hv
    obtain ⟨okl, oks⟩ := ok
    have lv := Reps.len ts vs hrs
    refine iteFc (by show isA "tuple" "list" = false; decide) ?_
    refine ⟨_, rfl, _, _, _, _, rfl, okv.ty K, okv.kit K, _, rfl, iteTc (by rw [ety]; show isA "tuple" "tuple" = true; decide) ?_⟩
    refine ⟨_, rfl, a, rfl, ⟨_, SqT.of ha⟩, ?_⟩
    refine comp_new (fun i H1 y H2 => Rep (fun a => H1 a = none) H2 (ts.getD i .non) y) (hPm ts) (hUm ts) (itIs_tup ha) (by omega) (fun i x H' R hx s' hR => ⟨_, rfl, elt ts vs hrs oks hd i x H' R hx s' hR⟩) fun l H7 ys n7 s7 h7 ly hy => ?_
    refine ⟨l, ys, rfl, .inl ⟨SqL.of h7, fun p hp => ?_⟩⟩
    have sp := same_new hp (.tup ys)
    exact q _ _ (s7.trans sp) ⟨p, ys, rfl, upd_same, Reps.same sp _ _ (fin ts ys H7 (by rw [ly, lv]) hy)⟩
  | non =>
    refine iteFc (by show isA "NoneType" "list" = false; decide) ⟨_, rfl, _, _, _, _, rfl, okv.ty K, okv.kit K, _, rfl, iteFc (by rw [ety]; show isA "NoneType" "tuple" = false; decide) ⟨_, rfl, q _ _ (Same.refl _) hv⟩⟩
  | bl b =>
    refine iteFc (by show isA "bool" "list" = false; decide) ⟨_, rfl, _, _, _, _, rfl, okv.ty K, okv.kit K, _, rfl, iteFc (by rw [ety]; show isA "bool" "tuple" = false; decide) ⟨_, rfl, q _ _ (Same.refl _) hv⟩⟩
  | int i =>
    refine iteFc (by show isA "int" "list" = false; decide) ⟨_, rfl, _, _, _, _, rfl, okv.ty K, okv.kit K, _, rfl, iteFc (by rw [ety]; show isA "int" "tuple" = false; decide) ⟨_, rfl, q _ _ (Same.refl _) hv⟩⟩
  | str z =>
    refine iteFc (by show isA "str" "list" = false; decide) ⟨_, rfl, _, _, _, _, rfl, okv.ty K, okv.kit K, _, rfl, iteFc (by rw [ety]; show isA "str" "tuple" = false; decide) ⟨_, rfl, q _ _ (Same.refl _) hv⟩⟩
theorem cop_all (T : Txt K mg) (F : Fun K "_law_copied" "_law_copied" s__law_copied f fd) (hm : mg "_law_copied" = some (.ref f)) (hk : PySem.W.keepIn K (.ref f) = true) (hb : Binds K fd ["_law_thing"] []) : ∀ n, FnOk P w K mg base CX0 (1 + n) f fd ["_law_thing"] (sp_cop n K)
  | 0 => by
    refine F.ok sc__law_copied (fun vs H Q E h => ?_) (fun cdv A outer s H vs Q E hr h => ?_)
    · obtain ⟨v, t, rfl, hd, _⟩ := h
      exact absurd (Nat.le_trans (dep_pos t) hd) (Nat.not_succ_le_zero 0)
    · obtain ⟨v, t, rfl, hd, _⟩ := h
      exact absurd (Nat.le_trans (dep_pos t) hd) (Nat.not_succ_le_zero 0)
  | n + 1 => cop_step T F n ⟨f, fd, cop_all T F hm hk hb n, hm, hk, hb⟩
theorem ok__law_copied (T : Txt K mg) (F : Fun K "_law_copied" "_law_copied" s__law_copied f fd) (hm : mg "_law_copied" = some (.ref f)) (hk : PySem.W.keepIn K (.ref f) = true) (hb : Binds K fd ["_law_thing"] []) : FnOk P w K mg base CX0 21 f fd ["_law_thing"] (sp__law_copied K) :=
  cop_all T F hm hk hb 20
theorem rdl_use {σ : St} {H : Hp} {ta : TA} {R : VK} (m k : Nat) (h : RdBs ta σ H m k) (hk : k ≤ 1000) (hR : ∀ vs p H' ts, Same H H' → H' p = some (.lst vs) → Reps All H' ts vs → ts.length = k → Tr.oks ts → Tr.deps ts ≤ m → R (.ref p) H') : tLst ta σ H R := by
  refine h H (Same.refl _) _ fun vs H1 ts s1 r1 l1 o1 d1 => ⟨small (by rw [Reps.len ts vs r1]; omega), fun p hp => ?_⟩
  have sp := same_new hp (.lst vs)
  exact hR vs p _ ts (s1.trans sp) upd_same (Reps.same sp _ _ r1) l1 o1 d1
theorem catS_use {H : Hp} {p1 p2 : Addr} {vs1 vs2 : List V} {Q : VK} (h1 : H p1 = some (.lst vs1)) (h2 : H p2 = some (.lst vs2)) (hl : vs1.length + vs2.length ≤ 1000000) (hQ : ∀ p H', Same H H' → H' p = some (.lst (vs1 ++ vs2)) → Q (.ref p) H') : rCatS K (.ref p1) (.ref p2) H Q :=
  ⟨p1, p2, vs1, vs2, rfl, rfl, SqL.of h1, SqL.of h2, small hl, fun p hp => hQ p _ (same_new hp _) upd_same⟩
theorem seq_asg {te : TE} {i : Nat} {b : TS} {D : Ends} {σ : St} {H : Hp} (h : te σ H fun x H1 => b D (σ.set i (some x)) H1) : tSeq (tAsg te (gName i)) b D σ H := h
theorem cat3_use {H : Hp} {x y : V} {Q : VK} {ts us : List Tr} (ha : Rep All H (.tup ts) x) (hb : Rep All H (.tup us) y) (hl : ts.length + us.length ≤ 1000) (hQ : ∀ v H', Same H H' → Rep All H' (.tup (ts ++ us)) v → Q v H') : rCatT3 K x y H Q := by
  have ha0 := ha
  have hb0 := hb
  obtain ⟨a, xs, rfl, h1, r1⟩ := ha
  obtain ⟨b, ys, rfl, h2, r2⟩ := hb
  have l1 := Reps.len _ _ r1
  have l2 := Reps.len _ _ r2
  refine ⟨a, b, xs, ys, rfl, rfl, SqT.of h1, SqT.of h2, small (by omega), fun e => ?_, fun _ e => ?_, fun _ _ p hp => ?_⟩
  · have : ts = [] := List.length_eq_zero_iff.mp (by rw [← l1, e]; rfl)
    subst this
    exact hQ _ _ (Same.refl _) hb0
  · have : us = [] := List.length_eq_zero_iff.mp (by rw [← l2, e]; rfl)
    subst this
    exact hQ _ _ (Same.refl _) (by rw [List.append_nil]; exact ha0)
  · have sp := same_new hp (.tup (xs ++ ys))
    exact hQ _ _ sp ⟨p, _, rfl, upd_same, Reps.same sp _ _ (Reps.append r1 r2)⟩
end
-- @@CUT@@
section
variable {P : Program} {w : World} {K : PySem.W.Frag} {mg : Str → Option Value} {base : Heap} {f : Addr} {fd : FuncData}
/-! things of any kind, by their trees -/
def fv : Tr → V
  | .bl b => .bl b
  | .int i => .int i
  | .str z => .str z
  | _ => .non
theorem fv_rep {F : Addr → Prop} {H : Hp} {t : Tr} {v : V} (h : Rep F H t v) : v = fv t ∨ (fv t = .non ∧ ∃ a, v = .ref a) := by
  cases t with
  | tup ts => obtain ⟨a, vs, rfl, _⟩ := h; exact .inr ⟨rfl, a, rfl⟩
  | lst ts => obtain ⟨a, vs, rfl, _⟩ := h; exact .inr ⟨rfl, a, rfl⟩
  | non => exact .inl h
  | bl b => exact .inl h
  | int i => exact .inl h
  | str z => exact .inl h
theorem betw_rep {F : Addr → Prop} {H : Hp} {t : Tr} {v : V} {a b : Int} (h : Rep F H t v) : betw a b v = betw a b (fv t) := by
  rcases fv_rep h with e | ⟨e, c, rfl⟩
  · rw [e]
  · rw [e]; rfl
theorem text_rep {F : Addr → Prop} {H : Hp} {t : Tr} {v : V} {a b : Int} (h : Rep F H t v) : textB a b v = textB a b (fv t) := by
  rcases fv_rep h with e | ⟨e, c, rfl⟩
  · rw [e]
  · rw [e]; rfl
theorem name_rep {F : Addr → Prop} {H : Hp} {t : Tr} {v : V} (h : Rep F H t v) : nameB v = nameB (fv t) := by
  rcases fv_rep h with e | ⟨e, c, rfl⟩
  · rw [e]
  · rw [e]; rfl
def tagT : Tr → Bool
  | .tup [x, y, z] => betw 1 999999 (fv x) && betw 0 999999999 (fv y) && betw 0 996 (fv z)
  | _ => false
def entT : Tr → Bool
  | .tup [x, y, z] => nameB (fv x) && betw 1 2 (fv y) && tagT z
  | _ => false
/-- three parts, or not -/
theorem rep_three {H : Hp} {t : Tr} {v : V} (h : Rep All H t v) (ok : t.ok) : (tupN H v 3 = false ∧ tagT t = false ∧ entT t = false) ∨
    ∃ a x y z u1 u2 u3, v = .ref a ∧ t = .tup [x, y, z] ∧ H a = some (.tup [u1, u2, u3]) ∧ (Rep All H x u1 ∧ x.ok) ∧ (Rep All H y u2 ∧ y.ok) ∧ Rep All H z u3 ∧ z.ok := by
  cases t with
  | non => cases (show v = V.non from h); exact .inl ⟨rfl, rfl, rfl⟩
  | bl b => cases (show v = V.bl b from h); exact .inl ⟨rfl, rfl, rfl⟩
  | int i => cases (show v = V.int i from h); exact .inl ⟨rfl, rfl, rfl⟩
  | str z => cases (show v = V.str z from h); exact .inl ⟨rfl, rfl, rfl⟩
  | lst ts => obtain ⟨a, vs, rfl, _, e, _⟩ := h; exact .inl ⟨by simp only [tupN, e], rfl, rfl⟩
  | tup ts =>
    obtain ⟨a, vs, rfl, e, r⟩ := h
    have l := Reps.len _ _ r
    obtain ⟨_, oks⟩ := ok
    match ts, r, oks, l with
    | [x, y, z], r, oks, _ =>
      obtain ⟨u1, _, rfl, r1, u2, _, rfl, r2, u3, _, rfl, r3, rfl⟩ := r
      obtain ⟨o1, o2, o3, _⟩ := oks
      exact .inr ⟨a, x, y, z, u1, u2, u3, rfl, rfl, e, ⟨r1, o1⟩, ⟨r2, o2⟩, r3, o3⟩
    | [], _, _, l => exact .inl ⟨by rw [tupN_tup e, l]; rfl, rfl, rfl⟩
    | [_], _, _, l => exact .inl ⟨by rw [tupN_tup e, l]; rfl, rfl, rfl⟩
    | [_, _], _, _, l => exact .inl ⟨by rw [tupN_tup e, l]; rfl, rfl, rfl⟩
    | _ :: _ :: _ :: _ :: r, _, _, l => exact .inl ⟨by rw [tupN_tup e, l]; exact decide_eq_false (by simp only [List.length_cons]; omega), rfl, rfl⟩
theorem rep_items {H : Hp} {t : Tr} {v : V} (h : Rep All H t v) (ok : t.ok) : itemsOk H v := fun a xs e ha x hx => by
  cases t with
  | tup ts =>
    obtain ⟨b, vs, e2, hb, r⟩ := h
    subst e2
    cases e
    rw [ha] at hb
    cases hb
    obtain ⟨i, hi, ei⟩ := List.getElem_of_mem hx
    obtain ⟨t', ht, rt⟩ := Reps.get r (show xs[i]? = some x by rw [List.getElem?_eq_getElem hi, ei])
    exact rt.ok (Tr.oks_get ok.2 ht)
  | lst ts => obtain ⟨b, vs, e2, _, hb, r⟩ := h; subst e2; cases e; rw [ha] at hb; cases hb
  | non => cases (show v = V.non from h); cases e
  | bl b => cases (show v = V.bl b from h); cases e
  | int i => cases (show v = V.int i from h); cases e
  | str z => cases (show v = V.str z from h); cases e
theorem tag_rep {H : Hp} {t : Tr} {v : V} (h : Rep All H t v) (ok : t.ok) : tagB H v = tagT t := by
  rcases rep_three h ok with ⟨h1, h2, _⟩ | ⟨a, x, y, z, u1, u2, u3, rfl, rfl, e, r1, r2, r3⟩
  · rw [tagB_no h1, h2]
  · rw [tagB_three e, betw_rep r1.1, betw_rep r2.1, betw_rep r3.1]; rfl
def sp__law_is_tag (K : PySem.W.Frag) : Sp := fun vs H Q _ => ∃ v t, vs = [v] ∧ Rep All H t v ∧ t.ok ∧ Q (.bl (tagT t)) H
theorem ok__law_is_tag (T : Txt K mg) (F : Fun K "_law_is_tag" "_law_is_tag" s__law_is_tag f fd) (D__law_whole_from : Def P w K mg base 1 "_law_whole_from" ["_law_thing", "_law_least", "_law_most"] (sp__law_whole_from K)) : FnOk P w K mg base CX0 2 f fd ["_law_thing"] (sp__law_is_tag K) := by
  refine F.ok sc__law_is_tag (fun vs H Q E h => ?_) (fun cdv A outer s H vs Q E hr h => ?_)
  · obtain ⟨v, t, rfl, _⟩ := h
    rfl
  obtain ⟨v, t, rfl, hv, ok, q⟩ := h
  have okv := hv.ok ok
  refine ⟨_, (@pss_cons _ _ _ _ _ (@ps_if _ _ _ _ _ _ _ _ (@PW.pt _ _ _ (@pw_or _ _ _ _ _ _ _ (@pt_not _ _ _ _ (@pt_val _ _ _ (@pe_callB _ _ _ _ _ _ _ _ _ call_isinst (by rfl) T.b_isinstance bt_isinstance (@pa_cons _ _ _ _ _ (@pv _ 0 _ _ (by rfl) (by first | exact Or.inl rfl | exact Or.inr (Or.inl rfl) | exact Or.inr (Or.inr rfl)) (by decide) (by decide)) (@pa_cons _ _ _ _ _ (@pe_ty _ _ _ _ rfl T.b_tuple bt_tuple (by decide) (by decide)) (@pa_nil _) (by rfl)) (by rfl)) (by decide) (by decide) (by rfl) (by rfl)) (by intro _; rfl))) (@pw_or _ _ _ _ _ _ _ (@pt_cmpR _ _ _ _ _ _ _ _ op_ne (@pe_callB _ _ _ _ _ _ _ _ _ call_len_seq (by rfl) T.b_len bt_len (@pa_cons _ _ _ _ _ (@pv _ 0 _ _ (by rfl) (by first | exact Or.inl rfl | exact Or.inr (Or.inl rfl) | exact Or.inr (Or.inr rfl)) (by decide) (by decide)) (@pa_nil _) (by rfl)) (by decide) (by decide) (by rfl) (by rfl)) (@pe_int _ _ _ _) (nomark _)) (@pw_or1 _ _ _ _ (@pt_not _ _ _ _ (@pt_val _ _ _ (@pe_fn _ _ _ _ _ _ _ _ _ _ D__law_whole_from (hr.mono (by decide)) rfl (@pa_cons _ _ _ _ _ (@pe_ix _ _ _ _ _ _ _ ix_tup (@pv _ 0 _ _ (by rfl) (by first | exact Or.inl rfl | exact Or.inr (Or.inl rfl) | exact Or.inr (Or.inr rfl)) (by decide) (by decide)) (@pe_int _ _ _ _) (fun _ _ => rfl)) (@pa_cons _ _ _ _ _ (@pe_int _ _ _ _) (@pa_cons _ _ _ _ _ (@pe_int _ _ _ _) (@pa_nil _) (by rfl)) (by rfl)) (by rfl)) (by decide) (by rfl) (by rfl)) (by intro _; rfl))))))) (@pss_one _ _ _ (@ps_ret _ _ _ _ (@pe_bl _ _ _ _))) (@pss_nil _)) (@pss_one _ _ _ (@ps_ret _ _ _ _ (@pe_and _ _ _ _ _ _ _ (@pe_fn _ _ _ _ _ _ _ _ _ _ D__law_whole_from (hr.mono (by decide)) rfl (@pa_cons _ _ _ _ _ (@pe_ix _ _ _ _ _ _ _ ix_tup (@pv _ 0 _ _ (by rfl) (by first | exact Or.inl rfl | exact Or.inr (Or.inl rfl) | exact Or.inr (Or.inr rfl)) (by decide) (by decide)) (@pe_int _ _ _ _) (fun _ _ => rfl)) (@pa_cons _ _ _ _ _ (@pe_int _ _ _ _) (@pa_cons _ _ _ _ _ (@pe_int _ _ _ _) (@pa_nil _) (by rfl)) (by rfl)) (by rfl)) (by decide) (by rfl) (by rfl)) (@pe_one _ _ _ _ _ (@pe_fn _ _ _ _ _ _ _ _ _ _ D__law_whole_from (hr.mono (by decide)) rfl (@pa_cons _ _ _ _ _ (@pe_ix _ _ _ _ _ _ _ ix_tup (@pv _ 0 _ _ (by rfl) (by first | exact Or.inl rfl | exact Or.inr (Or.inl rfl) | exact Or.inr (Or.inr rfl)) (by decide) (by decide)) (@pe_int _ _ _ _) (fun _ _ => rfl)) (@pa_cons _ _ _ _ _ (@pe_int _ _ _ _) (@pa_cons _ _ _ _ _ (@pe_int _ _ _ _) (@pa_nil _) (by rfl)) (by rfl)) (by rfl)) (by decide) (by rfl) (by rfl))))))), ?_⟩
  refine ⟨_, rfl, _, _, _, _, rfl, okv.ty K, okv.kit K, _, rfl, ?_⟩
  rcases rep_three hv ok with ⟨h1, h2, _⟩ | ⟨a, x, y, z, u1, u2, u3, rfl, rfl, e, ⟨r1, o1⟩, ⟨r2, o2⟩, r3, o3⟩
  · rw [h2] at q
    cases hw : isA (tyN H v) "tuple" with
    | false => exact iteTc rfl q
    | true =>
      refine iteFc rfl ?_
      obtain ⟨a, xs, rfl, e⟩ := tuple_of okv hw
      rw [tupN_tup e] at h1
      refine ⟨_, rfl, a, xs, rfl, .inr (SqT.of e), rfl, _, rfl, iteTc ?_ q⟩
      rw [decide_eq_false fun z => of_decide_eq_false h1 (V.int.inj z)]
      rfl
  · have et : tyN H (.ref a) = "tuple" := tyN_tup e
    refine iteFc (by rw [et]; decide) ?_
    refine ⟨_, rfl, a, _, rfl, .inr (SqT.of e), rfl, _, rfl, iteFc rfl ?_⟩
    have eT : tagT (.tup [x, y, z]) = (betw 1 999999 u1 && betw 0 999999999 u2 && betw 0 996 u3) := by rw [betw_rep r1, betw_rep r2, betw_rep r3]; rfl
    rw [eT] at q
    refine ⟨_, rfl, a, _, _, _, rfl, rfl, SqT.of e, at3.1, u1, 1, 999999, rfl, r1.ok o1, _, rfl, ?_⟩
    cases h1 : betw 1 999999 u1 with
    | false => rw [h1] at q; exact iteTc rfl q
    | true =>
      rw [h1] at q
      refine iteFc rfl ?_
      dsimp only [tNext, tRet]
      exact tAndV_p _ _ (fun R q => ⟨_, rfl, a, _, _, _, rfl, rfl, SqT.of e, at3.2.1, u2, 0, 999999999, rfl, r2.ok o2, q⟩) (fun _ R q => ⟨_, rfl, a, _, _, _, rfl, rfl, SqT.of e, at3.2.2, u3, 0, 996, rfl, r3.ok o3, q⟩) q
def sp_is_entry (K : PySem.W.Frag) : Sp := fun vs H Q _ => ∃ v t, vs = [v] ∧ Rep All H t v ∧ t.ok ∧ ∀ H', Same H H' → Q (.bl (entT t)) H'
theorem ok_is_entry (T : Txt K mg) (F : Fun K "is_entry" "is_entry" s_is_entry f fd) (D_is_between : Def P w K mg base 2 "is_between" ["thing", "least", "most"] (sp_is_between K)) (D_is_tag : Def P w K mg base 3 "is_tag" ["thing"] (sp_is_tag K)) (D_is_tuple_of : Def P w K mg base 1 "is_tuple_of" ["thing", "many"] (sp_is_tuple_of K)) (D_is_name : Def P w K mg base 2 "is_name" ["thing"] (sp_is_name K)) : FnOk P w K mg base CX0 4 f fd ["thing"] (sp_is_entry K) := by
  refine F.ok sc_is_entry (fun vs H Q E h => ?_) (fun cdv A outer s H vs Q E hr h => ?_)
  · obtain ⟨v, t, rfl, _⟩ := h
    rfl
  obtain ⟨v, t, rfl, hv, ok, q⟩ := h
  have okv := hv.ok ok
  refine ⟨_, (@pss_cons _ _ _ _ _ (@ps_if _ _ _ _ _ _ _ _ (@PW.pt _ _ _ (@pw_or _ _ _ _ _ _ _ (@pt_not _ _ _ _ (@pt_val _ _ _ (@pe_fn _ _ _ _ _ _ _ _ _ _ D_is_tuple_of (hr.mono (by decide)) rfl (@pa_cons _ _ _ _ _ (@pv _ 0 _ _ (by rfl) (by first | exact Or.inl rfl | exact Or.inr (Or.inl rfl) | exact Or.inr (Or.inr rfl)) (by decide) (by decide)) (@pa_cons _ _ _ _ _ (@pe_int _ _ _ _) (@pa_nil _) (by rfl)) (by rfl)) (by decide) (by rfl) (by rfl)) (by intro _; rfl))) (@pw_or1 _ _ _ _ (@pt_not _ _ _ _ (@pt_val _ _ _ (@pe_fn _ _ _ _ _ _ _ _ _ _ D_is_name (hr.mono (by decide)) rfl (@pa_cons _ _ _ _ _ (@pe_ix _ _ _ _ _ _ _ ix_tup (@pv _ 0 _ _ (by rfl) (by first | exact Or.inl rfl | exact Or.inr (Or.inl rfl) | exact Or.inr (Or.inr rfl)) (by decide) (by decide)) (@pe_int _ _ _ _) (fun _ _ => rfl)) (@pa_nil _) (by rfl)) (by decide) (by rfl) (by rfl)) (by intro _; rfl)))))) (@pss_one _ _ _ (@ps_ret _ _ _ _ (@pe_bl _ _ _ _))) (@pss_nil _)) (@pss_one _ _ _ (@ps_ret _ _ _ _ (@pe_and _ _ _ _ _ _ _ (@pe_fn _ _ _ _ _ _ _ _ _ _ D_is_between (hr.mono (by decide)) rfl (@pa_cons _ _ _ _ _ (@pe_ix _ _ _ _ _ _ _ ix_tup (@pv _ 0 _ _ (by rfl) (by first | exact Or.inl rfl | exact Or.inr (Or.inl rfl) | exact Or.inr (Or.inr rfl)) (by decide) (by decide)) (@pe_int _ _ _ _) (fun _ _ => rfl)) (@pa_cons _ _ _ _ _ (@pe_globI _ _ _ _ rfl T.c_FILE_ENTRY (by decide)) (@pa_cons _ _ _ _ _ (@pe_globI _ _ _ _ rfl T.c_FOLDER_ENTRY (by decide)) (@pa_nil _) (by rfl)) (by rfl)) (by rfl)) (by decide) (by rfl) (by rfl)) (@pe_one _ _ _ _ _ (@pe_fn _ _ _ _ _ _ _ _ _ _ D_is_tag (hr.mono (by decide)) rfl (@pa_cons _ _ _ _ _ (@pe_ix _ _ _ _ _ _ _ ix_tup (@pv _ 0 _ _ (by rfl) (by first | exact Or.inl rfl | exact Or.inr (Or.inl rfl) | exact Or.inr (Or.inr rfl)) (by decide) (by decide)) (@pe_int _ _ _ _) (fun _ _ => rfl)) (@pa_nil _) (by rfl)) (by decide) (by rfl) (by rfl))))))), ?_⟩
  refine ⟨_, rfl, v, 3, rfl, okv, _, rfl, ?_⟩
  rcases rep_three hv ok with ⟨h1, _, h2⟩ | ⟨a, x, y, z, u1, u2, u3, rfl, rfl, e, ⟨r1, o1⟩, ⟨r2, o2⟩, r3, o3⟩
  · rw [h2] at q
    exact iteTc (by rw [h1]; rfl) (q H (Same.refl _))
  · refine iteFc (by rw [tupN_tup e]; rfl) ?_
    have eT : entT (.tup [x, y, z]) = (nameB u1 && betw 1 2 u2 && tagT z) := by rw [name_rep r1, betw_rep r2]; rfl
    rw [eT] at q
    refine ⟨_, rfl, a, _, _, _, rfl, rfl, SqT.of e, at3.1, u1, rfl, r1.ok o1, fun H1 s1 => ⟨_, rfl, ?_⟩⟩
    have q1 := q H1 s1
    cases h1 : nameB u1 with
    | false => rw [h1] at q1; exact iteTc rfl q1
    | true =>
      rw [h1] at q1
      refine iteFc rfl ?_
      dsimp only [tNext, tRet]
      refine tAndV_p _ _ (fun R q => ⟨_, rfl, a, _, _, _, rfl, rfl, SqT.of (s1.get e), at3.2.1, u2, 1, 2, rfl, (r2.ok o2).same s1, q⟩) (fun _ R q => ?_) q1
      have r3' := Rep.same s1 _ _ r3
      exact ⟨_, rfl, a, _, _, _, rfl, rfl, SqT.of (s1.get e), at3.2.2, u3, rfl, r3'.ok o3, rep_items r3' o3, by rw [tag_rep r3' o3]; exact q⟩
def sp__law_is_entry (K : PySem.W.Frag) : Sp := fun vs H Q _ => ∃ v t, vs = [v] ∧ Rep All H t v ∧ t.ok ∧ ∀ H', Same H H' → Q (.bl (entT t)) H'
theorem ok__law_is_entry (T : Txt K mg) (F : Fun K "_law_is_entry" "_law_is_entry" s__law_is_entry f fd) (D__law_whole_from : Def P w K mg base 1 "_law_whole_from" ["_law_thing", "_law_least", "_law_most"] (sp__law_whole_from K)) (D__law_is_tag : Def P w K mg base 2 "_law_is_tag" ["_law_thing"] (sp__law_is_tag K)) (D__law_is_name : Def P w K mg base 1 "_law_is_name" ["_law_thing"] (sp__law_is_name K)) : FnOk P w K mg base CX0 3 f fd ["_law_thing"] (sp__law_is_entry K) := by
  refine F.ok sc__law_is_entry (fun vs H Q E h => ?_) (fun cdv A outer s H vs Q E hr h => ?_)
  · obtain ⟨v, t, rfl, _⟩ := h
    rfl
  obtain ⟨v, t, rfl, hv, ok, q⟩ := h
  have okv := hv.ok ok
  refine ⟨_, (@pss_cons _ _ _ _ _ (@ps_if _ _ _ _ _ _ _ _ (@PW.pt _ _ _ (@pw_or _ _ _ _ _ _ _ (@pt_not _ _ _ _ (@pt_val _ _ _ (@pe_callB _ _ _ _ _ _ _ _ _ call_isinst (by rfl) T.b_isinstance bt_isinstance (@pa_cons _ _ _ _ _ (@pv _ 0 _ _ (by rfl) (by first | exact Or.inl rfl | exact Or.inr (Or.inl rfl) | exact Or.inr (Or.inr rfl)) (by decide) (by decide)) (@pa_cons _ _ _ _ _ (@pe_ty _ _ _ _ rfl T.b_tuple bt_tuple (by decide) (by decide)) (@pa_nil _) (by rfl)) (by rfl)) (by decide) (by decide) (by rfl) (by rfl)) (by intro _; rfl))) (@pw_or _ _ _ _ _ _ _ (@pt_cmpR _ _ _ _ _ _ _ _ op_ne (@pe_callB _ _ _ _ _ _ _ _ _ call_len_seq (by rfl) T.b_len bt_len (@pa_cons _ _ _ _ _ (@pv _ 0 _ _ (by rfl) (by first | exact Or.inl rfl | exact Or.inr (Or.inl rfl) | exact Or.inr (Or.inr rfl)) (by decide) (by decide)) (@pa_nil _) (by rfl)) (by decide) (by decide) (by rfl) (by rfl)) (@pe_int _ _ _ _) (nomark _)) (@pw_or1 _ _ _ _ (@pt_not _ _ _ _ (@pt_val _ _ _ (@pe_fn _ _ _ _ _ _ _ _ _ _ D__law_is_name (hr.mono (by decide)) rfl (@pa_cons _ _ _ _ _ (@pe_ix _ _ _ _ _ _ _ ix_tup (@pv _ 0 _ _ (by rfl) (by first | exact Or.inl rfl | exact Or.inr (Or.inl rfl) | exact Or.inr (Or.inr rfl)) (by decide) (by decide)) (@pe_int _ _ _ _) (fun _ _ => rfl)) (@pa_nil _) (by rfl)) (by decide) (by rfl) (by rfl)) (by intro _; rfl))))))) (@pss_one _ _ _ (@ps_ret _ _ _ _ (@pe_bl _ _ _ _))) (@pss_nil _)) (@pss_one _ _ _ (@ps_ret _ _ _ _ (@pe_and _ _ _ _ _ _ _ (@pe_fn _ _ _ _ _ _ _ _ _ _ D__law_whole_from (hr.mono (by decide)) rfl (@pa_cons _ _ _ _ _ (@pe_ix _ _ _ _ _ _ _ ix_tup (@pv _ 0 _ _ (by rfl) (by first | exact Or.inl rfl | exact Or.inr (Or.inl rfl) | exact Or.inr (Or.inr rfl)) (by decide) (by decide)) (@pe_int _ _ _ _) (fun _ _ => rfl)) (@pa_cons _ _ _ _ _ (@pe_int _ _ _ _) (@pa_cons _ _ _ _ _ (@pe_int _ _ _ _) (@pa_nil _) (by rfl)) (by rfl)) (by rfl)) (by decide) (by rfl) (by rfl)) (@pe_one _ _ _ _ _ (@pe_fn _ _ _ _ _ _ _ _ _ _ D__law_is_tag (hr.mono (by decide)) rfl (@pa_cons _ _ _ _ _ (@pe_ix _ _ _ _ _ _ _ ix_tup (@pv _ 0 _ _ (by rfl) (by first | exact Or.inl rfl | exact Or.inr (Or.inl rfl) | exact Or.inr (Or.inr rfl)) (by decide) (by decide)) (@pe_int _ _ _ _) (fun _ _ => rfl)) (@pa_nil _) (by rfl)) (by decide) (by rfl) (by rfl))))))), ?_⟩
  refine ⟨_, rfl, _, _, _, _, rfl, okv.ty K, okv.kit K, _, rfl, ?_⟩
  rcases rep_three hv ok with ⟨h1, _, h2⟩ | ⟨a, x, y, z, u1, u2, u3, rfl, rfl, e, ⟨r1, o1⟩, ⟨r2, o2⟩, r3, o3⟩
  · have q := q H (Same.refl _)
    rw [h2] at q
    cases hw : isA (tyN H v) "tuple" with
    | false => exact iteTc rfl q
    | true =>
      refine iteFc rfl ?_
      obtain ⟨a, xs, rfl, e⟩ := tuple_of okv hw
      rw [tupN_tup e] at h1
      refine ⟨_, rfl, a, xs, rfl, .inr (SqT.of e), rfl, _, rfl, iteTc ?_ q⟩
      rw [decide_eq_false fun z => of_decide_eq_false h1 (V.int.inj z)]
      rfl
  · have et : tyN H (.ref a) = "tuple" := tyN_tup e
    refine iteFc (by rw [et]; decide) ?_
    refine ⟨_, rfl, a, _, rfl, .inr (SqT.of e), rfl, _, rfl, iteFc rfl ?_⟩
    have eT : entT (.tup [x, y, z]) = (nameB u1 && betw 1 2 u2 && tagT z) := by rw [name_rep r1, betw_rep r2]; rfl
    rw [eT] at q
    refine ⟨_, rfl, a, _, _, _, rfl, rfl, SqT.of e, at3.1, u1, rfl, r1.ok o1, fun H1 s1 => ⟨_, rfl, ?_⟩⟩
    have q1 := q H1 s1
    cases h1 : nameB u1 with
    | false => rw [h1] at q1; exact iteTc rfl q1
    | true =>
      rw [h1] at q1
      refine iteFc rfl ?_
      dsimp only [tNext, tRet]
      refine tAndV_p _ _ (fun R q => ⟨_, rfl, a, _, _, _, rfl, rfl, SqT.of (s1.get e), at3.2.1, u2, 1, 2, rfl, (r2.ok o2).same s1, q⟩) (fun _ R q => ?_) q1
      exact ⟨_, rfl, a, _, _, _, rfl, rfl, SqT.of (s1.get e), at3.2.2, u3, z, rfl, Rep.same s1 _ _ r3, o3, q⟩
end
-- @@CUT2@@
section
variable {P : Program} {w : World} {K : PySem.W.Frag} {mg : Str → Option Value} {base : Heap} {f : Addr} {fd : FuncData}
theorem strs_inj : ∀ {a b : List Str}, a.map V.str = b.map V.str → a = b
  | [], [], _ => rfl
  | [], _ :: _, h => nomatch h
  | _ :: _, [], h => nomatch h
  | x :: a, y :: b, h => by
    rw [List.map_cons, List.map_cons] at h
    injection h with h1 h2
    injection h1 with h1
    rw [h1, strs_inj h2]
theorem once_nodup (a : List Str) : (onceS a).Nodup := by
  have z : ∀ (l ks : List Str), ks.Nodup → (l.foldl (fun ks k => if k ∈ ks then ks else ks ++ [k]) ks).Nodup := fun l => by
    induction l with
    | nil => intro ks h; exact h
    | cons k r ih =>
      intro ks h
      refine ih _ ?_
      dsimp only
      split
      · exact h
      · rename_i nk
        refine List.nodup_append.mpr ⟨h, by simp, fun a ha b hb => ?_⟩
        rw [List.mem_singleton] at hb
        subst hb
        intro e
        subst e
        exact nk ha
  exact z a [] List.nodup_nil
theorem all_tree {J : It} {us : List V} {ts : List Tr} {fr : List (Option Nat)} {k : Nat} {te : TE} {Q : VK} {σ : St} {H : Hp} (p : Tr → Bool) (hJ : ItIs J H us) (r : Reps All H ts us) (ok : Tr.oks ts) (hn : us.length ≤ 1000000)
    (helt : ∀ (t : Tr) (x : V) (H' : Hp) (R : VK), Rep All H' t x → t.ok → (∀ H'', Same H' H'' → R (.bl (p t)) H'') → te ((stC fr σ).set k (some x)) H' R)
    (hQ : ∀ l H', Same H H' → H' l = some (.lst ((ts.map p).map V.bl)) → Q (.ref l) H') : tCompK fr (gName k) tYes te σ Q J H := by
  have lu := Reps.len _ _ r
  refine comp_new (fun i _ y _ => y = .bl (p (ts.getD i .non))) (fun _ _ _ _ _ h _ => h) (fun _ _ _ _ _ _ _ _ h _ _ => h) hJ hn (fun i x H' R hx s' hR => ?_) fun l H' ys _ s7 h7 ly hy => ?_
  · obtain ⟨t, ht, rt⟩ := Reps.get r hx
    exact helt t x H' R (Rep.same s' _ _ rt) (Tr.oks_get ok ht) fun H'' s'' => hR _ H'' s'' (by simp [List.getD, ht])
  · have e : ys = (ts.map p).map V.bl := by
      refine List.ext_getElem (by rw [List.length_map, List.length_map]; omega) fun i h1 h2 => ?_
      obtain ⟨_, _, e⟩ := hy i ys[i] (List.getElem?_eq_getElem h1)
      have hi : i < ts.length := by omega
      rw [e, List.getElem_map, List.getElem_map]
      simp [List.getD, List.getElem?_eq_getElem hi]
    rw [e] at h7
    exact hQ l H' s7 h7
theorem none_tree {J : It} {us : List V} {ts : List Tr} {fr : List (Option Nat)} {k : Nat} {tt : TT} {te : TE} {Q : VK} {σ : St} {H : Hp} (p : Tr → Bool) (hJ : ItIs J H us) (r : Reps All H ts us) (ok : Tr.oks ts) (hn : us.length ≤ 1000000)
    (htest : ∀ (t : Tr) (x : V) (H' : Hp) (R : Bool → Hp → Prop), Rep All H' t x → t.ok → (∀ H'', Same H' H'' → R (!p t) H'') → tt ((stC fr σ).set k (some x)) H' R)
    (helt : ∀ (x : V) (H' : Hp) (R : VK), Same H H' → (∀ H'', Same H' H'' → R x H'') → te ((stC fr σ).set k (some x)) H' R)
    (hQ : ∀ l H' ys, Same H H' → H' l = some (.lst ys) → decide (ys = []) = ts.all p → Q (.ref l) H') : tCompK fr (gName k) tt te σ Q J H := by
  have lu := Reps.len _ _ r
  refine comp_any (fun i => !p (ts.getD i .non)) hJ hn (fun i x H' R hx s' hR => ?_) helt fun l H' ys _ s7 h7 hy => hQ l H' ys s7 h7 ?_
  · obtain ⟨t, ht, rt⟩ := Reps.get r hx
    have eg : ts.getD i .non = t := by simp [List.getD, ht]
    rw [eg] at hR
    exact htest t x H' R (Rep.same s' _ _ rt) (Tr.oks_get ok ht) hR
  · rw [Bool.eq_iff_iff, decide_eq_true_eq, hy, List.all_eq_true]
    constructor
    · intro z t ht
      obtain ⟨i, hi, ei⟩ := List.getElem_of_mem ht
      have := z i (by rw [lu]; exact hi)
      simpa [List.getD, List.getElem?_eq_getElem hi, ei] using this
    · intro z i hi
      rw [lu] at hi
      have := z ts[i] (List.getElem_mem hi)
      simpa [List.getD, List.getElem?_eq_getElem hi] using this
def nmT : Tr → Str
  | .tup (.str z :: _) => z
  | _ => nilS
def risT (ns : List Str) : Bool := decide (PyProof.Rows.sortedS ns = true ∧ ns.Nodup)
def rowT (lv : Int) : Tr → Bool
  | .tup ts => decide (ts.length ≤ 8) && !(decide (ts.length = 0) && decide (1 < lv)) && ts.all tagT
  | _ => false
def entsT : Tr → Bool
  | .tup ts => decide (ts.length ≤ 16) && ts.all entT && risT (ts.map nmT)
  | _ => false
def fstV (H : Hp) : V → V := fun v => match v with | .ref x => (match H x with | some (.tup (y :: _)) => y | _ => .non) | _ => .non
theorem ent_three {H : Hp} {t : Tr} {v : V} (h : Rep All H t v) (ok : t.ok) (e : entT t = true) : ∃ a u2 u3, v = .ref a ∧ H a = some (.tup [.str (nmT t), u2, u3]) := by
  rcases rep_three h ok with ⟨_, _, h2⟩ | ⟨a, x, y, z, u1, u2, u3, rfl, rfl, ea, ⟨r1, o1⟩, _⟩
  · rw [h2] at e; cases e
  · have e' : (nameB (fv x) && betw 1 2 (fv y) && tagT z) = true := e
    rw [Bool.and_eq_true, Bool.and_eq_true] at e'
    cases x with
    | str zz => cases (show u1 = V.str zz from r1); exact ⟨a, u2, u3, rfl, ea⟩
    | non => cases e'.1.1
    | bl b => cases e'.1.1
    | int i => cases e'.1.1
    | tup xs => cases e'.1.1
    | lst xs => cases e'.1.1
theorem names_tree : ∀ {ts : List Tr} {us : List V} {H : Hp}, Reps All H ts us → Tr.oks ts → ts.all entT = true → us.map (fstV H) = (ts.map nmT).map V.str
  | [], us, H, r, _, _ => by rw [show us = [] from r]; rfl
  | t :: ts, us, H, r, ok, h => by
    obtain ⟨v, us', rfl, r1, r2⟩ := r
    rw [List.all_cons, Bool.and_eq_true] at h
    obtain ⟨a, u2, u3, rfl, e⟩ := ent_three r1 ok.1 h.1
    rw [List.map_cons, List.map_cons, List.map_cons, names_tree r2 ok.2 h.2]
    simp only [fstV, e]
theorem ris_eq {ns ts : List Str} (pt : ts.Perm (onceS ns)) (st : PyProof.Rows.sortedS ts = true) : decide (ns.map V.str = ts.map V.str) = risT ns ∧ decide (ts.map V.str = ns.map V.str) = risT ns := by
  have key : ns.map V.str = ts.map V.str ↔ PyProof.Rows.sortedS ns = true ∧ ns.Nodup := by
    constructor
    · intro e
      have e' : ns = ts := strs_inj e
      refine ⟨by rw [e']; exact st, ?_⟩
      rw [e']
      exact pt.nodup_iff.mpr (once_nodup _)
    · rintro ⟨h1, h2⟩
      rw [once_id h2] at pt
      rw [sorted_one pt st h1]
  unfold risT
  constructor
  · rw [Bool.eq_iff_iff, decide_eq_true_eq, decide_eq_true_eq]; exact key
  · rw [Bool.eq_iff_iff, decide_eq_true_eq, decide_eq_true_eq, eq_comm]; exact key
def sp_are_row_tags (K : PySem.W.Frag) : Sp := fun vs H Q _ => ∃ v lv t, vs = [v, .int lv] ∧ Rep All H t v ∧ t.ok ∧ ∀ H', Same H H' → Q (.bl (rowT lv t)) H'
theorem ok_are_row_tags (T : Txt K mg) (F : Fun K "are_row_tags" "are_row_tags" s_are_row_tags f fd) (D_is_tag : Def P w K mg base 3 "is_tag" ["thing"] (sp_is_tag K)) : FnOk P w K mg base CX0 4 f fd ["thing", "level"] (sp_are_row_tags K) := by
  refine F.ok sc_are_row_tags (fun vs H Q E h => ?_) (fun cdv A outer s H vs Q E hr h => ?_)
  · obtain ⟨v, lv, t, rfl, _⟩ := h
    rfl
  obtain ⟨v, lv, t, rfl, hv, ok, q⟩ := h
  have okv := hv.ok ok
  have ety := hv.tyN
  refine ⟨_, (@pss_cons _ _ _ _ _ (@ps_if _ _ _ _ _ _ _ _ (@PW.pt _ _ _ (@pw_or _ _ _ _ _ _ _ (@pt_not _ _ _ _ (@pt_val _ _ _ (@pe_callB _ _ _ _ _ _ _ _ _ call_isinst (by rfl) T.b_isinstance bt_isinstance (@pa_cons _ _ _ _ _ (@pv _ 0 _ _ (by rfl) (by first | exact Or.inl rfl | exact Or.inr (Or.inl rfl) | exact Or.inr (Or.inr rfl)) (by decide) (by decide)) (@pa_cons _ _ _ _ _ (@pe_ty _ _ _ _ rfl T.b_tuple bt_tuple (by decide) (by decide)) (@pa_nil _) (by rfl)) (by rfl)) (by decide) (by decide) (by rfl) (by rfl)) (by intro _; rfl))) (@pw_or1 _ _ _ _ (@pt_cmpR _ _ _ _ _ _ _ _ op_gt (@pe_callB _ _ _ _ _ _ _ _ _ call_len_seq (by rfl) T.b_len bt_len (@pa_cons _ _ _ _ _ (@pv _ 0 _ _ (by rfl) (by first | exact Or.inl rfl | exact Or.inr (Or.inl rfl) | exact Or.inr (Or.inr rfl)) (by decide) (by decide)) (@pa_nil _) (by rfl)) (by decide) (by decide) (by rfl) (by rfl)) (@pe_globI _ _ _ _ rfl T.c_MOST_TAGS (by decide)) (nomark _))))) (@pss_one _ _ _ (@ps_ret _ _ _ _ (@pe_bl _ _ _ _))) (@pss_nil _)) (@pss_cons _ _ _ _ _ (@ps_if _ _ _ _ _ _ _ _ (@PW.pt _ _ _ (@pw_and _ _ _ _ _ _ _ (@pt_cmpR _ _ _ _ _ _ _ _ op_eq (@pe_callB _ _ _ _ _ _ _ _ _ call_len_seq (by rfl) T.b_len bt_len (@pa_cons _ _ _ _ _ (@pv _ 0 _ _ (by rfl) (by first | exact Or.inl rfl | exact Or.inr (Or.inl rfl) | exact Or.inr (Or.inr rfl)) (by decide) (by decide)) (@pa_nil _) (by rfl)) (by decide) (by decide) (by rfl) (by rfl)) (@pe_int _ _ _ _) (nomark _)) (@pw_and1 _ _ _ _ (@pt_cmpR _ _ _ _ _ _ _ _ op_gt (@pv _ 1 _ _ (by rfl) (by first | exact Or.inl rfl | exact Or.inr (Or.inl rfl) | exact Or.inr (Or.inr rfl)) (by decide) (by decide)) (@pe_int _ _ _ _) (nomark _))))) (@pss_one _ _ _ (@ps_ret _ _ _ _ (@pe_bl _ _ _ _))) (@pss_nil _)) (@pss_one _ _ _ (@ps_ret _ _ _ _ (@pe_callB _ _ _ _ _ _ _ _ _ (call_all rfl) (by rfl) T.b_all bt_all (@pa_cons _ _ _ _ _ (@pe_comp0 _ ["tag"] _ _ _ _ _ _ _ _ _ _ rfl (@pi_tup _ _ _ _ (@pv _ 0 _ _ (by rfl) (by first | exact Or.inl rfl | exact Or.inr (Or.inl rfl) | exact Or.inr (Or.inr rfl)) (by decide) (by decide))) (by decide +kernel) (fun C s H fp => ⟨(@pg_name _ _ (0) _ (show (["tag"] : List Str).Nodup by decide +kernel) rfl (by first | exact Or.inl rfl | exact Or.inr rfl) (by first | exact .inl rfl | exact .inr rfl | assumption)), (@pifs_nil _), (@pe_fn _ _ _ _ _ _ _ _ _ _ D_is_tag (hr.mono (by decide)) rfl (@pa_cons _ _ _ _ _ (@pv _ 0 _ _ (by rfl) (by first | exact Or.inl rfl | exact Or.inr (Or.inl rfl) | exact Or.inr (Or.inr rfl)) (by decide) (by decide)) (@pa_nil _) (by rfl)) (by decide) (by rfl) (by rfl))⟩) (by intro _; rfl)) (@pa_nil _) (by rfl)) (by decide) (by decide) (by rfl) (by rfl)))))), ?_⟩
  refine ⟨_, rfl, _, _, _, _, rfl, okv.ty K, okv.kit K, _, rfl, ?_⟩
  rw [ety]
  cases t with
  | tup ts =>
    obtain ⟨a, us, rfl, e, r⟩ := hv
    have lu := Reps.len _ _ r
    have eR : rowT lv (.tup ts) = (decide (ts.length ≤ 8) && !(decide (ts.length = 0) && decide (1 < lv)) && ts.all tagT) := rfl
    rw [eR] at q
    refine iteFc (by show (!isA "tuple" "tuple") = false; decide) ?_
    refine ⟨_, rfl, a, _, rfl, .inr (SqT.of e), _, _, rfl, rfl, _, rfl, ite2 (fun c => ?_) (fun c => ?_)⟩
    · have c' := dec_true c
      have := q H (Same.refl _)
      rw [decide_eq_false (show ¬ ts.length ≤ 8 by omega)] at this
      exact this
    have c' := dec_false c
    rw [decide_eq_true (show ts.length ≤ 8 by omega)] at q
    refine ⟨_, rfl, a, _, rfl, .inr (SqT.of e), rfl, _, rfl, ite2 (fun c2 => ?_) (fun c2 => ?_)⟩
    · have z : V.int (us.length : Int) = V.int 0 := dec_true c2
      have z0 : ts.length = 0 := by injection z with z; omega
      rw [decide_eq_true z0] at q
      refine ⟨_, rfl, _, _, rfl, rfl, _, rfl, ite2 (fun c3 => ?_) (fun c3 => ?_)⟩
      · have := q H (Same.refl _)
        rw [c3] at this
        exact this
      · rw [Bool.eq_false_iff.mpr c3] at q
        refine ⟨_, rfl, a, rfl, ⟨_, SqT.of e⟩, all_tree tagT (itIs_tup e) r ok.2 (by omega) (fun t x H' R rt ot hR => ?_) fun l H7 s7 h7 => ?_⟩
        · exact ⟨_, rfl, x, rfl, rt.ok ot, rep_items rt ot, by rw [tag_rep rt ot]; exact hR H' (Same.refl _)⟩
        · refine ⟨l, _, rfl, SqL.of h7, ?_⟩
          have := q H7 s7
          rw [List.all_map]
          exact this
    · have z : ¬ V.int (us.length : Int) = V.int 0 := dec_false c2
      have z0 : ¬ ts.length = 0 := fun y => z (by rw [lu, y]; rfl)
      rw [decide_eq_false z0] at q
      refine iteFc rfl ?_
      refine ⟨_, rfl, a, rfl, ⟨_, SqT.of e⟩, all_tree tagT (itIs_tup e) r ok.2 (by omega) (fun t x H' R rt ot hR => ?_) fun l H7 s7 h7 => ?_⟩
      · exact ⟨_, rfl, x, rfl, rt.ok ot, rep_items rt ot, by rw [tag_rep rt ot]; exact hR H' (Same.refl _)⟩
      · refine ⟨l, _, rfl, SqL.of h7, ?_⟩
        have := q H7 s7
        rw [List.all_map]
        exact this
  | non => exact iteTc (by decide) (q H (Same.refl _))
  | bl b => exact iteTc (by show (!isA "bool" "tuple") = true; decide) (q H (Same.refl _))
  | int i => exact iteTc (by show (!isA "int" "tuple") = true; decide) (q H (Same.refl _))
  | str z => exact iteTc (by show (!isA "str" "tuple") = true; decide) (q H (Same.refl _))
  | lst ts => exact iteTc (by show (!isA "list" "tuple") = true; decide) (q H (Same.refl _))
def sp_are_entries (K : PySem.W.Frag) : Sp := fun vs H Q _ => ∃ v t, vs = [v] ∧ Rep All H t v ∧ t.ok ∧ ∀ H', Same H H' → Q (.bl (entsT t)) H'
theorem ok_are_entries (T : Txt K mg) (F : Fun K "are_entries" "are_entries" s_are_entries f fd) (D_is_entry : Def P w K mg base 4 "is_entry" ["thing"] (sp_is_entry K)) : FnOk P w K mg base CX0 5 f fd ["thing"] (sp_are_entries K) := by
  refine F.ok sc_are_entries (fun vs H Q E h => ?_) (fun cdv A outer s H vs Q E hr h => ?_)
  · obtain ⟨v, t, rfl, _⟩ := h
    rfl
  obtain ⟨v, t, rfl, hv, ok, q⟩ := h
  have okv := hv.ok ok
  have ety := hv.tyN
  have hu := hu_of hr
  refine ⟨_, (@pss_cons _ _ _ _ _ (@ps_if _ _ _ _ _ _ _ _ (@PW.pt _ _ _ (@pw_or _ _ _ _ _ _ _ (@pt_not _ _ _ _ (@pt_val _ _ _ (@pe_callB _ _ _ _ _ _ _ _ _ call_isinst (by rfl) T.b_isinstance bt_isinstance (@pa_cons _ _ _ _ _ (@pv _ 0 _ _ (by rfl) (by first | exact Or.inl rfl | exact Or.inr (Or.inl rfl) | exact Or.inr (Or.inr rfl)) (by decide) (by decide)) (@pa_cons _ _ _ _ _ (@pe_ty _ _ _ _ rfl T.b_tuple bt_tuple (by decide) (by decide)) (@pa_nil _) (by rfl)) (by rfl)) (by decide) (by decide) (by rfl) (by rfl)) (by intro _; rfl))) (@pw_or1 _ _ _ _ (@pt_cmpR _ _ _ _ _ _ _ _ op_gt (@pe_callB _ _ _ _ _ _ _ _ _ call_len_seq (by rfl) T.b_len bt_len (@pa_cons _ _ _ _ _ (@pv _ 0 _ _ (by rfl) (by first | exact Or.inl rfl | exact Or.inr (Or.inl rfl) | exact Or.inr (Or.inr rfl)) (by decide) (by decide)) (@pa_nil _) (by rfl)) (by decide) (by decide) (by rfl) (by rfl)) (@pe_globI _ _ _ _ rfl T.c_MOST_ENTRIES (by decide)) (nomark _))))) (@pss_one _ _ _ (@ps_ret _ _ _ _ (@pe_bl _ _ _ _))) (@pss_nil _)) (@pss_cons _ _ _ _ _ (@ps_if _ _ _ _ _ _ _ _ (@pt_not _ _ _ _ (@pt_val _ _ _ (@pe_callB _ _ _ _ _ _ _ _ _ (call_all rfl) (by rfl) T.b_all bt_all (@pa_cons _ _ _ _ _ (@pe_comp0 _ ["entry"] _ _ _ _ _ _ _ _ _ _ rfl (@pi_tup _ _ _ _ (@pv _ 0 _ _ (by rfl) (by first | exact Or.inl rfl | exact Or.inr (Or.inl rfl) | exact Or.inr (Or.inr rfl)) (by decide) (by decide))) (by decide +kernel) (fun C s H fp => ⟨(@pg_name _ _ (0) _ (show (["entry"] : List Str).Nodup by decide +kernel) rfl (by first | exact Or.inl rfl | exact Or.inr rfl) (by first | exact .inl rfl | exact .inr rfl | assumption)), (@pifs_nil _), (@pe_fn _ _ _ _ _ _ _ _ _ _ D_is_entry (hr.mono (by decide)) rfl (@pa_cons _ _ _ _ _ (@pv _ 0 _ _ (by rfl) (by first | exact Or.inl rfl | exact Or.inr (Or.inl rfl) | exact Or.inr (Or.inr rfl)) (by decide) (by decide)) (@pa_nil _) (by rfl)) (by decide) (by rfl) (by rfl))⟩) (by intro _; rfl)) (@pa_nil _) (by rfl)) (by decide) (by decide) (by rfl) (by rfl)) (by intro _; rfl))) (@pss_one _ _ _ (@ps_ret _ _ _ _ (@pe_bl _ _ _ _))) (@pss_nil _)) (@pss_cons _ _ _ _ _ (@ps_setC0 _ ["name", "kind", "tag"] (1) _ _ _ _ _ _ _ _ _ _ _ _ _ sc_are_entries.nd rfl (by first | exact Or.inl rfl | exact Or.inr rfl) rfl (@pi_tup _ _ _ _ (@pv _ 0 _ _ (by rfl) (by first | exact Or.inl rfl | exact Or.inr (Or.inl rfl) | exact Or.inr (Or.inr rfl)) (by decide) (by decide))) (by decide +kernel) (fun C s H fp => ⟨(@pg_tupK _ (K) _ _ _ _ (3) (by rfl) rfl (@pgs_cons _ _ _ _ _ (@pg_name _ _ (0) _ (show (["name", "kind", "tag"] : List Str).Nodup by decide +kernel) rfl (by first | exact Or.inl rfl | exact Or.inr rfl) (by first | exact .inl rfl | exact .inr rfl | assumption)) (@pgs_cons _ _ _ _ _ (@pg_name _ _ (1) _ (show (["name", "kind", "tag"] : List Str).Nodup by decide +kernel) rfl (by first | exact Or.inl rfl | exact Or.inr rfl) (by first | exact .inl rfl | exact .inr rfl | assumption)) (@pgs_cons _ _ _ _ _ (@pg_name _ _ (2) _ (show (["name", "kind", "tag"] : List Str).Nodup by decide +kernel) rfl (by first | exact Or.inl rfl | exact Or.inr rfl) (by first | exact .inl rfl | exact .inr rfl | assumption)) (@pgs_nil _) (by rfl)) (by rfl)) (by rfl)) (by rfl) (by rfl)), (@pifs_nil _), (@pv _ 0 _ _ (by rfl) (by first | exact Or.inl rfl | exact Or.inr (Or.inl rfl) | exact Or.inr (Or.inr rfl)) (by decide) (by decide))⟩) (by intro _; rfl) (by rfl) (by first | exact .inl rfl | exact .inr rfl | assumption)) (@pss_one _ _ _ (@ps_ret _ _ _ _ (@pe_cmpR _ _ _ _ _ _ _ _ (op_eqD hu) (@pv _ 1 _ _ (by rfl) (by first | exact Or.inl rfl | exact Or.inr (Or.inl rfl) | exact Or.inr (Or.inr rfl)) (by decide) (by decide)) (@pe_callB _ _ _ _ _ _ _ _ _ (call_sortT (P := P) (w := w) (by rfl) (by rfl) rfl) (by rfl) T.b_sorted bt_sorted (@pa_cons _ _ _ _ _ (@pe_callTy _ _ _ _ _ _ _ _ _ (call_setT (P := P) (w := w) (K := K) (by rfl) (by rfl) (by rfl) rfl) (by rfl) T.b_set bt_set (@pa_cons _ _ _ _ _ (@pv _ 1 _ _ (by rfl) (by first | exact Or.inl rfl | exact Or.inr (Or.inl rfl) | exact Or.inr (Or.inr rfl)) (by decide) (by decide)) (@pa_nil _) (by rfl)) (by decide) (by decide) (by rfl) (by rfl)) (@pa_nil _) (by rfl)) (by decide) (by decide) (by rfl) (by rfl)) (nomark _))))))), ?_⟩
  refine ⟨_, rfl, _, _, _, _, rfl, okv.ty K, okv.kit K, _, rfl, ?_⟩
  rw [ety]
  cases t with
  | tup ts =>
    obtain ⟨a, us, rfl, e, r⟩ := hv
    have lu := Reps.len _ _ r
    have eR : entsT (.tup ts) = (decide (ts.length ≤ 16) && ts.all entT && risT (ts.map nmT)) := rfl
    rw [eR] at q
    refine iteFc (by show (!isA "tuple" "tuple") = false; decide) ?_
    refine ⟨_, rfl, a, _, rfl, .inr (SqT.of e), _, _, rfl, rfl, _, rfl, ite2 (fun c => ?_) (fun c => ?_)⟩
    · have c' := dec_true c
      have := q H (Same.refl _)
      rw [decide_eq_false (show ¬ ts.length ≤ 16 by omega)] at this
      exact this
    have c' := dec_false c
    rw [decide_eq_true (show ts.length ≤ 16 by omega)] at q
    refine ⟨_, rfl, a, rfl, ⟨_, SqT.of e⟩, all_tree entT (itIs_tup e) r ok.2 (by omega) (fun t x H' R rt ot hR => ?_) fun l H7 s7 h7 => ?_⟩
    · exact ⟨_, rfl, x, t, rfl, rt, ot, hR⟩
    refine ⟨l, _, rfl, SqL.of h7, _, rfl, ?_⟩
    have e7 := s7.get e
    have r7 := Reps.same s7 _ _ r
    rw [List.all_map]
    have ea : (ts.all (id ∘ entT)) = ts.all entT := rfl
    rw [ea]
    cases hall : ts.all entT with
    | false =>
      rw [hall] at q
      exact iteTc rfl (q H7 s7)
    | true =>
      rw [hall] at q
      refine iteFc rfl ?_
      refine ⟨_, rfl, a, rfl, ⟨_, SqT.of e7⟩, comp_map3 (fstV H7) (itIs_tup e7) (by omega) (fun x hx => ?_) (fun x x1 x2 x3 H' R hx hx2 s' hR => ?_) fun l2 H8 n8 s8 h8 => ?_⟩
      · obtain ⟨i, hi, ei⟩ := List.getElem_of_mem hx
        obtain ⟨t, ht, rt⟩ := Reps.get r7 (show us[i]? = some x by rw [List.getElem?_eq_getElem hi, ei])
        obtain ⟨c, u2, u3, rfl, ec⟩ := ent_three rt (Tr.oks_get ok.2 ht) (List.all_eq_true.mp hall t (List.mem_of_getElem? ht))
        exact ⟨c, _, _, _, rfl, ec⟩
      · refine ⟨_, rfl, ?_⟩
        have := hR H' (Same.refl _)
        simp only [fstV, hx2] at this
        exact this
      rw [names_tree r7 ok.2 hall] at h8
      have ln : (ts.map nmT).length ≤ 16 := by rw [List.length_map]; omega
      refine ⟨_, rfl, _, rfl, l2, _, rfl, SqL.of h8, by omega, fun p hp => ?_⟩
      have sp := same_new hp (SetT P w p (onceS (ts.map nmT)))
      have lo := once_len (ts.map nmT)
      refine ⟨p, _, rfl, upd_same, by omega, fun zs p2 pt st hp2 => ?_⟩
      have s2 := same_new hp2 (.lst (zs.map V.str))
      refine ⟨l2, p2, _, _, rfl, rfl, SqL.of (s2.get (sp.get h8)), SqL.of upd_same, all_pure_str _, all_pure_str _, ?_⟩
      rw [if_neg Bool.false_ne_true]
      have := q _ (((s7.trans s8).trans sp).trans s2)
      rw [(ris_eq pt st).1]
      exact this
  | non => exact iteTc (by decide) (q H (Same.refl _))
  | bl b => exact iteTc (by show (!isA "bool" "tuple") = true; decide) (q H (Same.refl _))
  | int i => exact iteTc (by show (!isA "int" "tuple") = true; decide) (q H (Same.refl _))
  | str z => exact iteTc (by show (!isA "str" "tuple") = true; decide) (q H (Same.refl _))
  | lst ts => exact iteTc (by show (!isA "list" "tuple") = true; decide) (q H (Same.refl _))
end
section
variable {P : Program} {w : World} {K : PySem.W.Frag} {mg : Str → Option Value} {base : Heap} {f : Addr} {fd : FuncData}
def ivT : Tr → Int
  | .int i => i
  | _ => 0
def pcT : List Tr → Bool
  | [t] => textB 1 8 (fv t)
  | _ => false
def rwT : List Tr → Bool
  | [l, t] => betw 1 9 (fv l) && rowT (ivT l) t
  | _ => false
def flT : List Tr → Bool
  | [t] => entsT t
  | _ => false
def blkT : Tr → Bool
  | .tup (.int k :: r) => if k = 0 then pcT r else if k = 1 then rwT r else if k = 2 then flT r else false
  | _ => false
def whT : Tr → Bool
  | .int _ => true
  | _ => false
theorem at0 {x : V} {xs : List V} : atI (x :: xs) 0 = some x := atI_nat (show (x :: xs)[0]? = some x from rfl)
theorem whole_rep {H : Hp} {t : Tr} {v : V} (h : Rep All H t v) : wholeB H v = whT t := by
  unfold wholeB
  rw [h.tyN]
  cases t with
  | non => decide
  | bl b => show (isA "bool" "int" && !isA "bool" "bool") = false; decide
  | int i => show (isA "int" "int" && !isA "int" "bool") = true; decide
  | str z => show (isA "str" "int" && !isA "str" "bool") = false; decide
  | tup ts => show (isA "tuple" "int" && !isA "tuple" "bool") = false; decide
  | lst ts => show (isA "list" "int" && !isA "list" "bool") = false; decide
theorem one_of {H : Hp} {r : List Tr} {us : List V} (h : Reps All H r us) (l : us.length = 1) : ∃ t u, r = [t] ∧ us = [u] ∧ Rep All H t u := by
  have l2 := Reps.len _ _ h
  match r, h, l2 with
  | [t], h, _ =>
    obtain ⟨u, _, rfl, r1, rfl⟩ := h
    exact ⟨t, u, rfl, rfl, r1⟩
  | [], _, l2 => rw [l] at l2; cases l2
  | _ :: _ :: _, _, l2 => rw [l] at l2; simp at l2
theorem two_of {H : Hp} {r : List Tr} {us : List V} (h : Reps All H r us) (l : us.length = 2) : ∃ t t' u u', r = [t, t'] ∧ us = [u, u'] ∧ Rep All H t u ∧ Rep All H t' u' := by
  have l2 := Reps.len _ _ h
  match r, h, l2 with
  | [t, t'], h, _ =>
    obtain ⟨u, _, rfl, r1, u', _, rfl, r2, rfl⟩ := h
    exact ⟨t, t', u, u', rfl, rfl, r1, r2⟩
  | [], _, l2 => rw [l] at l2; cases l2
  | [_], _, l2 => rw [l] at l2; simp at l2
  | _ :: _ :: _ :: _, _, l2 => rw [l] at l2; simp at l2
theorem pc_no {r : List Tr} (h : ¬ r.length = 1) : pcT r = false ∧ flT r = false := by
  match r, h with
  | [], _ => exact ⟨rfl, rfl⟩
  | [_], h => exact absurd rfl h
  | _ :: _ :: _, _ => exact ⟨rfl, rfl⟩
theorem rw_no {r : List Tr} (h : ¬ r.length = 2) : rwT r = false := by
  match r, h with
  | [], _ => rfl
  | [_], _ => rfl
  | [_, _], h => exact absurd rfl h
  | _ :: _ :: _ :: _, _ => rfl
theorem len_int {n : Nat} {k : Int} (h : decide (V.int (n : Int) = V.int k) = true) : (n : Int) = k := V.int.inj (of_decide_eq_true h)
def sp_is_block (K : PySem.W.Frag) : Sp := fun vs H Q _ => ∃ v t, vs = [v] ∧ Rep All H t v ∧ t.ok ∧ ∀ H', Same H H' → Q (.bl (blkT t)) H'
theorem ok_is_block (T : Txt K mg) (F : Fun K "is_block" "is_block" s_is_block f fd) (D_are_entries : Def P w K mg base 5 "are_entries" ["thing"] (sp_are_entries K)) (D_is_whole : Def P w K mg base 1 "is_whole" ["thing"] (sp_is_whole K)) (D_is_text : Def P w K mg base 1 "is_text" ["thing", "least", "most"] (sp_is_text K)) (D_is_between : Def P w K mg base 2 "is_between" ["thing", "least", "most"] (sp_is_between K)) (D_are_row_tags : Def P w K mg base 4 "are_row_tags" ["thing", "level"] (sp_are_row_tags K)) : FnOk P w K mg base CX0 6 f fd ["thing"] (sp_is_block K) := by
  refine F.ok sc_is_block (fun vs H Q E h => ?_) (fun cdv A outer s H vs Q E hr h => ?_)
  · obtain ⟨v, t, rfl, _⟩ := h
    rfl
  obtain ⟨v, t, rfl, hv, ok, q⟩ := h
  have okv := hv.ok ok
  have ety := hv.tyN
  refine ⟨_, (@pss_cons _ _ _ _ _ (@ps_if _ _ _ _ _ _ _ _ (@PW.pt _ _ _ (@pw_or _ _ _ _ _ _ _ (@pt_not _ _ _ _ (@pt_val _ _ _ (@pe_callB _ _ _ _ _ _ _ _ _ call_isinst (by rfl) T.b_isinstance bt_isinstance (@pa_cons _ _ _ _ _ (@pv _ 0 _ _ (by rfl) (by first | exact Or.inl rfl | exact Or.inr (Or.inl rfl) | exact Or.inr (Or.inr rfl)) (by decide) (by decide)) (@pa_cons _ _ _ _ _ (@pe_ty _ _ _ _ rfl T.b_tuple bt_tuple (by decide) (by decide)) (@pa_nil _) (by rfl)) (by rfl)) (by decide) (by decide) (by rfl) (by rfl)) (by intro _; rfl))) (@pw_or _ _ _ _ _ _ _ (@pt_cmpR _ _ _ _ _ _ _ _ op_eq (@pe_callB _ _ _ _ _ _ _ _ _ call_len_seq (by rfl) T.b_len bt_len (@pa_cons _ _ _ _ _ (@pv _ 0 _ _ (by rfl) (by first | exact Or.inl rfl | exact Or.inr (Or.inl rfl) | exact Or.inr (Or.inr rfl)) (by decide) (by decide)) (@pa_nil _) (by rfl)) (by decide) (by decide) (by rfl) (by rfl)) (@pe_int _ _ _ _) (nomark _)) (@pw_or1 _ _ _ _ (@pt_not _ _ _ _ (@pt_val _ _ _ (@pe_fn _ _ _ _ _ _ _ _ _ _ D_is_whole (hr.mono (by decide)) rfl (@pa_cons _ _ _ _ _ (@pe_ix _ _ _ _ _ _ _ ix_tup (@pv _ 0 _ _ (by rfl) (by first | exact Or.inl rfl | exact Or.inr (Or.inl rfl) | exact Or.inr (Or.inr rfl)) (by decide) (by decide)) (@pe_int _ _ _ _) (fun _ _ => rfl)) (@pa_nil _) (by rfl)) (by decide) (by rfl) (by rfl)) (by intro _; rfl))))))) (@pss_one _ _ _ (@ps_ret _ _ _ _ (@pe_bl _ _ _ _))) (@pss_nil _)) (@pss_cons _ _ _ _ _ (@ps_if _ _ _ _ _ _ _ _ (@pt_cmpR _ _ _ _ _ _ _ _ op_eq (@pe_ix _ _ _ _ _ _ _ ix_tup (@pv _ 0 _ _ (by rfl) (by first | exact Or.inl rfl | exact Or.inr (Or.inl rfl) | exact Or.inr (Or.inr rfl)) (by decide) (by decide)) (@pe_int _ _ _ _) (fun _ _ => rfl)) (@pe_globI _ _ _ _ rfl T.c_PIECE (by decide)) (nomark _)) (@pss_one _ _ _ (@ps_ret _ _ _ _ (@pe_and _ _ _ _ _ _ _ (@pe_cmpR _ _ _ _ _ _ _ _ op_eq (@pe_callB _ _ _ _ _ _ _ _ _ call_len_seq (by rfl) T.b_len bt_len (@pa_cons _ _ _ _ _ (@pv _ 0 _ _ (by rfl) (by first | exact Or.inl rfl | exact Or.inr (Or.inl rfl) | exact Or.inr (Or.inr rfl)) (by decide) (by decide)) (@pa_nil _) (by rfl)) (by decide) (by decide) (by rfl) (by rfl)) (@pe_int _ _ _ _) (nomark _)) (@pe_one _ _ _ _ _ (@pe_fn _ _ _ _ _ _ _ _ _ _ D_is_text (hr.mono (by decide)) rfl (@pa_cons _ _ _ _ _ (@pe_ix _ _ _ _ _ _ _ ix_tup (@pv _ 0 _ _ (by rfl) (by first | exact Or.inl rfl | exact Or.inr (Or.inl rfl) | exact Or.inr (Or.inr rfl)) (by decide) (by decide)) (@pe_int _ _ _ _) (fun _ _ => rfl)) (@pa_cons _ _ _ _ _ (@pe_int _ _ _ _) (@pa_cons _ _ _ _ _ (@pe_globI _ _ _ _ rfl T.c_MOST_PIECE_SIGNS (by decide)) (@pa_nil _) (by rfl)) (by rfl)) (by rfl)) (by decide) (by rfl) (by rfl)))))) (@pss_nil _)) (@pss_cons _ _ _ _ _ (@ps_if _ _ _ _ _ _ _ _ (@pt_cmpR _ _ _ _ _ _ _ _ op_eq (@pe_ix _ _ _ _ _ _ _ ix_tup (@pv _ 0 _ _ (by rfl) (by first | exact Or.inl rfl | exact Or.inr (Or.inl rfl) | exact Or.inr (Or.inr rfl)) (by decide) (by decide)) (@pe_int _ _ _ _) (fun _ _ => rfl)) (@pe_globI _ _ _ _ rfl T.c_ROW (by decide)) (nomark _)) (@pss_one _ _ _ (@ps_ret _ _ _ _ (@pe_and _ _ _ _ _ _ _ (@pe_cmpR _ _ _ _ _ _ _ _ op_eq (@pe_callB _ _ _ _ _ _ _ _ _ call_len_seq (by rfl) T.b_len bt_len (@pa_cons _ _ _ _ _ (@pv _ 0 _ _ (by rfl) (by first | exact Or.inl rfl | exact Or.inr (Or.inl rfl) | exact Or.inr (Or.inr rfl)) (by decide) (by decide)) (@pa_nil _) (by rfl)) (by decide) (by decide) (by rfl) (by rfl)) (@pe_int _ _ _ _) (nomark _)) (@pe_and _ _ _ _ _ _ _ (@pe_fn _ _ _ _ _ _ _ _ _ _ D_is_between (hr.mono (by decide)) rfl (@pa_cons _ _ _ _ _ (@pe_ix _ _ _ _ _ _ _ ix_tup (@pv _ 0 _ _ (by rfl) (by first | exact Or.inl rfl | exact Or.inr (Or.inl rfl) | exact Or.inr (Or.inr rfl)) (by decide) (by decide)) (@pe_int _ _ _ _) (fun _ _ => rfl)) (@pa_cons _ _ _ _ _ (@pe_int _ _ _ _) (@pa_cons _ _ _ _ _ (@pe_globI _ _ _ _ rfl T.c_MOST_LEVEL (by decide)) (@pa_nil _) (by rfl)) (by rfl)) (by rfl)) (by decide) (by rfl) (by rfl)) (@pe_one _ _ _ _ _ (@pe_fn _ _ _ _ _ _ _ _ _ _ D_are_row_tags (hr.mono (by decide)) rfl (@pa_cons _ _ _ _ _ (@pe_ix _ _ _ _ _ _ _ ix_tup (@pv _ 0 _ _ (by rfl) (by first | exact Or.inl rfl | exact Or.inr (Or.inl rfl) | exact Or.inr (Or.inr rfl)) (by decide) (by decide)) (@pe_int _ _ _ _) (fun _ _ => rfl)) (@pa_cons _ _ _ _ _ (@pe_ix _ _ _ _ _ _ _ ix_tup (@pv _ 0 _ _ (by rfl) (by first | exact Or.inl rfl | exact Or.inr (Or.inl rfl) | exact Or.inr (Or.inr rfl)) (by decide) (by decide)) (@pe_int _ _ _ _) (fun _ _ => rfl)) (@pa_nil _) (by rfl)) (by rfl)) (by decide) (by rfl) (by rfl))))))) (@pss_nil _)) (@pss_one _ _ _ (@ps_ret _ _ _ _ (@pe_and _ _ _ _ _ _ _ (@pe_cmpR _ _ _ _ _ _ _ _ op_eq (@pe_ix _ _ _ _ _ _ _ ix_tup (@pv _ 0 _ _ (by rfl) (by first | exact Or.inl rfl | exact Or.inr (Or.inl rfl) | exact Or.inr (Or.inr rfl)) (by decide) (by decide)) (@pe_int _ _ _ _) (fun _ _ => rfl)) (@pe_globI _ _ _ _ rfl T.c_FOLDER (by decide)) (nomark _)) (@pe_and _ _ _ _ _ _ _ (@pe_cmpR _ _ _ _ _ _ _ _ op_eq (@pe_callB _ _ _ _ _ _ _ _ _ call_len_seq (by rfl) T.b_len bt_len (@pa_cons _ _ _ _ _ (@pv _ 0 _ _ (by rfl) (by first | exact Or.inl rfl | exact Or.inr (Or.inl rfl) | exact Or.inr (Or.inr rfl)) (by decide) (by decide)) (@pa_nil _) (by rfl)) (by decide) (by decide) (by rfl) (by rfl)) (@pe_int _ _ _ _) (nomark _)) (@pe_one _ _ _ _ _ (@pe_fn _ _ _ _ _ _ _ _ _ _ D_are_entries (hr.mono (by decide)) rfl (@pa_cons _ _ _ _ _ (@pe_ix _ _ _ _ _ _ _ ix_tup (@pv _ 0 _ _ (by rfl) (by first | exact Or.inl rfl | exact Or.inr (Or.inl rfl) | exact Or.inr (Or.inr rfl)) (by decide) (by decide)) (@pe_int _ _ _ _) (fun _ _ => rfl)) (@pa_nil _) (by rfl)) (by decide) (by rfl) (by rfl)))))))))), ?_⟩
  refine ⟨_, rfl, _, _, _, _, rfl, okv.ty K, okv.kit K, _, rfl, ?_⟩
  rw [ety]
  cases t with
  | non => exact iteTc (by decide) (q H (Same.refl _))
  | bl b => exact iteTc (by show (!isA "bool" "tuple") = true; decide) (q H (Same.refl _))
  | int i => exact iteTc (by show (!isA "int" "tuple") = true; decide) (q H (Same.refl _))
  | str z => exact iteTc (by show (!isA "str" "tuple") = true; decide) (q H (Same.refl _))
  | lst ts => exact iteTc (by show (!isA "list" "tuple") = true; decide) (q H (Same.refl _))
  | tup ts =>
    obtain ⟨a, us, rfl, e, r⟩ := hv
    refine iteFc (by show (!isA "tuple" "tuple") = false; decide) ?_
    cases ts with
    | nil =>
      cases (show us = [] from r)
      exact ⟨_, rfl, a, _, rfl, .inr (SqT.of e), rfl, _, rfl, iteTc rfl (q H (Same.refl _))⟩
    | cons t0 r0 =>
      obtain ⟨u0, us, rfl, r1, r2⟩ := r
      obtain ⟨_, o1, o2⟩ := ok
      have l2 := Reps.len _ _ r2
      refine ⟨_, rfl, a, _, rfl, .inr (SqT.of e), rfl, _, rfl, iteFc (decide_eq_false fun z => absurd (V.int.inj z) (by simp only [List.length_cons]; omega)) ?_⟩
      refine ⟨_, rfl, a, _, _, _, rfl, rfl, SqT.of e, at0, _, rfl, r1.ok o1, _, rfl, ?_⟩
      rw [whole_rep r1]
      cases t0 with
      | non => exact iteTc rfl (q H (Same.refl _))
      | bl b => exact iteTc rfl (q H (Same.refl _))
      | str z => exact iteTc rfl (q H (Same.refl _))
      | tup xs => exact iteTc rfl (q H (Same.refl _))
      | lst xs => exact iteTc rfl (q H (Same.refl _))
      | int k =>
        cases (show u0 = V.int k from r1)
        refine iteFc rfl ?_
        have eB : blkT (.tup (.int k :: r0)) = if k = 0 then pcT r0 else if k = 1 then rwT r0 else if k = 2 then flT r0 else false := rfl
        rw [eB] at q
        refine ⟨_, rfl, a, _, _, _, rfl, rfl, SqT.of e, at0, rfl, _, rfl, ite2 (fun c => ?_) (fun c => ?_)⟩
        · have k0 : k = 0 := V.int.inj (of_decide_eq_true c)
          rw [if_pos k0] at q
          refine ⟨_, rfl, a, _, rfl, .inr (SqT.of e), rfl, _, rfl, ite2 (fun c2 => ?_) (fun c2 => ?_)⟩
          · have c3 := len_int c2
            obtain ⟨t1, u1, rfl, rfl, rt⟩ := one_of r2 (by simp only [List.length_cons] at c3; omega)
            refine ⟨_, rfl, a, _, _, _, rfl, rfl, SqT.of e, rfl, _, 1, 8, rfl, rt.ok o2.1, fun H1 s1 => ?_⟩
            rw [text_rep rt]
            exact q H1 s1
          · have c3 : ¬ r0.length = 1 := fun z => c2 (decide_eq_true (by simp only [List.length_cons, l2, z]; rfl))
            rw [(pc_no c3).1] at q
            exact q H (Same.refl _)
        · have k0 : ¬ k = 0 := fun z => c (decide_eq_true (by rw [z]))
          rw [if_neg k0] at q
          refine ⟨_, rfl, a, _, _, _, rfl, rfl, SqT.of e, at0, rfl, _, rfl, ite2 (fun c1 => ?_) (fun c1 => ?_)⟩
          · have k1 : k = 1 := V.int.inj (of_decide_eq_true c1)
            rw [if_pos k1] at q
            refine ⟨_, rfl, a, _, rfl, .inr (SqT.of e), rfl, _, rfl, ite2 (fun c2 => ?_) (fun c2 => ?_)⟩
            · have c3 := len_int c2
              obtain ⟨t1, t2, u1, u2, rfl, rfl, rt1, rt2⟩ := two_of r2 (by simp only [List.length_cons] at c3; omega)
              have eW : rwT [t1, t2] = (betw 1 9 u1 && rowT (ivT t1) t2) := by rw [betw_rep rt1]; rfl
              rw [eW] at q
              refine ⟨_, rfl, a, _, _, _, rfl, rfl, SqT.of e, rfl, _, 1, 9, rfl, rt1.ok o2.1, _, rfl, ?_⟩
              cases hb : betw 1 9 u1 with
              | false => rw [hb] at q; exact iteFc rfl (q H (Same.refl _))
              | true =>
                rw [hb] at q
                refine iteTc rfl ?_
                have : ∃ lv, u1 = .int lv ∧ ivT t1 = lv := by
                  cases t1 with
                  | int i => cases (show u1 = V.int i from rt1); exact ⟨i, rfl, rfl⟩
                  | non => cases (show u1 = V.non from rt1); cases hb
                  | bl b => cases (show u1 = V.bl b from rt1); cases hb
                  | str z => cases (show u1 = V.str z from rt1); cases hb
                  | tup xs => obtain ⟨_, _, rfl, _⟩ := rt1; cases hb
                  | lst xs => obtain ⟨_, _, rfl, _⟩ := rt1; cases hb
                obtain ⟨lv, rfl, el⟩ := this
                rw [el] at q
                exact ⟨_, rfl, a, _, _, _, rfl, rfl, SqT.of e, rfl, _, rfl, a, _, _, _, rfl, rfl, SqT.of e, rfl, _, lv, t2, rfl, rt2, o2.2.1, q⟩
            · have c3 : ¬ r0.length = 2 := fun z => c2 (decide_eq_true (by simp only [List.length_cons, l2, z]; rfl))
              rw [rw_no c3] at q
              exact q H (Same.refl _)
          · have k1 : ¬ k = 1 := fun z => c1 (decide_eq_true (by rw [z]))
            rw [if_neg k1] at q
            refine ⟨_, rfl, a, _, _, _, rfl, rfl, SqT.of e, at0, rfl, _, rfl, ite2 (fun c4 => ?_) (fun c4 => ?_)⟩
            · have k2 : k = 2 := V.int.inj (of_decide_eq_true c4)
              rw [if_pos k2] at q
              refine ⟨_, rfl, a, _, rfl, .inr (SqT.of e), rfl, _, rfl, ite2 (fun c2 => ?_) (fun c2 => ?_)⟩
              · have c3 := len_int c2
                obtain ⟨t1, u1, rfl, rfl, rt⟩ := one_of r2 (by simp only [List.length_cons] at c3; omega)
                exact ⟨_, rfl, a, _, _, _, rfl, rfl, SqT.of e, rfl, _, t1, rfl, rt, o2.1, q⟩
              · have c3 : ¬ r0.length = 1 := fun z => c2 (decide_eq_true (by simp only [List.length_cons, l2, z]; rfl))
                rw [(pc_no c3).2] at q
                exact q H (Same.refl _)
            · have k2 : ¬ k = 2 := fun z => c4 (decide_eq_true (by rw [z]))
              rw [if_neg k2] at q
              exact q H (Same.refl _)
end
-- @@CUT3@@
section
variable {P : Program} {w : World} {K : PySem.W.Frag} {mg : Str → Option Value} {base : Heap} {f : Addr} {fd : FuncData}
theorem blk_short {ts : List Tr} (h : ts.length < 2) : blkT (.tup ts) = false := by
  match ts, h with
  | [], _ => rfl
  | [t], _ =>
    cases t with
    | int k => show (if k = 0 then false else if k = 1 then false else if k = 2 then false else false) = false; simp
    | _ => rfl
  | _ :: _ :: _, h => exact absurd h (by simp only [List.length_cons]; omega)
theorem blk_head {t0 : Tr} {r : List Tr} (h : betw 0 2 (fv t0) = false) : blkT (.tup (t0 :: r)) = false := by
  cases t0 with
  | int k =>
    have h' : (decide (0 ≤ k) && decide (k ≤ 2)) = false := h
    show (if k = 0 then pcT r else if k = 1 then rwT r else if k = 2 then flT r else false) = false
    have : ¬ (0 ≤ k ∧ k ≤ 2) := fun z => by rw [decide_eq_true z.1, decide_eq_true z.2] at h'; cases h'
    rw [if_neg (by omega), if_neg (by omega), if_neg (by omega)]
  | _ => rfl
def sp__law_is_block (K : PySem.W.Frag) : Sp := fun vs H Q _ => ∃ v t, vs = [v] ∧ Rep All H t v ∧ t.ok ∧ ∀ H', Same H H' → Q (.bl (blkT t)) H'
theorem ok__law_is_block (T : Txt K mg) (F : Fun K "_law_is_block" "_law_is_block" s__law_is_block f fd) (D__law_whole_from : Def P w K mg base 1 "_law_whole_from" ["_law_thing", "_law_least", "_law_most"] (sp__law_whole_from K)) (D__law_is_entry : Def P w K mg base 3 "_law_is_entry" ["_law_thing"] (sp__law_is_entry K)) (D__law_signs : Def P w K mg base 1 "_law_signs" [] (sp__law_signs K)) (D__law_is_tag : Def P w K mg base 2 "_law_is_tag" ["_law_thing"] (sp__law_is_tag K)) : FnOk P w K mg base CX0 4 f fd ["_law_thing"] (sp__law_is_block K) := by
  refine F.ok sc__law_is_block (fun vs H Q E h => ?_) (fun cdv A outer s H vs Q E hr h => ?_)
  · obtain ⟨v, t, rfl, _⟩ := h
    rfl
  obtain ⟨v, t, rfl, hv, ok, q⟩ := h
  have okv := hv.ok ok
  have ety := hv.tyN
  have hu := hu_of hr
  refine ⟨_, (@pss_cons _ _ _ _ _ (@ps_if _ _ _ _ _ _ _ _ (@PW.pt _ _ _ (@pw_or _ _ _ _ _ _ _ (@pt_not _ _ _ _ (@pt_val _ _ _ (@pe_callB _ _ _ _ _ _ _ _ _ call_isinst (by rfl) T.b_isinstance bt_isinstance (@pa_cons _ _ _ _ _ (@pv _ 0 _ _ (by rfl) (by first | exact Or.inl rfl | exact Or.inr (Or.inl rfl) | exact Or.inr (Or.inr rfl)) (by decide) (by decide)) (@pa_cons _ _ _ _ _ (@pe_ty _ _ _ _ rfl T.b_tuple bt_tuple (by decide) (by decide)) (@pa_nil _) (by rfl)) (by rfl)) (by decide) (by decide) (by rfl) (by rfl)) (by intro _; rfl))) (@pw_or _ _ _ _ _ _ _ (@pt_cmpR _ _ _ _ _ _ _ _ op_lt (@pe_callB _ _ _ _ _ _ _ _ _ call_len_seq (by rfl) T.b_len bt_len (@pa_cons _ _ _ _ _ (@pv _ 0 _ _ (by rfl) (by first | exact Or.inl rfl | exact Or.inr (Or.inl rfl) | exact Or.inr (Or.inr rfl)) (by decide) (by decide)) (@pa_nil _) (by rfl)) (by decide) (by decide) (by rfl) (by rfl)) (@pe_int _ _ _ _) (nomark _)) (@pw_or1 _ _ _ _ (@pt_not _ _ _ _ (@pt_val _ _ _ (@pe_fn _ _ _ _ _ _ _ _ _ _ D__law_whole_from (hr.mono (by decide)) rfl (@pa_cons _ _ _ _ _ (@pe_ix _ _ _ _ _ _ _ ix_tup (@pv _ 0 _ _ (by rfl) (by first | exact Or.inl rfl | exact Or.inr (Or.inl rfl) | exact Or.inr (Or.inr rfl)) (by decide) (by decide)) (@pe_int _ _ _ _) (fun _ _ => rfl)) (@pa_cons _ _ _ _ _ (@pe_int _ _ _ _) (@pa_cons _ _ _ _ _ (@pe_int _ _ _ _) (@pa_nil _) (by rfl)) (by rfl)) (by rfl)) (by decide) (by rfl) (by rfl)) (by intro _; rfl))))))) (@pss_one _ _ _ (@ps_ret _ _ _ _ (@pe_bl _ _ _ _))) (@pss_nil _)) (@pss_cons _ _ _ _ _ (@ps_if _ _ _ _ _ _ _ _ (@pt_cmpR _ _ _ _ _ _ _ _ op_eq (@pe_ix _ _ _ _ _ _ _ ix_tup (@pv _ 0 _ _ (by rfl) (by first | exact Or.inl rfl | exact Or.inr (Or.inl rfl) | exact Or.inr (Or.inr rfl)) (by decide) (by decide)) (@pe_int _ _ _ _) (fun _ _ => rfl)) (@pe_int _ _ _ _) (nomark _)) (@pss_cons _ _ _ _ _ (@ps_if _ _ _ _ _ _ _ _ (@PW.pt _ _ _ (@pw_or _ _ _ _ _ _ _ (@pt_cmpR _ _ _ _ _ _ _ _ op_ne (@pe_callB _ _ _ _ _ _ _ _ _ call_len_seq (by rfl) T.b_len bt_len (@pa_cons _ _ _ _ _ (@pv _ 0 _ _ (by rfl) (by first | exact Or.inl rfl | exact Or.inr (Or.inl rfl) | exact Or.inr (Or.inr rfl)) (by decide) (by decide)) (@pa_nil _) (by rfl)) (by decide) (by decide) (by rfl) (by rfl)) (@pe_int _ _ _ _) (nomark _)) (@pw_or _ _ _ _ _ _ _ (@pt_not _ _ _ _ (@pt_val _ _ _ (@pe_callB _ _ _ _ _ _ _ _ _ call_isinst (by rfl) T.b_isinstance bt_isinstance (@pa_cons _ _ _ _ _ (@pe_ix _ _ _ _ _ _ _ ix_tup (@pv _ 0 _ _ (by rfl) (by first | exact Or.inl rfl | exact Or.inr (Or.inl rfl) | exact Or.inr (Or.inr rfl)) (by decide) (by decide)) (@pe_int _ _ _ _) (fun _ _ => rfl)) (@pa_cons _ _ _ _ _ (@pe_ty _ _ _ _ rfl T.b_str bt_str (by decide) (by decide)) (@pa_nil _) (by rfl)) (by rfl)) (by decide) (by decide) (by rfl) (by rfl)) (by intro _; rfl))) (@pw_or1 _ _ _ _ (@pt_not _ _ _ _ (@pt_chain _ _ _ _ _ _ _ _ _ _ _ _ op_le op_le (@pe_int _ _ _ _) (@pe_callB _ _ _ _ _ _ _ _ _ call_len_str (by rfl) T.b_len bt_len (@pa_cons _ _ _ _ _ (@pe_ix _ _ _ _ _ _ _ ix_tup (@pv _ 0 _ _ (by rfl) (by first | exact Or.inl rfl | exact Or.inr (Or.inl rfl) | exact Or.inr (Or.inr rfl)) (by decide) (by decide)) (@pe_int _ _ _ _) (fun _ _ => rfl)) (@pa_nil _) (by rfl)) (by decide) (by decide) (by rfl) (by rfl)) (@pe_int _ _ _ _) (by with_unfolding_all rfl))))))) (@pss_one _ _ _ (@ps_ret _ _ _ _ (@pe_bl _ _ _ _))) (@pss_nil _)) (@pss_one _ _ _ (@ps_ret _ _ _ _ (@pe_cmpR _ _ _ _ _ _ _ _ (op_eqE hu) (@pe_comp0 _ ["_law_sign"] _ _ _ _ _ _ _ _ _ _ rfl (@pi_str _ _ _ _ (@pe_ix _ _ _ _ _ _ _ ix_tup (@pv _ 0 _ _ (by rfl) (by first | exact Or.inl rfl | exact Or.inr (Or.inl rfl) | exact Or.inr (Or.inr rfl)) (by decide) (by decide)) (@pe_int _ _ _ _) (fun _ _ => rfl))) (by decide +kernel) (fun C s H fp => ⟨(@pg_name _ _ (0) _ (show (["_law_sign"] : List Str).Nodup by decide +kernel) rfl (by first | exact Or.inl rfl | exact Or.inr rfl) (by first | exact .inl rfl | exact .inr rfl | assumption)), (@pifs_one _ _ _ (@pt_cmpR _ _ _ _ _ _ _ _ op_notin_str (@pv _ 0 _ _ (by rfl) (by first | exact Or.inl rfl | exact Or.inr (Or.inl rfl) | exact Or.inr (Or.inr rfl)) (by decide) (by decide)) (@pe_fn0 _ _ _ _ _ _ _ D__law_signs (hr.mono (by decide)) rfl (by decide)) rfl)), (@pv _ 0 _ _ (by rfl) (by first | exact Or.inl rfl | exact Or.inr (Or.inl rfl) | exact Or.inr (Or.inr rfl)) (by decide) (by decide))⟩) (by intro _; rfl)) (@pe_lst _ _ _ _ (@pa_nil _)) (nomark _))))) (@pss_nil _)) (@pss_cons _ _ _ _ _ (@ps_if _ _ _ _ _ _ _ _ (@pt_cmpR _ _ _ _ _ _ _ _ op_eq (@pe_ix _ _ _ _ _ _ _ ix_tup (@pv _ 0 _ _ (by rfl) (by first | exact Or.inl rfl | exact Or.inr (Or.inl rfl) | exact Or.inr (Or.inr rfl)) (by decide) (by decide)) (@pe_int _ _ _ _) (fun _ _ => rfl)) (@pe_int _ _ _ _) (nomark _)) (@pss_cons _ _ _ _ _ (@ps_if _ _ _ _ _ _ _ _ (@PW.pt _ _ _ (@pw_or _ _ _ _ _ _ _ (@pt_cmpR _ _ _ _ _ _ _ _ op_ne (@pe_callB _ _ _ _ _ _ _ _ _ call_len_seq (by rfl) T.b_len bt_len (@pa_cons _ _ _ _ _ (@pv _ 0 _ _ (by rfl) (by first | exact Or.inl rfl | exact Or.inr (Or.inl rfl) | exact Or.inr (Or.inr rfl)) (by decide) (by decide)) (@pa_nil _) (by rfl)) (by decide) (by decide) (by rfl) (by rfl)) (@pe_int _ _ _ _) (nomark _)) (@pw_or _ _ _ _ _ _ _ (@pt_not _ _ _ _ (@pt_val _ _ _ (@pe_fn _ _ _ _ _ _ _ _ _ _ D__law_whole_from (hr.mono (by decide)) rfl (@pa_cons _ _ _ _ _ (@pe_ix _ _ _ _ _ _ _ ix_tup (@pv _ 0 _ _ (by rfl) (by first | exact Or.inl rfl | exact Or.inr (Or.inl rfl) | exact Or.inr (Or.inr rfl)) (by decide) (by decide)) (@pe_int _ _ _ _) (fun _ _ => rfl)) (@pa_cons _ _ _ _ _ (@pe_int _ _ _ _) (@pa_cons _ _ _ _ _ (@pe_int _ _ _ _) (@pa_nil _) (by rfl)) (by rfl)) (by rfl)) (by decide) (by rfl) (by rfl)) (by intro _; rfl))) (@pw_or1 _ _ _ _ (@pt_not _ _ _ _ (@pt_val _ _ _ (@pe_callB _ _ _ _ _ _ _ _ _ call_isinst (by rfl) T.b_isinstance bt_isinstance (@pa_cons _ _ _ _ _ (@pe_ix _ _ _ _ _ _ _ ix_tup (@pv _ 0 _ _ (by rfl) (by first | exact Or.inl rfl | exact Or.inr (Or.inl rfl) | exact Or.inr (Or.inr rfl)) (by decide) (by decide)) (@pe_int _ _ _ _) (fun _ _ => rfl)) (@pa_cons _ _ _ _ _ (@pe_ty _ _ _ _ rfl T.b_tuple bt_tuple (by decide) (by decide)) (@pa_nil _) (by rfl)) (by rfl)) (by decide) (by decide) (by rfl) (by rfl)) (by intro _; rfl))))))) (@pss_one _ _ _ (@ps_ret _ _ _ _ (@pe_bl _ _ _ _))) (@pss_nil _)) (@pss_one _ _ _ (@ps_ret _ _ _ _ (@pe_and _ _ _ _ _ _ _ (@pe_chain _ _ _ _ _ _ _ _ _ _ _ _ op_le op_le (@pe_callTy _ _ _ _ _ _ _ _ _ call_int1 (by rfl) T.b_int bt_int (@pa_cons _ _ _ _ _ (@pe_cmpR _ _ _ _ _ _ _ _ op_gt (@pe_ix _ _ _ _ _ _ _ ix_tup (@pv _ 0 _ _ (by rfl) (by first | exact Or.inl rfl | exact Or.inr (Or.inl rfl) | exact Or.inr (Or.inr rfl)) (by decide) (by decide)) (@pe_int _ _ _ _) (fun _ _ => rfl)) (@pe_int _ _ _ _) (nomark _)) (@pa_nil _) (by rfl)) (by decide) (by decide) (by rfl) (by rfl)) (@pe_callB _ _ _ _ _ _ _ _ _ call_len_seq (by rfl) T.b_len bt_len (@pa_cons _ _ _ _ _ (@pe_ix _ _ _ _ _ _ _ ix_tup (@pv _ 0 _ _ (by rfl) (by first | exact Or.inl rfl | exact Or.inr (Or.inl rfl) | exact Or.inr (Or.inr rfl)) (by decide) (by decide)) (@pe_int _ _ _ _) (fun _ _ => rfl)) (@pa_nil _) (by rfl)) (by decide) (by decide) (by rfl) (by rfl)) (@pe_int _ _ _ _) (by with_unfolding_all rfl)) (@pe_one _ _ _ _ _ (@pe_cmpR _ _ _ _ _ _ _ _ (op_eqE hu) (@pe_comp0 _ ["_law_tag_here"] _ _ _ _ _ _ _ _ _ _ rfl (@pi_tup _ _ _ _ (@pe_ix _ _ _ _ _ _ _ ix_tup (@pv _ 0 _ _ (by rfl) (by first | exact Or.inl rfl | exact Or.inr (Or.inl rfl) | exact Or.inr (Or.inr rfl)) (by decide) (by decide)) (@pe_int _ _ _ _) (fun _ _ => rfl))) (by decide +kernel) (fun C s H fp => ⟨(@pg_name _ _ (0) _ (show (["_law_tag_here"] : List Str).Nodup by decide +kernel) rfl (by first | exact Or.inl rfl | exact Or.inr rfl) (by first | exact .inl rfl | exact .inr rfl | assumption)), (@pifs_one _ _ _ (@pt_not _ _ _ _ (@pt_val _ _ _ (@pe_fn _ _ _ _ _ _ _ _ _ _ D__law_is_tag (hr.mono (by decide)) rfl (@pa_cons _ _ _ _ _ (@pv _ 0 _ _ (by rfl) (by first | exact Or.inl rfl | exact Or.inr (Or.inl rfl) | exact Or.inr (Or.inr rfl)) (by decide) (by decide)) (@pa_nil _) (by rfl)) (by decide) (by rfl) (by rfl)) (by intro _; rfl)))), (@pv _ 0 _ _ (by rfl) (by first | exact Or.inl rfl | exact Or.inr (Or.inl rfl) | exact Or.inr (Or.inr rfl)) (by decide) (by decide))⟩) (by intro _; rfl)) (@pe_lst _ _ _ _ (@pa_nil _)) (nomark _))))))) (@pss_nil _)) (@pss_cons _ _ _ _ _ (@ps_if _ _ _ _ _ _ _ _ (@PW.pt _ _ _ (@pw_or _ _ _ _ _ _ _ (@pt_cmpR _ _ _ _ _ _ _ _ op_ne (@pe_callB _ _ _ _ _ _ _ _ _ call_len_seq (by rfl) T.b_len bt_len (@pa_cons _ _ _ _ _ (@pv _ 0 _ _ (by rfl) (by first | exact Or.inl rfl | exact Or.inr (Or.inl rfl) | exact Or.inr (Or.inr rfl)) (by decide) (by decide)) (@pa_nil _) (by rfl)) (by decide) (by decide) (by rfl) (by rfl)) (@pe_int _ _ _ _) (nomark _)) (@pw_or _ _ _ _ _ _ _ (@pt_not _ _ _ _ (@pt_val _ _ _ (@pe_callB _ _ _ _ _ _ _ _ _ call_isinst (by rfl) T.b_isinstance bt_isinstance (@pa_cons _ _ _ _ _ (@pe_ix _ _ _ _ _ _ _ ix_tup (@pv _ 0 _ _ (by rfl) (by first | exact Or.inl rfl | exact Or.inr (Or.inl rfl) | exact Or.inr (Or.inr rfl)) (by decide) (by decide)) (@pe_int _ _ _ _) (fun _ _ => rfl)) (@pa_cons _ _ _ _ _ (@pe_ty _ _ _ _ rfl T.b_tuple bt_tuple (by decide) (by decide)) (@pa_nil _) (by rfl)) (by rfl)) (by decide) (by decide) (by rfl) (by rfl)) (by intro _; rfl))) (@pw_or1 _ _ _ _ (@pt_cmpR _ _ _ _ _ _ _ _ op_gt (@pe_callB _ _ _ _ _ _ _ _ _ call_len_seq (by rfl) T.b_len bt_len (@pa_cons _ _ _ _ _ (@pe_ix _ _ _ _ _ _ _ ix_tup (@pv _ 0 _ _ (by rfl) (by first | exact Or.inl rfl | exact Or.inr (Or.inl rfl) | exact Or.inr (Or.inr rfl)) (by decide) (by decide)) (@pe_int _ _ _ _) (fun _ _ => rfl)) (@pa_nil _) (by rfl)) (by decide) (by decide) (by rfl) (by rfl)) (@pe_int _ _ _ _) (nomark _)))))) (@pss_one _ _ _ (@ps_ret _ _ _ _ (@pe_bl _ _ _ _))) (@pss_nil _)) (@pss_cons _ _ _ _ _ (@ps_if _ _ _ _ _ _ _ _ (@pt_cmpR _ _ _ _ _ _ _ _ (op_neE hu) (@pe_comp0 _ ["_law_entry"] _ _ _ _ _ _ _ _ _ _ rfl (@pi_tup _ _ _ _ (@pe_ix _ _ _ _ _ _ _ ix_tup (@pv _ 0 _ _ (by rfl) (by first | exact Or.inl rfl | exact Or.inr (Or.inl rfl) | exact Or.inr (Or.inr rfl)) (by decide) (by decide)) (@pe_int _ _ _ _) (fun _ _ => rfl))) (by decide +kernel) (fun C s H fp => ⟨(@pg_name _ _ (0) _ (show (["_law_entry"] : List Str).Nodup by decide +kernel) rfl (by first | exact Or.inl rfl | exact Or.inr rfl) (by first | exact .inl rfl | exact .inr rfl | assumption)), (@pifs_one _ _ _ (@pt_not _ _ _ _ (@pt_val _ _ _ (@pe_fn _ _ _ _ _ _ _ _ _ _ D__law_is_entry (hr.mono (by decide)) rfl (@pa_cons _ _ _ _ _ (@pv _ 0 _ _ (by rfl) (by first | exact Or.inl rfl | exact Or.inr (Or.inl rfl) | exact Or.inr (Or.inr rfl)) (by decide) (by decide)) (@pa_nil _) (by rfl)) (by decide) (by rfl) (by rfl)) (by intro _; rfl)))), (@pv _ 0 _ _ (by rfl) (by first | exact Or.inl rfl | exact Or.inr (Or.inl rfl) | exact Or.inr (Or.inr rfl)) (by decide) (by decide))⟩) (by intro _; rfl)) (@pe_lst _ _ _ _ (@pa_nil _)) (nomark _)) (@pss_one _ _ _ (@ps_ret _ _ _ _ (@pe_bl _ _ _ _))) (@pss_nil _)) (@pss_cons _ _ _ _ _ (@ps_setC0 _ ["_law_entry"] (1) _ _ _ _ _ _ _ _ _ _ _ _ _ sc__law_is_block.nd rfl (by first | exact Or.inl rfl | exact Or.inr rfl) rfl (@pi_tup _ _ _ _ (@pe_ix _ _ _ _ _ _ _ ix_tup (@pv _ 0 _ _ (by rfl) (by first | exact Or.inl rfl | exact Or.inr (Or.inl rfl) | exact Or.inr (Or.inr rfl)) (by decide) (by decide)) (@pe_int _ _ _ _) (fun _ _ => rfl))) (by decide +kernel) (fun C s H fp => ⟨(@pg_name _ _ (0) _ (show (["_law_entry"] : List Str).Nodup by decide +kernel) rfl (by first | exact Or.inl rfl | exact Or.inr rfl) (by first | exact .inl rfl | exact .inr rfl | assumption)), (@pifs_nil _), (@pe_ix _ _ _ _ _ _ _ (ix_tupK (K := K) (by rfl)) (@pv _ 0 _ _ (by rfl) (by first | exact Or.inl rfl | exact Or.inr (Or.inl rfl) | exact Or.inr (Or.inr rfl)) (by decide) (by decide)) (@pe_int _ _ _ _) (fun _ _ => rfl))⟩) (by intro _; rfl) (by rfl) (by first | exact .inl rfl | exact .inr rfl | assumption)) (@pss_one _ _ _ (@ps_ret _ _ _ _ (@pe_cmpR _ _ _ _ _ _ _ _ (op_eqD hu) (@pe_callB _ _ _ _ _ _ _ _ _ (call_sortT (P := P) (w := w) (by rfl) (by rfl) rfl) (by rfl) T.b_sorted bt_sorted (@pa_cons _ _ _ _ _ (@pe_callTy _ _ _ _ _ _ _ _ _ (call_setT (P := P) (w := w) (K := K) (by rfl) (by rfl) (by rfl) rfl) (by rfl) T.b_set bt_set (@pa_cons _ _ _ _ _ (@pv _ 1 _ _ (by rfl) (by first | exact Or.inl rfl | exact Or.inr (Or.inl rfl) | exact Or.inr (Or.inr rfl)) (by decide) (by decide)) (@pa_nil _) (by rfl)) (by decide) (by decide) (by rfl) (by rfl)) (@pa_nil _) (by rfl)) (by decide) (by decide) (by rfl) (by rfl)) (@pv _ 1 _ _ (by rfl) (by first | exact Or.inl rfl | exact Or.inr (Or.inl rfl) | exact Or.inr (Or.inr rfl)) (by decide) (by decide)) (nomark _)))))))))), ?_⟩
  refine ⟨_, rfl, _, _, _, _, rfl, okv.ty K, okv.kit K, _, rfl, ?_⟩
  rw [ety]
  cases t with
  | non => exact iteTc (by decide) (q H (Same.refl _))
  | bl b => exact iteTc (by show (!isA "bool" "tuple") = true; decide) (q H (Same.refl _))
  | int i => exact iteTc (by show (!isA "int" "tuple") = true; decide) (q H (Same.refl _))
  | str z => exact iteTc (by show (!isA "str" "tuple") = true; decide) (q H (Same.refl _))
  | lst ts => exact iteTc (by show (!isA "list" "tuple") = true; decide) (q H (Same.refl _))
  | tup ts =>
    obtain ⟨a, us, rfl, e, r⟩ := hv
    have lu := Reps.len _ _ r
    refine iteFc (by show (!isA "tuple" "tuple") = false; decide) ?_
    refine ⟨_, rfl, a, _, rfl, .inr (SqT.of e), _, _, rfl, rfl, _, rfl, ite2 (fun c => ?_) (fun c => ?_)⟩
    · have c' := dec_true c
      have := q H (Same.refl _)
      rw [blk_short (by omega)] at this
      exact this
    have c' := dec_false c
    cases ts with
    | nil => exact absurd lu (by simp only [List.length_nil]; omega)
    | cons t0 r0 =>
      obtain ⟨u0, us, rfl, r1, r2⟩ := r
      obtain ⟨_, o1, o2⟩ := ok
      have l2 := Reps.len _ _ r2
      refine ⟨_, rfl, a, _, _, _, rfl, rfl, SqT.of e, at0, _, 0, 2, rfl, r1.ok o1, _, rfl, ?_⟩
      rw [betw_rep r1]
      cases hb0 : betw 0 2 (fv t0) with
      | false =>
        have := q H (Same.refl _)
        rw [blk_head hb0] at this
        exact iteTc rfl this
      | true =>
        refine iteFc rfl ?_
        obtain ⟨k, rfl⟩ : ∃ k, t0 = .int k := by
          cases t0 with
          | int k => exact ⟨k, rfl⟩
          | _ => cases hb0
        cases (show u0 = V.int k from r1)
        have kb : 0 ≤ k ∧ k ≤ 2 := by
          have h' : (decide (0 ≤ k) && decide (k ≤ 2)) = true := hb0
          simpa using h'
        have eB : blkT (.tup (.int k :: r0)) = if k = 0 then pcT r0 else if k = 1 then rwT r0 else if k = 2 then flT r0 else false := rfl
        rw [eB] at q
        refine ⟨_, rfl, a, _, _, _, rfl, rfl, SqT.of e, at0, rfl, _, rfl, ite2 (fun c => ?_) (fun c => ?_)⟩
        · have k0 : k = 0 := V.int.inj (of_decide_eq_true c)
          rw [if_pos k0] at q
          refine ⟨_, rfl, a, _, rfl, .inr (SqT.of e), rfl, _, rfl, ite2 (fun c2 => ?_) (fun c2 => ?_)⟩
          · have c3 : ¬ r0.length = 1 := fun z => by
              rw [decide_eq_true (by simp only [List.length_cons, l2, z]; rfl)] at c2
              cases c2
            have := q H (Same.refl _)
            rw [(pc_no c3).1] at this
            exact this
          · have c3 : ((V.int k :: us).length : Int) = 2 := Classical.byContradiction fun z => c2 (by rw [decide_eq_false (fun y => z (V.int.inj y))]; rfl)
            obtain ⟨t1, u1, rfl, rfl, rt⟩ := one_of r2 (by simp only [List.length_cons] at c3; omega)
            have ok1 := rt.ok o2.1
            refine ⟨_, rfl, a, _, _, _, rfl, rfl, SqT.of e, rfl, _, _, _, _, rfl, ok1.ty K, ok1.kit K, _, rfl, ?_⟩
            cases hs : isA (tyN H u1) "str" with
            | false =>
              refine iteTc rfl ?_
              have := q H (Same.refl _)
              have eP : pcT [t1] = false := by show textB 1 8 (fv t1) = false; rw [← text_rep rt]; exact textB_no hs
              rw [eP] at this
              exact this
            | true =>
              refine iteFc rfl ?_
              obtain ⟨z, rfl, hz⟩ := str_of ok1 hs
              have zc := cod_len z
              have eP : pcT [t1] = (decide ((1 : Int) ≤ (z.length : Int)) && decide ((z.length : Int) ≤ 8) && allIn SG z) := by show textB 1 8 (fv t1) = _; rw [← text_rep rt]; rfl
              rw [eP] at q
              refine ⟨_, rfl, a, _, _, _, rfl, rfl, SqT.of e, rfl, _, rfl, small (by omega), _, _, rfl, rfl, _, rfl, ite2 (fun c4 => ?_) (fun c4 => ?_)⟩
              · refine ⟨_, _, rfl, rfl, _, rfl, ite2 (fun c5 => ?_) (fun c5 => ?_)⟩
                · have d5 : decide ((z.length : Int) ≤ 8) = false := by simpa using c5
                  have := q H (Same.refl _)
                  rw [d5, Bool.and_false] at this
                  exact this
                · have d5 : decide ((z.length : Int) ≤ 8) = true := by simpa using c5
                  rw [c4, d5] at q
                  refine ⟨_, rfl, a, _, _, _, rfl, rfl, SqT.of e, rfl, z, rfl, ?_⟩
                  refine comp_filter (fun v => match v with | .str y => !(!(Builtin.Str.occurrences SG y 0 SG.length 1).isEmpty) | _ => false) (fun v => v) itIs_str (by rw [List.length_map]; exact Nat.le_trans (Nat.le_of_eq zc) (by omega)) (fun x H' R hx s' hR => ?_) (fun x H' R hx _ s' hR => ?_) fun l H7 n7 s7 h7 => ?_
                  · obtain ⟨u, _, rfl⟩ := List.mem_map.mp hx
                    exact ⟨_, rfl, rfl, _, _, rfl, rfl, _, rfl, hR⟩
                  · exact ⟨_, rfl, hR H' (Same.refl _)⟩
                  refine ⟨small (by show 0 ≤ 1000000; decide), fun e2 he2 => ?_⟩
                  refine ⟨l, e2, _, rfl, rfl, SqL.of ((same_new he2 _).get h7), SqL.of upd_same, ?_⟩
                  have h9 := q _ (s7.trans (same_new he2 (.lst [])))
                  rw [← filter_all SG z] at h9
                  exact h9
              · have := q H (Same.refl _)
                rw [Bool.eq_false_iff.mpr c4] at this
                exact ⟨_, rfl, this⟩
        · have k0 : ¬ k = 0 := fun z => c (decide_eq_true (by rw [z]))
          rw [if_neg k0] at q
          refine ⟨_, rfl, a, _, _, _, rfl, rfl, SqT.of e, at0, rfl, _, rfl, ite2 (fun c1 => ?_) (fun c1 => ?_)⟩
          · have k1 : k = 1 := V.int.inj (of_decide_eq_true c1)
            rw [if_pos k1] at q
            refine ⟨_, rfl, a, _, rfl, .inr (SqT.of e), rfl, _, rfl, ite2 (fun c2 => ?_) (fun c2 => ?_)⟩
            · have c3 : ¬ r0.length = 2 := fun z => by
                rw [decide_eq_true (by simp only [List.length_cons, l2, z]; rfl)] at c2
                cases c2
              have := q H (Same.refl _)
              rw [rw_no c3] at this
              exact this
            · have c3 : ((V.int k :: us).length : Int) = 3 := Classical.byContradiction fun z => c2 (by rw [decide_eq_false (fun y => z (V.int.inj y))]; rfl)
              obtain ⟨t1, t2, u1, u2, rfl, rfl, rt1, rt2⟩ := two_of r2 (by simp only [List.length_cons] at c3; omega)
              have ok1 := rt1.ok o2.1
              have ok2 := rt2.ok o2.2.1
              have eW : rwT [t1, t2] = (betw 1 9 u1 && rowT (ivT t1) t2) := by rw [betw_rep rt1]; rfl
              rw [eW] at q
              refine ⟨_, rfl, a, _, _, _, rfl, rfl, SqT.of e, rfl, _, 1, 9, rfl, ok1, _, rfl, ?_⟩
              cases hb : betw 1 9 u1 with
              | false => rw [hb] at q; exact iteTc rfl (q H (Same.refl _))
              | true =>
                rw [hb] at q
                refine iteFc rfl ?_
                have : ∃ lv, u1 = .int lv ∧ ivT t1 = lv := by
                  cases t1 with
                  | int i => cases (show u1 = V.int i from rt1); exact ⟨i, rfl, rfl⟩
                  | non => cases (show u1 = V.non from rt1); cases hb
                  | bl b => cases (show u1 = V.bl b from rt1); cases hb
                  | str z => cases (show u1 = V.str z from rt1); cases hb
                  | tup xs => obtain ⟨_, _, rfl, _⟩ := rt1; cases hb
                  | lst xs => obtain ⟨_, _, rfl, _⟩ := rt1; cases hb
                obtain ⟨lv, rfl, el⟩ := this
                rw [el] at q
                refine ⟨_, rfl, a, _, _, _, rfl, rfl, SqT.of e, rfl, _, _, _, _, rfl, ok2.ty K, ok2.kit K, _, rfl, ?_⟩
                rw [rt2.tyN]
                cases t2 with
                | non => exact iteTc (by decide) (q H (Same.refl _))
                | bl b => exact iteTc (by show (!isA "bool" "tuple") = true; decide) (q H (Same.refl _))
                | int i => exact iteTc (by show (!isA "int" "tuple") = true; decide) (q H (Same.refl _))
                | str z => exact iteTc (by show (!isA "str" "tuple") = true; decide) (q H (Same.refl _))
                | lst ts => exact iteTc (by show (!isA "list" "tuple") = true; decide) (q H (Same.refl _))
                | tup ts =>
                  obtain ⟨b, ws, rfl, eb, rb⟩ := rt2
                  have lw := Reps.len _ _ rb
                  refine iteFc (by show (!isA "tuple" "tuple") = false; decide) ?_
                  have eR : rowT lv (.tup ts) = (decide (ts.length ≤ 8) && !(decide (ts.length = 0) && decide (1 < lv)) && ts.all tagT) := rfl
                  rw [eR] at q
                  have eM : (decide ((if decide (1 < lv) = true then (1 : Int) else 0) ≤ (ws.length : Int)) && decide ((ws.length : Int) ≤ 8)) = (decide (ts.length ≤ 8) && !(decide (ts.length = 0) && decide (1 < lv))) := by
                    rw [lw, Bool.eq_iff_iff]
                    by_cases h1 : 1 < lv
                    · simp only [h1, decide_true, if_true, Bool.and_eq_true, decide_eq_true_eq, Bool.and_true, Bool.not_eq_true', decide_eq_false_iff_not]; omega
                    · simp only [h1, decide_false, Bool.false_eq_true, if_false, Bool.and_eq_true, decide_eq_true_eq, Bool.and_false, Bool.not_false, and_true]; omega
                  rw [← eM] at q
                  refine ⟨_, rfl, a, _, _, _, rfl, rfl, SqT.of e, rfl, _, _, rfl, rfl, .inr ⟨_, rfl, _, rfl, a, _, _, _, rfl, rfl, SqT.of e, rfl, b, _, rfl, .inr (SqT.of eb), _, _, rfl, rfl, _, rfl, ite2 (fun c6 => ?_) (fun c6 => ?_)⟩⟩
                  · rw [c6, Bool.true_and] at q
                    refine ⟨_, _, rfl, rfl, _, rfl, ite2 (fun c7 => ?_) (fun c7 => ?_)⟩
                    · rw [c7, Bool.true_and] at q
                      refine ⟨_, rfl, a, _, _, _, rfl, rfl, SqT.of e, rfl, b, rfl, ⟨_, SqT.of eb⟩, ?_⟩
                      refine none_tree tagT (itIs_tup eb) rb o2.2.1.2 (by have := dec_true c7; omega) (fun t x H' R rt ot hR => ?_) (fun x H' R s' hR => ⟨_, rfl, hR H' (Same.refl _)⟩) fun l H7 ys s7 h7 hy => ?_
                      · exact ⟨_, rfl, x, t, rfl, rt, ot, _, rfl, hR H' (Same.refl _)⟩
                      refine ⟨small (by show 0 ≤ 1000000; decide), fun e2 he2 => ?_⟩
                      have s8 := same_new he2 (.lst [])
                      refine ⟨l, e2, _, rfl, rfl, SqL.of (s8.get h7), SqL.of upd_same, ?_⟩
                      rw [if_neg Bool.false_ne_true, hy]
                      exact q _ (s7.trans s8)
                    · rw [Bool.eq_false_iff.mpr c7] at q
                      exact q H (Same.refl _)
                  · rw [Bool.eq_false_iff.mpr c6] at q
                    exact ⟨_, rfl, q H (Same.refl _)⟩
          · have k1 : ¬ k = 1 := fun z => c1 (decide_eq_true (by rw [z]))
            have k2 : k = 2 := by omega
            rw [if_neg k1, if_pos k2] at q
            refine ⟨_, rfl, a, _, rfl, .inr (SqT.of e), rfl, _, rfl, ite2 (fun c2 => ?_) (fun c2 => ?_)⟩
            · have c3 : ¬ r0.length = 1 := fun z => by
                rw [decide_eq_true (by simp only [List.length_cons, l2, z]; rfl)] at c2
                cases c2
              have := q H (Same.refl _)
              rw [(pc_no c3).2] at this
              exact this
            · have c3 : ((V.int k :: us).length : Int) = 2 := Classical.byContradiction fun z => c2 (by rw [decide_eq_false (fun y => z (V.int.inj y))]; rfl)
              obtain ⟨t1, u1, rfl, rfl, rt⟩ := one_of r2 (by simp only [List.length_cons] at c3; omega)
              have ok1 := rt.ok o2.1
              have oo := o2.1
              refine ⟨_, rfl, a, _, _, _, rfl, rfl, SqT.of e, rfl, _, _, _, _, rfl, ok1.ty K, ok1.kit K, _, rfl, ?_⟩
              rw [rt.tyN]
              cases t1 with
              | non => exact iteTc (by decide) (q H (Same.refl _))
              | bl b => exact iteTc (by show (!isA "bool" "tuple") = true; decide) (q H (Same.refl _))
              | int i => exact iteTc (by show (!isA "int" "tuple") = true; decide) (q H (Same.refl _))
              | str z => exact iteTc (by show (!isA "str" "tuple") = true; decide) (q H (Same.refl _))
              | lst ts => exact iteTc (by show (!isA "list" "tuple") = true; decide) (q H (Same.refl _))
              | tup ts =>
                obtain ⟨b, ws, rfl, eb, rb⟩ := rt
                have lw := Reps.len _ _ rb
                refine iteFc (by show (!isA "tuple" "tuple") = false; decide) ?_
                have eR : flT [.tup ts] = (decide (ts.length ≤ 16) && ts.all entT && risT (ts.map nmT)) := rfl
                rw [eR] at q
                refine ⟨_, rfl, a, _, _, _, rfl, rfl, SqT.of e, rfl, b, _, rfl, .inr (SqT.of eb), _, _, rfl, rfl, _, rfl, ite2 (fun c5 => ?_) (fun c5 => ?_)⟩
                · have c' := dec_true c5
                  have := q H (Same.refl _)
                  rw [decide_eq_false (show ¬ ts.length ≤ 16 by omega)] at this
                  exact this
                have c' := dec_false c5
                rw [decide_eq_true (show ts.length ≤ 16 by omega)] at q
                refine ⟨_, rfl, a, _, _, _, rfl, rfl, SqT.of e, rfl, b, rfl, ⟨_, SqT.of eb⟩, ?_⟩
                refine none_tree entT (itIs_tup eb) rb oo.2 (by omega) (fun t x H' R rt ot hR => ?_) (fun x H' R s' hR => ⟨_, rfl, hR H' (Same.refl _)⟩) fun l H7 ys s7 h7 hy => ?_
                · exact ⟨_, rfl, x, t, rfl, rt, ot, fun H8 s8 => ⟨_, rfl, hR H8 s8⟩⟩
                refine ⟨small (by show 0 ≤ 1000000; decide), fun e2 he2 => ?_⟩
                have s8 := same_new he2 (.lst [])
                refine ⟨l, e2, _, rfl, rfl, SqL.of (s8.get h7), SqL.of upd_same, ?_⟩
                rw [if_pos rfl, hy]
                have s78 := s7.trans s8
                generalize upd H7 e2 (.lst []) = H8 at s78
                refine ⟨_, rfl, ?_⟩
                cases hall : ts.all entT with
                | false => rw [hall] at q; exact iteTc rfl (q _ s78)
                | true =>
                  rw [hall] at q
                  refine iteFc rfl ?_
                  have e8 := s78.get eb
                  have r8 := Reps.same s78 _ _ rb
                  refine ⟨_, rfl, a, _, _, _, rfl, rfl, SqT.of (s78.get e), rfl, b, rfl, ⟨_, SqT.of e8⟩, comp_map (fstV H8) (itIs_tup e8) (by omega) (fun x H' R hx s' hR => ?_) fun l2 H9 n9 s9 h9 => ?_⟩
                  · obtain ⟨i, hi, ei⟩ := List.getElem_of_mem hx
                    obtain ⟨t, ht, rt⟩ := Reps.get r8 (show ws[i]? = some x by rw [List.getElem?_eq_getElem hi, ei])
                    obtain ⟨c, u2, u3, rfl, ec⟩ := ent_three rt (Tr.oks_get oo.2 ht) (List.all_eq_true.mp hall t (List.mem_of_getElem? ht))
                    have := hR H' (Same.refl _)
                    simp only [fstV, ec] at this
                    exact ⟨_, rfl, c, _, _, _, rfl, rfl, SqT.of (s'.get ec), at0, this⟩
                  rw [names_tree r8 oo.2 hall] at h9
                  have ln : (ts.map nmT).length ≤ 16 := by rw [List.length_map]; omega
                  refine ⟨_, rfl, l2, _, rfl, SqL.of h9, by omega, fun p hp => ?_⟩
                  have sp := same_new hp (SetT P w p (onceS (ts.map nmT)))
                  have lo := once_len (ts.map nmT)
                  refine ⟨p, _, rfl, upd_same, by omega, fun zs p2 pt st hp2 => ?_⟩
                  have s2 := same_new hp2 (.lst (zs.map V.str))
                  refine ⟨_, rfl, p2, l2, _, _, rfl, rfl, SqL.of upd_same, SqL.of (s2.get (sp.get h9)), all_pure_str _, all_pure_str _, ?_⟩
                  rw [if_neg Bool.false_ne_true]
                  have := q _ (((s78.trans s9).trans sp).trans s2)
                  rw [(ris_eq pt st).2]
                  exact this
end
section
variable {P : Program} {w : World} {K : PySem.W.Frag} {mg : Str → Option Value} {base : Heap} {f : Addr} {fd : FuncData}
def sp__law_other (K : PySem.W.Frag) : Sp := fun vs H Q _ => ∃ (r : Addr) (ks : List Int) (v : V) (t : Tr) (m : Nat), vs = [.ref r, v] ∧ H r = some (.lst (ks.map V.int)) ∧ ks.length = 36 ∧ Rep All H t v ∧ t.ok ∧ t.dep ≤ m + 1 ∧ ∀ v' H' t', Same H H' → Rep All H' t' v' → t'.ok → t'.dep ≤ m + 3 → Q v' H'
theorem ok__law_other (T : Txt K mg) (F : Fun K "_law_other" "_law_other" s__law_other f fd) : FnOk P w K mg base CX0 1 f fd ["_law_some", "_law_thing"] (sp__law_other K) := by
  refine F.ok sc__law_other (fun vs H Q E h => ?_) (fun cdv A outer s H vs Q E hr h => ?_)
  · obtain ⟨r, ks, v, t, m, rfl, _⟩ := h
    rfl
  obtain ⟨r, ks, v, t, m, rfl, hS, lk, hv, ok, dp, q⟩ := h
  refine ⟨_, (@pss_cons _ _ _ _ _ (@ps_set _ _ (2) _ _ _ _ sc__law_other.nd rfl (by first | exact Or.inl rfl | exact Or.inr rfl) (@pe_lst _ _ _ _ (@pa_cons _ _ _ _ _ (@pe_int _ _ _ _) (@pa_cons _ _ _ _ _ (@pe_int _ _ _ _) (@pa_cons _ _ _ _ _ (@pe_int _ _ _ _) (@pa_cons _ _ _ _ _ (@pe_int _ _ _ _) (@pa_cons _ _ _ _ _ (@pe_int _ _ _ _) (@pa_cons _ _ _ _ _ (@pe_int _ _ _ _) (@pa_cons _ _ _ _ _ (@pe_un _ _ _ _ _ _ un_neg (@pe_int _ _ _ _)) (@pa_cons _ _ _ _ _ (@pe_int _ _ _ _) (@pa_cons _ _ _ _ _ (@pe_int _ _ _ _) (@pa_cons _ _ _ _ _ (@pe_int _ _ _ _) (@pa_cons _ _ _ _ _ (@pe_int _ _ _ _) (@pa_cons _ _ _ _ _ (@pe_int _ _ _ _) (@pa_cons _ _ _ _ _ (@pe_op _ _ _ _ _ _ _ _ op_pow (@pe_int _ _ _ _) (@pe_int _ _ _ _)) (@pa_cons _ _ _ _ _ (@pe_bl _ _ _ _) (@pa_cons _ _ _ _ _ (@pe_bl _ _ _ _) (@pa_cons _ _ _ _ _ (@pe_non _ _ _) (@pa_nil _) (by rfl)) (by rfl)) (by rfl)) (by rfl)) (by rfl)) (by rfl)) (by rfl)) (by rfl)) (by rfl)) (by rfl)) (by rfl)) (by rfl)) (by rfl)) (by rfl)) (by rfl)) (by rfl))) (by rfl) (by first | exact .inl rfl | exact .inr rfl | assumption)) (@pss_cons _ _ _ _ _ (@ps_set _ _ (2) _ _ _ _ sc__law_other.nd rfl (by first | exact Or.inl rfl | exact Or.inr rfl) (@pe_op _ _ _ _ _ _ _ _ op_catS (@pv _ 2 _ _ (by rfl) (by first | exact Or.inl rfl | exact Or.inr (Or.inl rfl) | exact Or.inr (Or.inr rfl)) (by decide) (by decide)) (@pe_lst _ _ _ _ (@pa_cons _ _ _ _ _ (@pe_str _ _ _ _) (@pa_cons _ _ _ _ _ (@pe_str _ _ _ _) (@pa_cons _ _ _ _ _ (@pe_str _ _ _ _) (@pa_cons _ _ _ _ _ (@pe_str _ _ _ _) (@pa_cons _ _ _ _ _ (@pe_str _ _ _ _) (@pa_cons _ _ _ _ _ (@pe_str _ _ _ _) (@pa_cons _ _ _ _ _ (@pe_str _ _ _ _) (@pa_cons _ _ _ _ _ (@pe_str _ _ _ _) (@pa_cons _ _ _ _ _ (@pe_tup _ _ _ _ _ (@pa_nil _)) (@pa_cons _ _ _ _ _ (@pe_tup _ _ _ _ _ (@pa_cons _ _ _ _ _ (@pe_int _ _ _ _) (@pa_nil _) (by rfl))) (@pa_cons _ _ _ _ _ (@pe_tup _ _ _ _ _ (@pa_cons _ _ _ _ _ (@pe_int _ _ _ _) (@pa_cons _ _ _ _ _ (@pe_int _ _ _ _) (@pa_cons _ _ _ _ _ (@pe_int _ _ _ _) (@pa_nil _) (by rfl)) (by rfl)) (by rfl))) (@pa_cons _ _ _ _ _ (@pe_tup _ _ _ _ _ (@pa_cons _ _ _ _ _ (@pe_str _ _ _ _) (@pa_cons _ _ _ _ _ (@pe_int _ _ _ _) (@pa_cons _ _ _ _ _ (@pe_tup _ _ _ _ _ (@pa_cons _ _ _ _ _ (@pe_int _ _ _ _) (@pa_cons _ _ _ _ _ (@pe_int _ _ _ _) (@pa_cons _ _ _ _ _ (@pe_int _ _ _ _) (@pa_nil _) (by rfl)) (by rfl)) (by rfl))) (@pa_nil _) (by rfl)) (by rfl)) (by rfl))) (@pa_nil _) (by rfl)) (by rfl)) (by rfl)) (by rfl)) (by rfl)) (by rfl)) (by rfl)) (by rfl)) (by rfl)) (by rfl)) (by rfl)) (by rfl)))) (by rfl) (by first | exact .inl rfl | exact .inr rfl | assumption)) (@pss_cons _ _ _ _ _ (@ps_set _ _ (2) _ _ _ _ sc__law_other.nd rfl (by first | exact Or.inl rfl | exact Or.inr rfl) (@pe_op _ _ _ _ _ _ _ _ op_catS (@pv _ 2 _ _ (by rfl) (by first | exact Or.inl rfl | exact Or.inr (Or.inl rfl) | exact Or.inr (Or.inr rfl)) (by decide) (by decide)) (@pe_lst _ _ _ _ (@pa_cons _ _ _ _ _ (@pe_lst _ _ _ _ (@pa_nil _)) (@pa_cons _ _ _ _ _ (@pe_lst _ _ _ _ (@pa_cons _ _ _ _ _ (@pv _ 1 _ _ (by rfl) (by first | exact Or.inl rfl | exact Or.inr (Or.inl rfl) | exact Or.inr (Or.inr rfl)) (by decide) (by decide)) (@pa_nil _) (by rfl))) (@pa_cons _ _ _ _ _ (@pe_tup _ _ _ _ _ (@pa_cons _ _ _ _ _ (@pv _ 1 _ _ (by rfl) (by first | exact Or.inl rfl | exact Or.inr (Or.inl rfl) | exact Or.inr (Or.inr rfl)) (by decide) (by decide)) (@pa_nil _) (by rfl))) (@pa_nil _) (by rfl)) (by rfl)) (by rfl)))) (by rfl) (by first | exact .inl rfl | exact .inr rfl | assumption)) (@pss_one _ _ _ (@ps_ret _ _ _ _ (@pe_ix _ _ _ _ _ _ _ ix_list (@pv _ 2 _ _ (by rfl) (by first | exact Or.inl rfl | exact Or.inr (Or.inl rfl) | exact Or.inr (Or.inr rfl)) (by decide) (by decide)) (@pe_op _ _ _ _ _ _ _ _ op_mod (@pe_ix _ _ _ _ _ _ _ ix_list (@pv _ 0 _ _ (by rfl) (by first | exact Or.inl rfl | exact Or.inr (Or.inl rfl) | exact Or.inr (Or.inr rfl)) (by decide) (by decide)) (@pe_int _ _ _ _) (fun _ _ => rfl)) (@pe_callB _ _ _ _ _ _ _ _ _ call_len_seq (by rfl) T.b_len bt_len (@pa_cons _ _ _ _ _ (@pv _ 2 _ _ (by rfl) (by first | exact Or.inl rfl | exact Or.inr (Or.inl rfl) | exact Or.inr (Or.inr rfl)) (by decide) (by decide)) (@pa_nil _) (by rfl)) (by decide) (by decide) (by rfl) (by rfl))) (fun _ _ => rfl))))))), ?_⟩
  dsimp only [cxOf, Cx.nox, Cx.wish]
  refine seq_asg (rdl_use (m + 3) 16 ?D1 (by decide) fun vs1 p1 H1 ts1 t1 e1 r1 l1 o1 d1 => ?_)
  case D1 =>
    exact rb_cons rb_int (rb_cons rb_int (rb_cons rb_int (rb_cons rb_int (rb_cons rb_int (rb_cons rb_int (rb_cons (rb_isI fun H0 s0 => ⟨_, fun R h => ⟨_, rfl, h⟩⟩) (rb_cons rb_int (rb_cons rb_int (rb_cons rb_int (rb_cons rb_int (rb_cons rb_int (rb_cons (rb_isI fun H0 s0 => ⟨_, fun R h => ⟨_, _, rfl, rfl, ⟨by decide, by decide, by decide⟩, h⟩⟩) (rb_cons rb_bl (rb_cons rb_bl (rb_cons rb_non rb_nil)))))))))))))))
  refine seq_asg ⟨_, rfl, rdl_use (m + 3) 12 ?D2 (by decide) fun vs2 p2 H2 ts2 t2 e2 r2 l2 o2 d2 => ?_⟩
  case D2 =>
    exact rb_cons (rb_str (by decide +kernel)) (rb_cons (rb_str (by decide +kernel)) (rb_cons (rb_str (by decide +kernel)) (rb_cons (rb_str (by decide +kernel)) (rb_cons (rb_str (by decide +kernel)) (rb_cons (rb_str (by decide +kernel)) (rb_cons (rb_str (by decide +kernel)) (rb_cons (rb_str (by decide +kernel))
      (rb_cons (rb_tup rb_nil) (rb_cons (rb_tup (rb_cons rb_int rb_nil)) (rb_cons (rb_tup (rb_cons rb_int (rb_cons rb_int (rb_cons rb_int rb_nil)))) (rb_cons (rb_tup (rb_cons (rb_str (by decide +kernel)) (rb_cons rb_int (rb_cons (rb_tup (rb_cons rb_int (rb_cons rb_int (rb_cons rb_int rb_nil)))) rb_nil)))) rb_nil)))))))))))
  have m1 := Reps.len _ _ r1
  have m2 := Reps.len _ _ r2
  refine catS_use (t2.get e1) e2 (by omega) fun p3 H3 u3 e3 => ?_
  have t3 := (t1.trans t2).trans u3
  have r3 := Reps.append (Reps.same (t2.trans u3) _ _ r1) (Reps.same u3 _ _ r2)
  refine seq_asg ⟨_, rfl, rdl_use (m + 3) 3 ?D3 (by decide) fun vs4 p4 H4 ts4 t4 e4 r4 l4 o4 d4 => ?_⟩
  case D3 =>
    exact rb_cons (rb_lst rb_nil) (rb_cons (rb_lst (rb_cons (fun H0 s0 R hR => ⟨_, rfl, hR _ H0 t (Same.refl _) (Rep.same (t3.trans s0) _ _ hv) ok (by omega)⟩) rb_nil)) (rb_cons (rb_tup (rb_cons (fun H0 s0 R hR => ⟨_, rfl, hR _ H0 t (Same.refl _) (Rep.same (t3.trans s0) _ _ hv) ok (by omega)⟩) rb_nil)) rb_nil))
  have m4 := Reps.len _ _ r4
  refine catS_use (t4.get e3) e4 (by rw [List.length_append]; omega) fun p5 H5 u5 e5 => ?_
  have t5 := (t3.trans t4).trans u5
  have r5 := Reps.append (Reps.same (t4.trans u5) _ _ r3) (Reps.same u5 _ _ r4)
  have oo := Tr.oks_append (Tr.oks_append o1 o2) o4
  have dd := Tr.deps_append (Tr.deps_append d1 d2) d4
  obtain ⟨vs7, hvs⟩ : ∃ z, z = vs1 ++ vs2 ++ vs4 := ⟨_, rfl⟩
  obtain ⟨ts7, hts⟩ : ∃ z, z = ts1 ++ ts2 ++ ts4 := ⟨_, rfl⟩
  have ld : vs7.length = 31 := by rw [hvs, List.length_append, List.length_append]; omega
  rw [← hvs] at e5 r5
  rw [← hts] at r5 oo dd
  have hn : (0 : Int) < ((vs7.length : Nat) : Int) := by omega
  have jm := Int.emod_nonneg (ks.getD (10 : Int).toNat 0) (Int.ne_of_gt hn)
  have jl := Int.emod_lt_of_pos (ks.getD (10 : Int).toNat 0) hn
  obtain ⟨j, hj⟩ : ∃ j : Nat, (j : Int) = ks.getD (10 : Int).toNat 0 % ((vs7.length : Nat) : Int) := ⟨_, Int.toNat_of_nonneg jm⟩
  have jl' : j < vs7.length := by omega
  obtain ⟨tv, et, rv⟩ := Reps.get r5 (List.getElem?_eq_getElem jl')
  have aj : atI vs7 (ks.getD (10 : Int).toNat 0 % ((vs7.length : Nat) : Int)) = some vs7[j] := by rw [← hj]; exact atI_nat (List.getElem?_eq_getElem jl')
  refine ⟨_, rfl, _, rfl, r, _, _, _, rfl, rfl, SqL.of (t5.get hS), at_int (by decide) (by omega), _, rfl, p5, _, rfl, .inl (SqL.of e5), _, _, rfl, rfl, hn, p5, _, _, _, rfl, rfl, SqL.of e5, aj, ?_⟩
  exact q _ _ tv t5 rv (Tr.oks_get oo et) (Nat.le_trans (Tr.deps_get et) dd)
/-! tuples cut and put together -/
def cutT (ts : List Tr) (lo hi : Option Int) : List Tr := (ts.drop (HT.sIx ts.length 0 lo)).take (HT.sIx ts.length ts.length hi - HT.sIx ts.length 0 lo)
theorem reps_drop {F : Addr → Prop} {H : Hp} : ∀ {ts : List Tr} {vs : List V} (n : Nat), Reps F H ts vs → Reps F H (ts.drop n) (vs.drop n)
  | _, _, 0, h => h
  | [], _, n + 1, h => by rw [show _ = [] from h]; rfl
  | _ :: _, _, n + 1, ⟨_, _, e, _, r⟩ => by rw [e]; exact reps_drop n r
theorem reps_take {F : Addr → Prop} {H : Hp} : ∀ {ts : List Tr} {vs : List V} (n : Nat), Reps F H ts vs → Reps F H (ts.take n) (vs.take n)
  | _, _, 0, h => rfl
  | [], _, n + 1, h => by rw [show _ = [] from h]; rfl
  | _ :: _, _, n + 1, ⟨_, _, e, r1, r⟩ => by rw [e]; exact ⟨_, _, rfl, r1, reps_take n r⟩
theorem slW_use {H : Hp} {x : V} {ts : List Tr} {lo hi : Option Int} {Q : VK} (h : Rep All H (.tup ts) x) (hQ : ∀ v H', Same H H' → Rep All H' (.tup (cutT ts lo hi)) v → Q v H') : rSlW K x lo hi H Q := by
  have h0 := h
  obtain ⟨a, vs, rfl, e, r⟩ := h
  have l := Reps.len _ _ r
  refine ⟨a, vs, rfl, SqT.of e, fun w => ?_, fun w p hp => ?_⟩
  · have : cutT ts lo hi = ts := by
      unfold cutT
      rw [← l, w.1, w.2, List.drop_zero, Nat.sub_zero, l, List.take_of_length_le (Nat.le_refl _)]
    exact hQ _ _ (Same.refl _) (by rw [this]; exact h0)
  · have sp := same_new hp (.tup (cutV vs lo hi))
    refine hQ _ _ sp ⟨p, _, rfl, upd_same, Reps.same sp _ _ ?_⟩
    unfold cutV cutT
    rw [l]
    exact reps_take _ (reps_drop _ r)
theorem slW_from {H : Hp} {σ : St} {x : V} {ts : List Tr} {lo : Option Int} {Q : VK} (h : Rep All H (.tup ts) x) (hQ : ∀ v H', Same H H' → Rep All H' (.tup (cutT ts lo none)) v → Q v H') : tNoPart σ H fun u H3 => rSlW K x lo u H3 Q := slW_use h hQ
def Gd (m L : Nat) (ts : List Tr) : Prop := (∀ t ∈ ts, t.ok ∧ t.dep ≤ m) ∧ ts.length ≤ L
theorem Gd.app {m a b : Nat} {x y : List Tr} (h1 : Gd m a x) (h2 : Gd m b y) : Gd m (a + b) (x ++ y) :=
  ⟨fun t ht => (List.mem_append.mp ht).elim (h1.1 t) (h2.1 t), by rw [List.length_append]; exact Nat.add_le_add h1.2 h2.2⟩
theorem Gd.cut {m a : Nat} {x : List Tr} {lo hi : Option Int} (h : Gd m a x) : Gd m a (cutT x lo hi) :=
  ⟨fun t ht => h.1 t (List.mem_of_mem_drop (List.mem_of_mem_take ht)), by unfold cutT; rw [List.length_take, List.length_drop]; have := h.2; omega⟩
theorem Gd.one {m : Nat} {t : Tr} (o : t.ok) (d : t.dep ≤ m) : Gd m 1 [t] := ⟨fun u hu => by rw [List.mem_singleton.mp hu]; exact ⟨o, d⟩, Nat.le_refl _⟩
theorem gd_all {m : Nat} : ∀ {ts : List Tr}, (∀ t ∈ ts, t.ok ∧ t.dep ≤ m) → Tr.oks ts ∧ Tr.deps ts ≤ m
  | [], _ => ⟨trivial, Nat.zero_le _⟩
  | t :: ts, h => by
    obtain ⟨a, b⟩ := gd_all fun u hu => h u (List.mem_cons_of_mem _ hu)
    obtain ⟨c, d⟩ := h t List.mem_cons_self
    exact ⟨⟨c, a⟩, Nat.max_le.mpr ⟨d, b⟩⟩
theorem Gd.tup {m L : Nat} {ts : List Tr} (h : Gd m L ts) (l : L ≤ 1000) : (Tr.tup ts).ok ∧ (Tr.tup ts).dep ≤ m + 1 := by
  obtain ⟨a, b⟩ := gd_all h.1
  exact ⟨⟨Nat.le_trans h.2 l, a⟩, by show 1 + Tr.deps ts ≤ m + 1; omega⟩
theorem isT_dep : ∀ (n : Nat) (t : Tr), isT n t = true → t.dep ≤ n
  | 0, _, h => nomatch h
  | n + 1, .non, h => nomatch h
  | n + 1, .bl _, h => nomatch h
  | n + 1, .int _, _ => Nat.le_add_left 1 n
  | n + 1, .str z, h => Nat.le_add_left 1 n
  | n + 1, .tup ts, h => by
    have h' : (decide (ts.length ≤ 100) && ts.all (isT n)) = true := h
    rw [Bool.and_eq_true] at h'
    have := (gd_all (ts := ts) (m := n) fun t ht => ⟨isT_ok n t (List.all_eq_true.mp h'.2 t ht), isT_dep n t (List.all_eq_true.mp h'.2 t ht)⟩).2
    show 1 + Tr.deps ts ≤ n + 1
    omega
  | n + 1, .lst _, h => nomatch h
def sp_bt (n : Nat) (K : PySem.W.Frag) : Sp := fun vs H Q _ => ∃ (v : V) (t : Tr) (r : Addr) (ks : List Int) (d : Nat), vs = [v, .ref r, .int (d : Int)] ∧ isT n t = true ∧ Rep All H t v ∧ d + n ≤ 8 ∧ H r = some (.lst (ks.map V.int)) ∧ ks.length = 36 ∧ ∀ v' H' t', Same H H' → Rep All H' t' v' → t'.ok → t'.dep ≤ n + 2 → Q v' H'
def sp__law_bent (K : PySem.W.Frag) : Sp := sp_bt 8 K
theorem bt_step (T : Txt K mg) (F : Fun K "_law_bent" "_law_bent" s__law_bent f fd) (D__law_other : Def P w K mg base 1 "_law_other" ["_law_some", "_law_thing"] (sp__law_other K)) (n : Nat) (D__law_bent : Def P w K mg base (1 + n) "_law_bent" ["_law_thing", "_law_some", "_law_deep"] (sp_bt n K)) : FnOk P w K mg base CX0 (1 + n + 1) f fd ["_law_thing", "_law_some", "_law_deep"] (sp_bt (n + 1) K) := by
  refine F.ok sc__law_bent (fun vs H Q E h => ?_) (fun cdv A outer s H vs Q E hr h => ?_)
  · obtain ⟨v, t, r, ks, d, rfl, _⟩ := h
    rfl
  obtain ⟨v, t, r, ks, d, rfl, ht, hv, hd, hS, lk, q⟩ := h
  have ok := isT_ok _ _ ht
  have dt := isT_dep _ _ ht
  have okv := hv.ok ok
  have ety := hv.tyN
  have hu := hu_of hr
  refine ⟨_, (@pss_cons _ _ _ _ _ (@ps_if _ _ _ _ _ _ _ _ (@PW.pt _ _ _ (@pw_or _ _ _ _ _ _ _ (@pt_not _ _ _ _ (@pt_val _ _ _ (@pe_callB _ _ _ _ _ _ _ _ _ call_isinst (by rfl) T.b_isinstance bt_isinstance (@pa_cons _ _ _ _ _ (@pv _ 0 _ _ (by rfl) (by first | exact Or.inl rfl | exact Or.inr (Or.inl rfl) | exact Or.inr (Or.inr rfl)) (by decide) (by decide)) (@pa_cons _ _ _ _ _ (@pe_ty _ _ _ _ rfl T.b_tuple bt_tuple (by decide) (by decide)) (@pa_nil _) (by rfl)) (by rfl)) (by decide) (by decide) (by rfl) (by rfl)) (by intro _; rfl))) (@pw_or1 _ _ _ _ (@pt_cmpR _ _ _ _ _ _ _ _ (op_eqT0 hu) (@pv _ 0 _ _ (by rfl) (by first | exact Or.inl rfl | exact Or.inr (Or.inl rfl) | exact Or.inr (Or.inr rfl)) (by decide) (by decide)) (@pe_tup _ _ _ _ _ (@pa_nil _)) (nomark _))))) (@pss_one _ _ _ (@ps_ret _ _ _ _ (@pe_fn _ _ _ _ _ _ _ _ _ _ D__law_other (hr.mono (by omega)) rfl (@pa_cons _ _ _ _ _ (@pv _ 1 _ _ (by rfl) (by first | exact Or.inl rfl | exact Or.inr (Or.inl rfl) | exact Or.inr (Or.inr rfl)) (by decide) (by decide)) (@pa_cons _ _ _ _ _ (@pv _ 0 _ _ (by rfl) (by first | exact Or.inl rfl | exact Or.inr (Or.inl rfl) | exact Or.inr (Or.inr rfl)) (by decide) (by decide)) (@pa_nil _) (by rfl)) (by rfl)) (by decide) (by rfl) (by rfl)))) (@pss_nil _)) (@pss_cons _ _ _ _ _ (@ps_set _ _ (3) _ _ _ _ sc__law_bent.nd rfl (by first | exact Or.inl rfl | exact Or.inr rfl) (@pe_op _ _ _ _ _ _ _ _ op_mod (@pe_ix _ _ _ _ _ _ _ ix_list (@pv _ 1 _ _ (by rfl) (by first | exact Or.inl rfl | exact Or.inr (Or.inl rfl) | exact Or.inr (Or.inr rfl)) (by decide) (by decide)) (@pv _ 2 _ _ (by rfl) (by first | exact Or.inl rfl | exact Or.inr (Or.inl rfl) | exact Or.inr (Or.inr rfl)) (by decide) (by decide)) (fun _ _ => rfl)) (@pe_callB _ _ _ _ _ _ _ _ _ call_len_seq (by rfl) T.b_len bt_len (@pa_cons _ _ _ _ _ (@pv _ 0 _ _ (by rfl) (by first | exact Or.inl rfl | exact Or.inr (Or.inl rfl) | exact Or.inr (Or.inr rfl)) (by decide) (by decide)) (@pa_nil _) (by rfl)) (by decide) (by decide) (by rfl) (by rfl))) (by rfl) (by first | exact .inl rfl | exact .inr rfl | assumption)) (@pss_cons _ _ _ _ _ (@ps_set _ _ (4) _ _ _ _ sc__law_bent.nd rfl (by first | exact Or.inl rfl | exact Or.inr rfl) (@pe_op _ _ _ _ _ _ _ _ op_mod (@pe_ix _ _ _ _ _ _ _ ix_list (@pv _ 1 _ _ (by rfl) (by first | exact Or.inl rfl | exact Or.inr (Or.inl rfl) | exact Or.inr (Or.inr rfl)) (by decide) (by decide)) (@pe_op _ _ _ _ _ _ _ _ op_add (@pe_int _ _ _ _) (@pv _ 2 _ _ (by rfl) (by first | exact Or.inl rfl | exact Or.inr (Or.inl rfl) | exact Or.inr (Or.inr rfl)) (by decide) (by decide))) (fun _ _ => rfl)) (@pe_int _ _ _ _)) (by rfl) (by first | exact .inl rfl | exact .inr rfl | assumption)) (@pss_cons _ _ _ _ _ (@ps_if _ _ _ _ _ _ _ _ (@pt_cmpR _ _ _ _ _ _ _ _ op_eq (@pv _ 4 _ _ (by rfl) (by first | exact Or.inl rfl | exact Or.inr (Or.inl rfl) | exact Or.inr (Or.inr rfl)) (by decide) (by decide)) (@pe_int _ _ _ _) (nomark _)) (@pss_one _ _ _ (@ps_ret _ _ _ _ (@pe_op _ _ _ _ _ _ _ _ op_catT3 (@pe_op _ _ _ _ _ _ _ _ op_catT3 (@pe_slice _ _ _ _ _ _ _ _ _ _ sl_tupW (@pv _ 0 _ _ (by rfl) (by first | exact Or.inl rfl | exact Or.inr (Or.inl rfl) | exact Or.inr (Or.inr rfl)) (by decide) (by decide)) (@po_none _) (@po_some _ _ _ (@pv _ 3 _ _ (by rfl) (by first | exact Or.inl rfl | exact Or.inr (Or.inl rfl) | exact Or.inr (Or.inr rfl)) (by decide) (by decide)))) (@pe_tup _ _ _ _ _ (@pa_cons _ _ _ _ _ (@pe_fn _ _ _ _ _ _ _ _ _ _ D__law_other (hr.mono (by omega)) rfl (@pa_cons _ _ _ _ _ (@pv _ 1 _ _ (by rfl) (by first | exact Or.inl rfl | exact Or.inr (Or.inl rfl) | exact Or.inr (Or.inr rfl)) (by decide) (by decide)) (@pa_cons _ _ _ _ _ (@pe_ix _ _ _ _ _ _ _ ix_tup (@pv _ 0 _ _ (by rfl) (by first | exact Or.inl rfl | exact Or.inr (Or.inl rfl) | exact Or.inr (Or.inr rfl)) (by decide) (by decide)) (@pv _ 3 _ _ (by rfl) (by first | exact Or.inl rfl | exact Or.inr (Or.inl rfl) | exact Or.inr (Or.inr rfl)) (by decide) (by decide)) (fun _ _ => rfl)) (@pa_nil _) (by rfl)) (by rfl)) (by decide) (by rfl) (by rfl)) (@pa_nil _) (by rfl)))) (@pe_slice _ _ _ _ _ _ _ _ _ _ sl_tupW (@pv _ 0 _ _ (by rfl) (by first | exact Or.inl rfl | exact Or.inr (Or.inl rfl) | exact Or.inr (Or.inr rfl)) (by decide) (by decide)) (@po_some _ _ _ (@pv _ 3 _ _ (by rfl) (by first | exact Or.inl rfl | exact Or.inr (Or.inl rfl) | exact Or.inr (Or.inr rfl)) (by decide) (by decide))) (@po_none _))))) (@pss_nil _)) (@pss_cons _ _ _ _ _ (@ps_if _ _ _ _ _ _ _ _ (@pt_cmpR _ _ _ _ _ _ _ _ op_eq (@pv _ 4 _ _ (by rfl) (by first | exact Or.inl rfl | exact Or.inr (Or.inl rfl) | exact Or.inr (Or.inr rfl)) (by decide) (by decide)) (@pe_int _ _ _ _) (nomark _)) (@pss_one _ _ _ (@ps_ret _ _ _ _ (@pe_op _ _ _ _ _ _ _ _ op_catT3 (@pe_slice _ _ _ _ _ _ _ _ _ _ sl_tupW (@pv _ 0 _ _ (by rfl) (by first | exact Or.inl rfl | exact Or.inr (Or.inl rfl) | exact Or.inr (Or.inr rfl)) (by decide) (by decide)) (@po_none _) (@po_some _ _ _ (@pv _ 3 _ _ (by rfl) (by first | exact Or.inl rfl | exact Or.inr (Or.inl rfl) | exact Or.inr (Or.inr rfl)) (by decide) (by decide)))) (@pe_slice _ _ _ _ _ _ _ _ _ _ sl_tupW (@pv _ 0 _ _ (by rfl) (by first | exact Or.inl rfl | exact Or.inr (Or.inl rfl) | exact Or.inr (Or.inr rfl)) (by decide) (by decide)) (@po_some _ _ _ (@pe_op _ _ _ _ _ _ _ _ op_add (@pv _ 3 _ _ (by rfl) (by first | exact Or.inl rfl | exact Or.inr (Or.inl rfl) | exact Or.inr (Or.inr rfl)) (by decide) (by decide)) (@pe_int _ _ _ _))) (@po_none _))))) (@pss_nil _)) (@pss_cons _ _ _ _ _ (@ps_if _ _ _ _ _ _ _ _ (@pt_cmpR _ _ _ _ _ _ _ _ op_eq (@pv _ 4 _ _ (by rfl) (by first | exact Or.inl rfl | exact Or.inr (Or.inl rfl) | exact Or.inr (Or.inr rfl)) (by decide) (by decide)) (@pe_int _ _ _ _) (nomark _)) (@pss_one _ _ _ (@ps_ret _ _ _ _ (@pe_op _ _ _ _ _ _ _ _ op_catT3 (@pe_op _ _ _ _ _ _ _ _ op_catT3 (@pe_slice _ _ _ _ _ _ _ _ _ _ sl_tupW (@pv _ 0 _ _ (by rfl) (by first | exact Or.inl rfl | exact Or.inr (Or.inl rfl) | exact Or.inr (Or.inr rfl)) (by decide) (by decide)) (@po_none _) (@po_some _ _ _ (@pv _ 3 _ _ (by rfl) (by first | exact Or.inl rfl | exact Or.inr (Or.inl rfl) | exact Or.inr (Or.inr rfl)) (by decide) (by decide)))) (@pe_tup _ _ _ _ _ (@pa_cons _ _ _ _ _ (@pe_ix _ _ _ _ _ _ _ ix_tup (@pv _ 0 _ _ (by rfl) (by first | exact Or.inl rfl | exact Or.inr (Or.inl rfl) | exact Or.inr (Or.inr rfl)) (by decide) (by decide)) (@pv _ 3 _ _ (by rfl) (by first | exact Or.inl rfl | exact Or.inr (Or.inl rfl) | exact Or.inr (Or.inr rfl)) (by decide) (by decide)) (fun _ _ => rfl)) (@pa_nil _) (by rfl)))) (@pe_slice _ _ _ _ _ _ _ _ _ _ sl_tupW (@pv _ 0 _ _ (by rfl) (by first | exact Or.inl rfl | exact Or.inr (Or.inl rfl) | exact Or.inr (Or.inr rfl)) (by decide) (by decide)) (@po_some _ _ _ (@pv _ 3 _ _ (by rfl) (by first | exact Or.inl rfl | exact Or.inr (Or.inl rfl) | exact Or.inr (Or.inr rfl)) (by decide) (by decide))) (@po_none _))))) (@pss_nil _)) (@pss_cons _ _ _ _ _ (@ps_if _ _ _ _ _ _ _ _ (@pt_cmpR _ _ _ _ _ _ _ _ op_eq (@pv _ 4 _ _ (by rfl) (by first | exact Or.inl rfl | exact Or.inr (Or.inl rfl) | exact Or.inr (Or.inr rfl)) (by decide) (by decide)) (@pe_int _ _ _ _) (nomark _)) (@pss_one _ _ _ (@ps_ret _ _ _ _ (@pe_op _ _ _ _ _ _ _ _ op_catT3 (@pe_slice _ _ _ _ _ _ _ _ _ _ sl_tupW (@pv _ 0 _ _ (by rfl) (by first | exact Or.inl rfl | exact Or.inr (Or.inl rfl) | exact Or.inr (Or.inr rfl)) (by decide) (by decide)) (@po_some _ _ _ (@pv _ 3 _ _ (by rfl) (by first | exact Or.inl rfl | exact Or.inr (Or.inl rfl) | exact Or.inr (Or.inr rfl)) (by decide) (by decide))) (@po_none _)) (@pe_slice _ _ _ _ _ _ _ _ _ _ sl_tupW (@pv _ 0 _ _ (by rfl) (by first | exact Or.inl rfl | exact Or.inr (Or.inl rfl) | exact Or.inr (Or.inr rfl)) (by decide) (by decide)) (@po_none _) (@po_some _ _ _ (@pv _ 3 _ _ (by rfl) (by first | exact Or.inl rfl | exact Or.inr (Or.inl rfl) | exact Or.inr (Or.inr rfl)) (by decide) (by decide))))))) (@pss_nil _)) (@pss_cons _ _ _ _ _ (@ps_if _ _ _ _ _ _ _ _ (@PW.pt _ _ _ (@pw_and _ _ _ _ _ _ _ (@pt_cmpR _ _ _ _ _ _ _ _ op_eq (@pv _ 4 _ _ (by rfl) (by first | exact Or.inl rfl | exact Or.inr (Or.inl rfl) | exact Or.inr (Or.inr rfl)) (by decide) (by decide)) (@pe_int _ _ _ _) (nomark _)) (@pw_and1 _ _ _ _ (@pt_cmpR _ _ _ _ _ _ _ _ op_gt (@pv _ 2 _ _ (by rfl) (by first | exact Or.inl rfl | exact Or.inr (Or.inl rfl) | exact Or.inr (Or.inr rfl)) (by decide) (by decide)) (@pe_int _ _ _ _) (nomark _))))) (@pss_one _ _ _ (@ps_ret _ _ _ _ (@pe_fn _ _ _ _ _ _ _ _ _ _ D__law_other (hr.mono (by omega)) rfl (@pa_cons _ _ _ _ _ (@pv _ 1 _ _ (by rfl) (by first | exact Or.inl rfl | exact Or.inr (Or.inl rfl) | exact Or.inr (Or.inr rfl)) (by decide) (by decide)) (@pa_cons _ _ _ _ _ (@pv _ 0 _ _ (by rfl) (by first | exact Or.inl rfl | exact Or.inr (Or.inl rfl) | exact Or.inr (Or.inr rfl)) (by decide) (by decide)) (@pa_nil _) (by rfl)) (by rfl)) (by decide) (by rfl) (by rfl)))) (@pss_nil _)) (@pss_one _ _ _ (@ps_ret _ _ _ _ (@pe_op _ _ _ _ _ _ _ _ op_catT3 (@pe_op _ _ _ _ _ _ _ _ op_catT3 (@pe_slice _ _ _ _ _ _ _ _ _ _ sl_tupW (@pv _ 0 _ _ (by rfl) (by first | exact Or.inl rfl | exact Or.inr (Or.inl rfl) | exact Or.inr (Or.inr rfl)) (by decide) (by decide)) (@po_none _) (@po_some _ _ _ (@pv _ 3 _ _ (by rfl) (by first | exact Or.inl rfl | exact Or.inr (Or.inl rfl) | exact Or.inr (Or.inr rfl)) (by decide) (by decide)))) (@pe_tup _ _ _ _ _ (@pa_cons _ _ _ _ _ (@pe_fn _ _ _ _ _ _ _ _ _ _ D__law_bent (hr.mono (by omega)) rfl (@pa_cons _ _ _ _ _ (@pe_ix _ _ _ _ _ _ _ ix_tup (@pv _ 0 _ _ (by rfl) (by first | exact Or.inl rfl | exact Or.inr (Or.inl rfl) | exact Or.inr (Or.inr rfl)) (by decide) (by decide)) (@pv _ 3 _ _ (by rfl) (by first | exact Or.inl rfl | exact Or.inr (Or.inl rfl) | exact Or.inr (Or.inr rfl)) (by decide) (by decide)) (fun _ _ => rfl)) (@pa_cons _ _ _ _ _ (@pv _ 1 _ _ (by rfl) (by first | exact Or.inl rfl | exact Or.inr (Or.inl rfl) | exact Or.inr (Or.inr rfl)) (by decide) (by decide)) (@pa_cons _ _ _ _ _ (@pe_op _ _ _ _ _ _ _ _ op_add (@pv _ 2 _ _ (by rfl) (by first | exact Or.inl rfl | exact Or.inr (Or.inl rfl) | exact Or.inr (Or.inr rfl)) (by decide) (by decide)) (@pe_int _ _ _ _)) (@pa_nil _) (by rfl)) (by rfl)) (by rfl)) (by decide) (by rfl) (by rfl)) (@pa_nil _) (by rfl)))) (@pe_slice _ _ _ _ _ _ _ _ _ _ sl_tupW (@pv _ 0 _ _ (by rfl) (by first | exact Or.inl rfl | exact Or.inr (Or.inl rfl) | exact Or.inr (Or.inr rfl)) (by decide) (by decide)) (@po_some _ _ _ (@pe_op _ _ _ _ _ _ _ _ op_add (@pv _ 3 _ _ (by rfl) (by first | exact Or.inl rfl | exact Or.inr (Or.inl rfl) | exact Or.inr (Or.inr rfl)) (by decide) (by decide)) (@pe_int _ _ _ _))) (@po_none _))))))))))))), ?_⟩
  refine ⟨_, rfl, _, _, _, _, rfl, okv.ty K, okv.kit K, _, rfl, ?_⟩
  rw [ety]
  have other : ∀ (H1 : Hp), Same H H1 → ∀ (R : VK), (∀ v' H' t', Same H1 H' → Rep All H' t' v' → t'.ok → t'.dep ≤ n + 3 → R v' H') → sp__law_other K [.ref r, v] H1 R E0 := fun H1 s1 R hR => ⟨r, ks, v, t, n, rfl, s1.get hS, lk, Rep.same s1 _ _ hv, ok, dt, hR⟩
  cases t with
  | non => cases ht
  | bl b => cases ht
  | lst ts => cases ht
  | int i => exact iteTc (by show (!isA "int" "tuple") = true; decide) ⟨_, rfl, _, rfl, other H (Same.refl _) _ fun v' H' t' s' r' o' d' => q v' H' t' s' r' o' d'⟩
  | str z => exact iteTc (by show (!isA "str" "tuple") = true; decide) ⟨_, rfl, _, rfl, other H (Same.refl _) _ fun v' H' t' s' r' o' d' => q v' H' t' s' r' o' d'⟩
  | tup ts =>
    refine iteFc (by show (!isA "tuple" "tuple") = false; decide) ?_
    obtain ⟨a, us, rfl, e, rp⟩ := id hv
    have lu := Reps.len _ _ rp
    obtain ⟨tl, tt⟩ := isT_tup ht
    refine ⟨_, rfl, small (by show 0 ≤ 1000000; decide), fun p0 hp0 => ?_⟩
    have s0 := same_new hp0 (.tup [])
    refine ⟨a, p0, _, rfl, rfl, SqT.of (s0.get e), SqT.of upd_same, ?_⟩
    rw [if_neg Bool.false_ne_true]
    refine ⟨_, rfl, ite2 (fun c => ?_) (fun c => ?_)⟩
    · exact ⟨_, rfl, _, rfl, other _ s0 _ fun v' H' t' s' r' o' d' => q v' H' t' (s0.trans s') r' o' d'⟩
    have ne : us ≠ [] := fun z => c (decide_eq_true z)
    have un : 0 < us.length := List.length_pos_iff.mpr ne
    have hv0 := Rep.same s0 _ _ hv
    have e0 := s0.get e
    have S0 := s0.get hS
    generalize upd H p0 (.tup []) = H0 at s0 hv0 e0 S0
    have jn := Int.emod_nonneg (ks.getD (d : Int).toNat 0) (show (us.length : Int) ≠ 0 by omega)
    have jl := Int.emod_lt_of_pos (ks.getD (d : Int).toNat 0) (show (0 : Int) < us.length by omega)
    refine ⟨_, rfl, _, rfl, r, _, _, _, rfl, rfl, SqL.of S0, at_int (i := (d : Int)) (by omega) (by omega), _, rfl, a, _, rfl, .inr (SqT.of e0), _, _, rfl, rfl, (show (0 : Int) < us.length by omega), ?_⟩
    dsimp only
    generalize ks.getD (d : Int).toNat 0 % (us.length : Int) = j at jn jl ⊢
    obtain ⟨k, rfl⟩ : ∃ k : Nat, j = (k : Int) := ⟨j.toNat, by omega⟩
    have kl : k < us.length := by omega
    obtain ⟨tk, etk, rk⟩ := Reps.get rp (List.getElem?_eq_getElem kl)
    have ak : atI us (k : Int) = some us[k] := atI_nat (List.getElem?_eq_getElem kl)
    generalize us[k] = uk at rk ak
    have tik := tt k tk etk
    have okk := isT_ok _ _ tik
    have dk := isT_dep _ _ tik
    have g0 : Gd (n + 2) 100 ts := by
      refine ⟨fun t ht' => ?_, tl⟩
      obtain ⟨i, hi, ei⟩ := List.getElem_of_mem ht'
      have := tt i t (by rw [List.getElem?_eq_getElem hi, ei])
      exact ⟨isT_ok _ _ this, Nat.le_trans (isT_dep _ _ this) (by omega)⟩
    refine ⟨_, rfl, _, rfl, _, _, rfl, rfl, r, _, _, _, rfl, rfl, SqL.of S0, at_int (i := 5 + (d : Int)) (by omega) (by omega), _, _, rfl, rfl, (show (0 : Int) < 9 by decide), ?_⟩
    dsimp only
    generalize ks.getD (5 + (d : Int)).toNat 0 % 9 = hw
    refine ⟨_, rfl, rfl, _, rfl, ite2 (fun c0 => ?_) (fun c0 => ?_)⟩
    · refine ⟨_, rfl, _, rfl, _, rfl, slW_use hv0 fun v1 H1 s1 r1 => ?_⟩
      obtain ⟨m, rfl⟩ : ∃ m, n = m + 1 := ⟨n - 1, by cases n with
        | zero => cases tik
        | succ m => rfl⟩
      refine ⟨_, rfl, _, rfl, _, rfl, a, _, _, _, rfl, rfl, SqT.of (s1.get e0), ak, r, ks, uk, tk, m, rfl, s1.get S0, lk, Rep.same (s0.trans s1) _ _ rk, okk, dk, fun v2 H2 t2 s2 r2 o2 d2 => ?_⟩
      refine ⟨small (by show 1 ≤ 1000000; decide), fun p hp => ?_⟩
      have sp := same_new hp (.tup [v2])
      have g1 := g0.cut (lo := none) (hi := some (k : Int))
      refine cat3_use (Rep.same (s2.trans sp) _ _ r1) (us := [t2]) ⟨p, _, rfl, upd_same, Reps.one (Rep.same sp _ _ r2)⟩ (by have := g1.2; show _ + 1 ≤ 1000; omega) fun v3 H3 s3 r3 => ?_
      have u3 := ((s1.trans s2).trans sp).trans s3
      refine ⟨_, rfl, _, rfl, _, rfl, slW_from (Rep.same u3 _ _ hv0) fun v4 H4 s4 r4 => ?_⟩
      have g2 := g0.cut (lo := some (k : Int)) (hi := none)
      have gg := (g1.app (Gd.one o2 d2)).app g2
      refine cat3_use (Rep.same s4 _ _ r3) r4 (by have := (g1.app (Gd.one o2 d2)).2; have := g2.2; omega) fun v5 H5 s5 r5 => ?_
      obtain ⟨oo, dd⟩ := gg.tup (by decide)
      exact q v5 H5 _ ((s0.trans u3).trans (s4.trans s5)) r5 oo dd
    refine ⟨_, rfl, rfl, _, rfl, ite2 (fun c1 => ?_) (fun c1 => ?_)⟩
    · refine ⟨_, rfl, _, rfl, _, rfl, slW_use hv0 fun v1 H1 s1 r1 => ?_⟩
      refine ⟨_, rfl, _, rfl, _, _, rfl, rfl, _, rfl, slW_from (Rep.same s1 _ _ hv0) fun v4 H4 s4 r4 => ?_⟩
      have g1 := g0.cut (lo := none) (hi := some (k : Int))
      have g2 := g0.cut (lo := some ((k : Int) + 1)) (hi := none)
      refine cat3_use (Rep.same s4 _ _ r1) r4 (by have := g1.2; have := g2.2; omega) fun v5 H5 s5 r5 => ?_
      obtain ⟨oo, dd⟩ := (g1.app g2).tup (by decide)
      exact q v5 H5 _ ((s0.trans s1).trans (s4.trans s5)) r5 oo dd
    refine ⟨_, rfl, rfl, _, rfl, ite2 (fun c2 => ?_) (fun c2 => ?_)⟩
    · refine ⟨_, rfl, _, rfl, _, rfl, slW_use hv0 fun v1 H1 s1 r1 => ?_⟩
      refine ⟨_, rfl, _, rfl, a, _, _, _, rfl, rfl, SqT.of (s1.get e0), ak, small (by show 1 ≤ 1000000; decide), fun p hp => ?_⟩
      have sp := same_new hp (.tup [uk])
      have g1 := g0.cut (lo := none) (hi := some (k : Int))
      refine cat3_use (Rep.same sp _ _ r1) (us := [tk]) ⟨p, _, rfl, upd_same, Reps.one (Rep.same ((s0.trans s1).trans sp) _ _ rk)⟩ (by have := g1.2; show _ + 1 ≤ 1000; omega) fun v3 H3 s3 r3 => ?_
      have u3 := (s1.trans sp).trans s3
      refine ⟨_, rfl, _, rfl, _, rfl, slW_from (Rep.same u3 _ _ hv0) fun v4 H4 s4 r4 => ?_⟩
      have g2 := g0.cut (lo := some (k : Int)) (hi := none)
      have go := Gd.one (m := n + 2) okk (by omega)
      refine cat3_use (Rep.same s4 _ _ r3) r4 (by have := (g1.app go).2; have := g2.2; omega) fun v5 H5 s5 r5 => ?_
      obtain ⟨oo, dd⟩ := ((g1.app go).app g2).tup (by decide)
      exact q v5 H5 _ ((s0.trans u3).trans (s4.trans s5)) r5 oo dd
    refine ⟨_, rfl, rfl, _, rfl, ite2 (fun c3 => ?_) (fun c3 => ?_)⟩
    · refine ⟨_, rfl, _, rfl, _, rfl, slW_from hv0 fun v1 H1 s1 r1 => ?_⟩
      refine ⟨_, rfl, _, rfl, _, rfl, slW_use (Rep.same s1 _ _ hv0) fun v4 H4 s4 r4 => ?_⟩
      have g1 := g0.cut (lo := some (k : Int)) (hi := none)
      have g2 := g0.cut (lo := none) (hi := some (k : Int))
      refine cat3_use (Rep.same s4 _ _ r1) r4 (by have := g1.2; have := g2.2; omega) fun v5 H5 s5 r5 => ?_
      obtain ⟨oo, dd⟩ := (g1.app g2).tup (by decide)
      exact q v5 H5 _ ((s0.trans s1).trans (s4.trans s5)) r5 oo dd
    dsimp only [tNext, tSeq, tIfS]
    refine tAnd_p (decide (V.int hw = V.int 4)) (decide ((0 : Int) < (d : Int))) (fun R q => ⟨_, rfl, rfl, _, rfl, q⟩) (fun _ R q => ⟨_, rfl, _, _, rfl, rfl, _, rfl, q⟩) (ite2 (fun c4 => ?_) (fun c4 => ?_))
    · exact ⟨_, rfl, _, rfl, other _ s0 _ fun v' H' t' s' r' o' d' => q v' H' t' (s0.trans s') r' o' d'⟩
    · refine ⟨_, rfl, _, rfl, _, rfl, slW_use hv0 fun v1 H1 s1 r1 => ?_⟩
      refine ⟨_, rfl, _, rfl, a, _, _, _, rfl, rfl, SqT.of (s1.get e0), ak, _, rfl, _, rfl, _, _, rfl, rfl, uk, tk, r, ks, d + 1, rfl, tik, Rep.same (s0.trans s1) _ _ rk, by omega, s1.get S0, lk, fun v2 H2 t2 s2 r2 o2 d2 => ?_⟩
      refine ⟨small (by show 1 ≤ 1000000; decide), fun p hp => ?_⟩
      have sp := same_new hp (.tup [v2])
      have g1 := g0.cut (lo := none) (hi := some (k : Int))
      refine cat3_use (Rep.same (s2.trans sp) _ _ r1) (us := [t2]) ⟨p, _, rfl, upd_same, Reps.one (Rep.same sp _ _ r2)⟩ (by have := g1.2; show _ + 1 ≤ 1000; omega) fun v3 H3 s3 r3 => ?_
      have u3 := ((s1.trans s2).trans sp).trans s3
      refine ⟨_, rfl, _, rfl, _, _, rfl, rfl, _, rfl, slW_from (Rep.same u3 _ _ hv0) fun v4 H4 s4 r4 => ?_⟩
      have g2 := g0.cut (lo := some ((k : Int) + 1)) (hi := none)
      have gg := (g1.app (Gd.one o2 d2)).app g2
      refine cat3_use (Rep.same s4 _ _ r3) r4 (by have := (g1.app (Gd.one o2 d2)).2; have := g2.2; omega) fun v5 H5 s5 r5 => ?_
      obtain ⟨oo, dd⟩ := gg.tup (by decide)
      exact q v5 H5 _ ((s0.trans u3).trans (s4.trans s5)) r5 oo dd
theorem bt_all (T : Txt K mg) (F : Fun K "_law_bent" "_law_bent" s__law_bent f fd) (D__law_other : Def P w K mg base 1 "_law_other" ["_law_some", "_law_thing"] (sp__law_other K)) (hm : mg "_law_bent" = some (.ref f)) (hk : PySem.W.keepIn K (.ref f) = true) (hb : Binds K fd ["_law_thing", "_law_some", "_law_deep"] []) : ∀ n, FnOk P w K mg base CX0 (1 + n) f fd ["_law_thing", "_law_some", "_law_deep"] (sp_bt n K)
  | 0 => by
    refine F.ok sc__law_bent (fun vs H Q E h => ?_) (fun cdv A outer s H vs Q E hr h => ?_)
    · obtain ⟨v, t, r, ks, d, rfl, ht, _⟩ := h
      cases ht
    · obtain ⟨v, t, r, ks, d, rfl, ht, _⟩ := h
      cases ht
  | n + 1 => bt_step T F D__law_other n ⟨f, fd, bt_all T F D__law_other hm hk hb n, hm, hk, hb⟩
theorem ok__law_bent (T : Txt K mg) (F : Fun K "_law_bent" "_law_bent" s__law_bent f fd) (D__law_other : Def P w K mg base 1 "_law_other" ["_law_some", "_law_thing"] (sp__law_other K)) (hm : mg "_law_bent" = some (.ref f)) (hk : PySem.W.keepIn K (.ref f) = true) (hb : Binds K fd ["_law_thing", "_law_some", "_law_deep"] []) : FnOk P w K mg base CX0 9 f fd ["_law_thing", "_law_some", "_law_deep"] (sp__law_bent K) :=
  bt_all T F D__law_other hm hk hb 8
end
section
variable {P : Program} {w : World} {K : PySem.W.Frag} {mg : Str → Option Value} {base : Heap} {f : Addr} {fd : FuncData}
theorem tag_ok {t : Tg} (h : tgOk t) : tagT (tgT t) = true := by
  obtain ⟨⟨a1, a2⟩, ⟨b1, b2⟩, c1, c2⟩ := h
  show ((decide (1 ≤ t.1) && decide (t.1 ≤ 999999)) && (decide (0 ≤ t.2.1) && decide (t.2.1 ≤ 999999999)) && (decide (0 ≤ t.2.2) && decide (t.2.2 ≤ 996))) = true
  simp only [Bool.and_eq_true, decide_eq_true_eq]
  omega
theorem ent_ok {x : En} (h : enOk x) : entT (enT x) = true := by
  obtain ⟨a, ⟨b1, b2⟩, c⟩ := h
  show (nameB (.str x.nm) && (decide (1 ≤ x.kd) && decide (x.kd ≤ 2)) && tagT (tgT x.tg)) = true
  rw [a, tag_ok c, decide_eq_true b1, decide_eq_true b2]
  rfl
theorem blk_ok {b : Bk} (h : bkOk b) : blkT (bkT b) = true := by
  cases b with
  | piece z => exact h
  | row lv ts =>
    obtain ⟨⟨l1, l2⟩, n, o1, o2⟩ := h
    show ((decide (1 ≤ lv) && decide (lv ≤ 9)) && (decide ((ts.map tgT).length ≤ 8) && !(decide ((ts.map tgT).length = 0) && decide (1 < lv)) && (ts.map tgT).all tagT)) = true
    have ha : (ts.map tgT).all tagT = true := List.all_eq_true.mpr fun t ht => by
      obtain ⟨x, hx, rfl⟩ := List.mem_map.mp ht
      exact tag_ok (o2 x hx)
    rw [ha, decide_eq_true l1, decide_eq_true l2, List.length_map, decide_eq_true n]
    by_cases z : ts.length = 0
    · rw [decide_eq_true z, decide_eq_false fun y => o1 y (List.length_eq_zero_iff.mp z)]; rfl
    · rw [decide_eq_false z]; rfl
  | folder es =>
    obtain ⟨n, o, s, d⟩ := h
    show (decide ((es.map enT).length ≤ 16) && (es.map enT).all entT && risT ((es.map enT).map nmT)) = true
    have ha : (es.map enT).all entT = true := List.all_eq_true.mpr fun t ht => by
      obtain ⟨x, hx, rfl⟩ := List.mem_map.mp ht
      exact ent_ok (o x hx)
    have en : (es.map enT).map nmT = es.map (·.nm) := by rw [List.map_map]; rfl
    rw [ha, en, List.length_map, decide_eq_true n, show risT (es.map (·.nm)) = true from decide_eq_true ⟨s, d⟩]
    rfl
def sp_law (K : PySem.W.Frag) : Sp := fun vs H Q _ => ∃ (a : Addr) (ns : List Int), vs = [.ref a] ∧ SqL K H a (ns.map V.int) ∧ ns.length ≤ 63 ∧ ∀ H', Q (.bl true) H'
theorem ok_law (T : Txt K mg) (F : Fun K "law" "law" s_law f fd) (D__law_numbers : Def P w K mg base 1 "_law_numbers" ["_law_cell", "_law_many"] (sp__law_numbers K)) (D__law_block : Def P w K mg base 2 "_law_block" ["_law_some"] (sp__law_block K)) (D__law_copied : Def P w K mg base 21 "_law_copied" ["_law_thing"] (sp__law_copied K)) (D_is_block : Def P w K mg base 6 "is_block" ["thing"] (sp_is_block K)) (D__law_bent : Def P w K mg base 9 "_law_bent" ["_law_thing", "_law_some", "_law_deep"] (sp__law_bent K)) (D__law_is_block : Def P w K mg base 4 "_law_is_block" ["_law_thing"] (sp__law_is_block K)) : FnOk P w K mg base CX0 22 f fd ["_law_script"] (sp_law K) := by
  refine F.ok sc_law (fun vs H Q E h => ?_) (fun cdv A outer s H vs Q E hr h => ?_)
  · obtain ⟨a, ns, rfl, _⟩ := h
    rfl
  obtain ⟨a, ns, rfl, hS, hlen, q⟩ := h
  have hu := hu_of hr
  have hu9 := hu9_of hr
  refine ⟨_, (@pss_cons _ _ _ _ _ (@ps_for _ _ _ _ _ _ _ _ PassesOwn.never rfl (@pi_list _ _ _ _ (@pe_op _ _ _ _ _ _ _ _ op_catS (@pe_lst _ _ _ _ (@pa_cons _ _ _ _ _ (@pe_int _ _ _ _) (@pa_nil _) (by rfl))) (@pe_slice _ _ _ _ _ _ _ _ _ _ sl_list (@pv _ 0 _ _ (by rfl) (by first | exact Or.inl rfl | exact Or.inr (Or.inl rfl) | exact Or.inr (Or.inr rfl)) (by decide) (by decide)) (@po_none _) (@po_some _ _ _ (@pe_int _ _ _ _))))) (@pg_name _ _ (1) _ sc_law.nd rfl (by first | exact Or.inl rfl | exact Or.inr rfl) (by first | exact .inl rfl | exact .inr rfl | assumption)) (@pss_cons _ _ _ _ _ (@ps_set _ _ (2) _ _ _ _ sc_law.nd rfl (by first | exact Or.inl rfl | exact Or.inr rfl) (@pe_fn _ _ _ _ _ _ _ _ _ _ D__law_numbers (hr.mono (by decide)) rfl (@pa_cons _ _ _ _ _ (@pv _ 1 _ _ (by rfl) (by first | exact Or.inl rfl | exact Or.inr (Or.inl rfl) | exact Or.inr (Or.inr rfl)) (by decide) (by decide)) (@pa_cons _ _ _ _ _ (@pe_int _ _ _ _) (@pa_nil _) (by rfl)) (by rfl)) (by decide) (by rfl) (by rfl)) (by rfl) (by first | exact .inl rfl | exact .inr rfl | assumption)) (@pss_cons _ _ _ _ _ (@ps_set _ _ (3) _ _ _ _ sc_law.nd rfl (by first | exact Or.inl rfl | exact Or.inr rfl) (@pe_fn _ _ _ _ _ _ _ _ _ _ D__law_block (hr.mono (by decide)) rfl (@pa_cons _ _ _ _ _ (@pe_slice _ _ _ _ _ _ _ _ _ _ sl_list (@pv _ 2 _ _ (by rfl) (by first | exact Or.inl rfl | exact Or.inr (Or.inl rfl) | exact Or.inr (Or.inr rfl)) (by decide) (by decide)) (@po_some _ _ _ (@pe_int _ _ _ _)) (@po_none _)) (@pa_nil _) (by rfl)) (by decide) (by rfl) (by rfl)) (by rfl) (by first | exact .inl rfl | exact .inr rfl | assumption)) (@pss_cons _ _ _ _ _ (@ps_set _ _ (4) _ _ _ _ sc_law.nd rfl (by first | exact Or.inl rfl | exact Or.inr rfl) (@pv _ 3 _ _ (by rfl) (by first | exact Or.inl rfl | exact Or.inr (Or.inl rfl) | exact Or.inr (Or.inr rfl)) (by decide) (by decide)) (by rfl) (by first | exact .inl rfl | exact .inr rfl | assumption)) (@pss_cons _ _ _ _ _ (@ps_if _ _ _ _ _ _ _ _ (@pt_cmpR _ _ _ _ _ _ _ _ op_gt (@pe_op _ _ _ _ _ _ _ _ op_mod (@pe_ix _ _ _ _ _ _ _ ix_list (@pv _ 2 _ _ (by rfl) (by first | exact Or.inl rfl | exact Or.inr (Or.inl rfl) | exact Or.inr (Or.inr rfl)) (by decide) (by decide)) (@pe_int _ _ _ _) (fun _ _ => rfl)) (@pe_int _ _ _ _)) (@pe_int _ _ _ _) (nomark _)) (@pss_one _ _ _ (@ps_set _ _ (4) _ _ _ _ sc_law.nd rfl (by first | exact Or.inl rfl | exact Or.inr rfl) (@pe_fn _ _ _ _ _ _ _ _ _ _ D__law_bent (hr.mono (by decide)) rfl (@pa_cons _ _ _ _ _ (@pv _ 3 _ _ (by rfl) (by first | exact Or.inl rfl | exact Or.inr (Or.inl rfl) | exact Or.inr (Or.inr rfl)) (by decide) (by decide)) (@pa_cons _ _ _ _ _ (@pv _ 2 _ _ (by rfl) (by first | exact Or.inl rfl | exact Or.inr (Or.inl rfl) | exact Or.inr (Or.inr rfl)) (by decide) (by decide)) (@pa_cons _ _ _ _ _ (@pe_int _ _ _ _) (@pa_nil _) (by rfl)) (by rfl)) (by rfl)) (by decide) (by rfl) (by rfl)) (by rfl) (by first | exact .inl rfl | exact .inr rfl | assumption))) (@pss_nil _)) (@pss_cons _ _ _ _ _ (@ps_set _ _ (5) _ _ _ _ sc_law.nd rfl (by first | exact Or.inl rfl | exact Or.inr rfl) (@pe_fn _ _ _ _ _ _ _ _ _ _ D__law_copied (hr.mono (by decide)) rfl (@pa_cons _ _ _ _ _ (@pv _ 4 _ _ (by rfl) (by first | exact Or.inl rfl | exact Or.inr (Or.inl rfl) | exact Or.inr (Or.inr rfl)) (by decide) (by decide)) (@pa_nil _) (by rfl)) (by decide) (by rfl) (by rfl)) (by rfl) (by first | exact .inl rfl | exact .inr rfl | assumption)) (@pss_cons _ _ _ _ _ (@ps_set _ _ (6) _ _ _ _ sc_law.nd rfl (by first | exact Or.inl rfl | exact Or.inr rfl) (@pe_fn _ _ _ _ _ _ _ _ _ _ D_is_block (hr.mono (by decide)) rfl (@pa_cons _ _ _ _ _ (@pv _ 4 _ _ (by rfl) (by first | exact Or.inl rfl | exact Or.inr (Or.inl rfl) | exact Or.inr (Or.inr rfl)) (by decide) (by decide)) (@pa_nil _) (by rfl)) (by decide) (by rfl) (by rfl)) (by rfl) (by first | exact .inl rfl | exact .inr rfl | assumption)) (@pss_cons _ _ _ _ _ (@ps_if _ _ _ _ _ _ _ _ (@PW.pt _ _ _ (@pw_or _ _ _ _ _ _ _ (@pt_not _ _ _ _ (@pt_val _ _ _ (@pe_callB _ _ _ _ _ _ _ _ _ call_isinst (by rfl) T.b_isinstance bt_isinstance (@pa_cons _ _ _ _ _ (@pv _ 6 _ _ (by rfl) (by first | exact Or.inl rfl | exact Or.inr (Or.inl rfl) | exact Or.inr (Or.inr rfl)) (by decide) (by decide)) (@pa_cons _ _ _ _ _ (@pe_ty _ _ _ _ rfl T.b_bool bt_bool (by decide) (by decide)) (@pa_nil _) (by rfl)) (by rfl)) (by decide) (by decide) (by rfl) (by rfl)) (by intro _; rfl))) (@pw_or _ _ _ _ _ _ _ (@pt_cmpR _ _ _ _ _ _ _ _ op_ne (@pv _ 6 _ _ (by rfl) (by first | exact Or.inl rfl | exact Or.inr (Or.inl rfl) | exact Or.inr (Or.inr rfl)) (by decide) (by decide)) (@pe_fn _ _ _ _ _ _ _ _ _ _ D__law_is_block (hr.mono (by decide)) rfl (@pa_cons _ _ _ _ _ (@pv _ 5 _ _ (by rfl) (by first | exact Or.inl rfl | exact Or.inr (Or.inl rfl) | exact Or.inr (Or.inr rfl)) (by decide) (by decide)) (@pa_nil _) (by rfl)) (by decide) (by rfl) (by rfl)) (nomark _)) (@pw_or1 _ _ _ _ (@pt_cmpR _ _ _ _ _ _ _ _ (op_neR hu9) (@pv _ 4 _ _ (by rfl) (by first | exact Or.inl rfl | exact Or.inr (Or.inl rfl) | exact Or.inr (Or.inr rfl)) (by decide) (by decide)) (@pv _ 5 _ _ (by rfl) (by first | exact Or.inl rfl | exact Or.inr (Or.inl rfl) | exact Or.inr (Or.inr rfl)) (by decide) (by decide)) (nomark _)))))) (@pss_one _ _ _ (@ps_ret _ _ _ _ (@pe_bl _ _ _ _))) (@pss_nil _)) (@pss_one _ _ _ (@ps_if _ _ _ _ _ _ _ _ (@pt_cmpR _ _ _ _ _ _ _ _ op_isNot_bl (@pe_fn _ _ _ _ _ _ _ _ _ _ D_is_block (hr.mono (by decide)) rfl (@pa_cons _ _ _ _ _ (@pv _ 3 _ _ (by rfl) (by first | exact Or.inl rfl | exact Or.inr (Or.inl rfl) | exact Or.inr (Or.inr rfl)) (by decide) (by decide)) (@pa_nil _) (by rfl)) (by decide) (by rfl) (by rfl)) (@pe_bl _ _ _ _) (nomark _)) (@pss_one _ _ _ (@ps_ret _ _ _ _ (@pe_bl _ _ _ _))) (@pss_nil _)))))))))) (by intro _; rfl)) (@pss_one _ _ _ (@ps_ret _ _ _ _ (@pe_bl _ _ _ _)))), ?_⟩
  refine ⟨small (by show 1 ≤ 1000000; decide), fun p1 hp1 => ?_⟩
  have s1 := same_new hp1 (.lst [V.int 0])
  refine ⟨_, rfl, 12, rfl, a, _, rfl, s1.seq hS, fun p2 hp2 => ?_⟩
  have s2 := same_new hp2 (.lst (cutV (ns.map V.int) none (some 12)))
  refine ⟨p1, p2, _, _, rfl, rfl, SqL.of (s2.get upd_same), SqL.of upd_same, small (by have := cutV_length (ns.map V.int) none (some 12); rw [List.length_map] at this; show 1 + _ ≤ 1000000; omega), fun p3 hp3 => ?_⟩
  obtain ⟨ms, em, lm, _⟩ := cut_ints ns none (some 12)
  rw [em] at hp3 s2 ⊢
  have h3 : (upd (upd (upd H p1 (.lst [V.int 0])) p2 (.lst (ms.map V.int))) p3 (.lst ([V.int 0] ++ ms.map V.int))) p3 = some (.lst (((0 : Int) :: ms).map V.int)) := upd_same
  change ∃ x, V.ref p3 = V.ref x ∧ (∃ xs, SqL _ (upd (upd (upd H p1 (.lst [V.int 0])) p2 (.lst (ms.map V.int))) p3 (.lst ([V.int 0] ++ ms.map V.int))) x xs) ∧ _
  generalize upd (upd (upd H p1 (.lst [V.int 0])) p2 (.lst (ms.map V.int))) p3 (.lst ([V.int 0] ++ ms.map V.int)) = H0 at h3
  refine ⟨p3, rfl, ⟨_, SqL.of h3⟩, for_list (K := K) (a := p3) (xs := ((0 : Int) :: ms).map V.int) (fun i σ H2 => ∃ v1 v2 v3 v4 v5 v6, σ = [some (.ref a), v1, v2, v3, v4, v5, v6] ∧ Same H0 H2) ⟨none, none, none, none, none, none, rfl, Same.refl _⟩ (fun i σ H2 _ ⟨_, _, _, _, _, _, _, s⟩ => SqL.of (s.get h3)) ?_ ?_⟩
  · rintro i y σ H2 hi ⟨v1, v2, v3, v4, v5, v6, rfl, t0⟩
    obtain ⟨n, rfl, hn⟩ := ints_get hi
    refine ⟨_, rfl, n, 36, rfl, by decide, by decide, fun r H3 xs t1 nr hr3 lx bx => ?_⟩
    have lx' : xs.length = 36 := lx
    refine ⟨_, rfl, 12, rfl, r, _, rfl, SqL.of hr3, fun pb hpb => ?_⟩
    rw [cut_lo (by decide), ← List.map_drop]
    have t2 := same_new hpb (.lst ((xs.drop (12 : Int).toNat).map V.int))
    refine ⟨pb, xs.drop (12 : Int).toNat, rfl, upd_same, by rw [List.length_drop, lx']; rfl, fun x hx => bx x (List.mem_of_mem_drop hx), fun v b H4 t3 ok hv => ?_⟩
    have u3 := t2.trans t3
    have hr4 := u3.get hr3
    have T4 := (t0.trans t1).trans u3
    have it := isT_bk ok
    have hva := rep_all hv
    refine ⟨_, rfl, ?_⟩
    refine ⟨_, rfl, r, _, _, _, rfl, rfl, SqL.of hr4, at_int (by decide) (by omega), _, _, rfl, rfl, (show (0 : Int) < 4 by decide), _, _, rfl, rfl, _, rfl, ?_⟩
    have dt := isT_dep _ _ it
    refine ite2 (fun c => ?_) (fun c => ?_)
    · refine ⟨_, rfl, _, rfl, v, bkT b, r, xs, 0, rfl, it, hva, by decide, hr4, lx', fun z H5 tz t5 rz oz dz => ?_⟩
      refine ⟨_, rfl, z, tz, rfl, (by show _ ≤ 20; omega), rz, oz, fun zk H6 t6 rk => ?_⟩
      have rz6 := Rep.same t6 _ _ rz
      refine ⟨_, rfl, z, tz, rfl, rz6, oz, fun H7 t7 => ?_⟩
      have rk7 := Rep.same t7 _ _ (Rep.mono (fun _ _ => trivial) _ _ rk)
      have rz7 := Rep.same t7 _ _ rz6
      refine ⟨_, rfl, _, _, _, _, rfl, .bl _, kit_bool_bool K, _, rfl, iteFc rfl ?_⟩
      refine ⟨_, rfl, _, rfl, zk, tz, rfl, rk7, oz, fun H8 t8 => ?_⟩
      refine ⟨rfl, _, rfl, iteFc (by simp) ?_⟩
      refine ⟨_, rfl, _, rfl, tz, _, _, (by omega), Rep.same t8 _ _ rz7, Rep.same t8 _ _ rk7, _, rfl, iteFc rfl ?_⟩
      have u8 := ((t5.trans t6).trans t7).trans t8
      refine ⟨_, rfl, v, _, rfl, Rep.same u8 _ _ hva, isT_ok _ _ it, fun H9 t9 => ⟨_, _, rfl, rfl, _, rfl, iteFc (by rw [blk_ok ok]; rfl) ?_⟩⟩
      exact ⟨_, _, _, _, _, _, rfl, (T4.trans u8).trans t9⟩
    · have t5 := Same.refl H4
      have oz := isT_ok _ _ it
      refine ⟨_, rfl, v, (bkT b), rfl, (by show _ ≤ 20; omega), hva, oz, fun zk H6 t6 rk => ?_⟩
      have rz6 := Rep.same t6 _ _ hva
      refine ⟨_, rfl, v, (bkT b), rfl, rz6, oz, fun H7 t7 => ?_⟩
      have rk7 := Rep.same t7 _ _ (Rep.mono (fun _ _ => trivial) _ _ rk)
      have rz7 := Rep.same t7 _ _ rz6
      refine ⟨_, rfl, _, _, _, _, rfl, .bl _, kit_bool_bool K, _, rfl, iteFc rfl ?_⟩
      refine ⟨_, rfl, _, rfl, zk, (bkT b), rfl, rk7, oz, fun H8 t8 => ?_⟩
      refine ⟨rfl, _, rfl, iteFc (by simp) ?_⟩
      refine ⟨_, rfl, _, rfl, (bkT b), _, _, (by omega), Rep.same t8 _ _ rz7, Rep.same t8 _ _ rk7, _, rfl, iteFc rfl ?_⟩
      have u8 := ((t5.trans t6).trans t7).trans t8
      refine ⟨_, rfl, v, _, rfl, Rep.same u8 _ _ hva, isT_ok _ _ it, fun H9 t9 => ⟨_, _, rfl, rfl, _, rfl, iteFc (by rw [blk_ok ok]; rfl) ?_⟩⟩
      exact ⟨_, _, _, _, _, _, rfl, (T4.trans u8).trans t9⟩
  rintro σ H2 ⟨v1, v2, v3, v4, v5, v6, rfl, s2⟩
  exact q _
end
theorem all_mk {l : PySem.W.OpenLaw} {w : World} {K : PySem.W.Frag} {h : Heap} {mg : Str → Option Value} {fa : Addr} (X : K.In h) (G : h.Ns mainGlobals mg) (hfa : mg "law" = some (.ref fa))
    {f0 : Addr} {od0 an0 : Option Addr} {sl0 : Array (Option Value)} {oc0 kV0 dc0 pm0 cd0 ct0 : Value}
    {f1 : Addr} {od1 an1 : Option Addr} {sl1 : Array (Option Value)} {oc1 kV1 dc1 pm1 cd1 ct1 : Value}
    {f2 : Addr} {od2 an2 : Option Addr} {sl2 : Array (Option Value)} {oc2 kV2 dc2 pm2 cd2 ct2 : Value}
    {f3 : Addr} {od3 an3 : Option Addr} {sl3 : Array (Option Value)} {oc3 kV3 dc3 pm3 cd3 ct3 : Value}
    {f4 : Addr} {od4 an4 : Option Addr} {sl4 : Array (Option Value)} {oc4 kV4 dc4 pm4 cd4 ct4 : Value}
    {f5 : Addr} {od5 an5 : Option Addr} {sl5 : Array (Option Value)} {oc5 kV5 dc5 pm5 cd5 ct5 : Value}
    {f6 : Addr} {od6 an6 : Option Addr} {sl6 : Array (Option Value)} {oc6 kV6 dc6 pm6 cd6 ct6 : Value}
    {f7 : Addr} {od7 an7 : Option Addr} {sl7 : Array (Option Value)} {oc7 kV7 dc7 pm7 cd7 ct7 : Value}
    {f8 : Addr} {od8 an8 : Option Addr} {sl8 : Array (Option Value)} {oc8 kV8 dc8 pm8 cd8 ct8 : Value}
    {f9 : Addr} {od9 an9 : Option Addr} {sl9 : Array (Option Value)} {oc9 kV9 dc9 pm9 cd9 ct9 : Value}
    {f10 : Addr} {od10 an10 : Option Addr} {sl10 : Array (Option Value)} {oc10 kV10 dc10 pm10 cd10 ct10 : Value}
    {f11 : Addr} {od11 an11 : Option Addr} {sl11 : Array (Option Value)} {oc11 kV11 dc11 pm11 cd11 ct11 : Value}
    {f12 : Addr} {od12 an12 : Option Addr} {sl12 : Array (Option Value)} {oc12 kV12 dc12 pm12 cd12 ct12 : Value}
    {f13 : Addr} {od13 an13 : Option Addr} {sl13 : Array (Option Value)} {oc13 kV13 dc13 pm13 cd13 ct13 : Value}
    {f14 : Addr} {od14 an14 : Option Addr} {sl14 : Array (Option Value)} {oc14 kV14 dc14 pm14 cd14 ct14 : Value}
    {f15 : Addr} {od15 an15 : Option Addr} {sl15 : Array (Option Value)} {oc15 kV15 dc15 pm15 cd15 ct15 : Value}
    {f16 : Addr} {od16 an16 : Option Addr} {sl16 : Array (Option Value)} {oc16 kV16 dc16 pm16 cd16 ct16 : Value}
    {f17 : Addr} {od17 an17 : Option Addr} {sl17 : Array (Option Value)} {oc17 kV17 dc17 pm17 cd17 ct17 : Value}
    {f18 : Addr} {od18 an18 : Option Addr} {sl18 : Array (Option Value)} {oc18 kV18 dc18 pm18 cd18 ct18 : Value}
    {f19 : Addr} {od19 an19 : Option Addr} {sl19 : Array (Option Value)} {oc19 kV19 dc19 pm19 cd19 ct19 : Value}
    {f20 : Addr} {od20 an20 : Option Addr} {sl20 : Array (Option Value)} {oc20 kV20 dc20 pm20 cd20 ct20 : Value}
    {f21 : Addr} {od21 an21 : Option Addr} {sl21 : Array (Option Value)} {oc21 kV21 dc21 pm21 cd21 ct21 : Value}
    {f22 : Addr} {od22 an22 : Option Addr} {sl22 : Array (Option Value)} {oc22 kV22 dc22 pm22 cd22 ct22 : Value}
    {f23 : Addr} {od23 an23 : Option Addr} {sl23 : Array (Option Value)} {oc23 kV23 dc23 pm23 cd23 ct23 : Value}
    {t_SIGNS : Tok}
    {t_PIECE : Tok}
    {t_ROW : Tok}
    {t_FOLDER : Tok}
    {t_FILE_ENTRY : Tok}
    {t_FOLDER_ENTRY : Tok}
    {t_NAME_SIGNS : Tok}
    {t_MOST_NAME_SIGNS : Tok}
    {t_MOST_CELL : Tok}
    {t_MOST_BIRTH : Tok}
    {t_SUM_RESTS : Tok}
    {t_MOST_PIECE_SIGNS : Tok}
    {t_MOST_LEVEL : Tok}
    {t_MOST_TAGS : Tok}
    {t_MOST_ENTRIES : Tok}
    (a0 : PySem.W.nsIn K mainGlobals "is_whole" = some (some (.ref f0))) (l0 : K.lookup f0 = some ⟨oc0, od0, .func (PySem.W.fnOf "is_whole" "is_whole" (defArgs s_is_whole) (defBody s_is_whole) (defScope s_is_whole) .none kV0 dc0 pm0 an0 cd0 ct0), sl0⟩) (c0 : PySem.W.codeIn K cd0 "is_whole" = true) (k0 : PySem.W.keepIn K (.ref f0) = true)
    (a1 : PySem.W.nsIn K mainGlobals "is_between" = some (some (.ref f1))) (l1 : K.lookup f1 = some ⟨oc1, od1, .func (PySem.W.fnOf "is_between" "is_between" (defArgs s_is_between) (defBody s_is_between) (defScope s_is_between) .none kV1 dc1 pm1 an1 cd1 ct1), sl1⟩) (c1 : PySem.W.codeIn K cd1 "is_between" = true) (k1 : PySem.W.keepIn K (.ref f1) = true)
    (a2 : PySem.W.nsIn K mainGlobals "is_tuple_of" = some (some (.ref f2))) (l2 : K.lookup f2 = some ⟨oc2, od2, .func (PySem.W.fnOf "is_tuple_of" "is_tuple_of" (defArgs s_is_tuple_of) (defBody s_is_tuple_of) (defScope s_is_tuple_of) .none kV2 dc2 pm2 an2 cd2 ct2), sl2⟩) (c2 : PySem.W.codeIn K cd2 "is_tuple_of" = true) (k2 : PySem.W.keepIn K (.ref f2) = true)
    (a3 : PySem.W.nsIn K mainGlobals "is_text" = some (some (.ref f3))) (l3 : K.lookup f3 = some ⟨oc3, od3, .func (PySem.W.fnOf "is_text" "is_text" (defArgs s_is_text) (defBody s_is_text) (defScope s_is_text) .none kV3 dc3 pm3 an3 cd3 ct3), sl3⟩) (c3 : PySem.W.codeIn K cd3 "is_text" = true) (k3 : PySem.W.keepIn K (.ref f3) = true)
    (a4 : PySem.W.nsIn K mainGlobals "is_name" = some (some (.ref f4))) (l4 : K.lookup f4 = some ⟨oc4, od4, .func (PySem.W.fnOf "is_name" "is_name" (defArgs s_is_name) (defBody s_is_name) (defScope s_is_name) .none kV4 dc4 pm4 an4 cd4 ct4), sl4⟩) (c4 : PySem.W.codeIn K cd4 "is_name" = true) (k4 : PySem.W.keepIn K (.ref f4) = true)
    (a5 : PySem.W.nsIn K mainGlobals "is_tag" = some (some (.ref f5))) (l5 : K.lookup f5 = some ⟨oc5, od5, .func (PySem.W.fnOf "is_tag" "is_tag" (defArgs s_is_tag) (defBody s_is_tag) (defScope s_is_tag) .none kV5 dc5 pm5 an5 cd5 ct5), sl5⟩) (c5 : PySem.W.codeIn K cd5 "is_tag" = true) (k5 : PySem.W.keepIn K (.ref f5) = true)
    (a6 : PySem.W.nsIn K mainGlobals "is_block" = some (some (.ref f6))) (l6 : K.lookup f6 = some ⟨oc6, od6, .func (PySem.W.fnOf "is_block" "is_block" (defArgs s_is_block) (defBody s_is_block) (defScope s_is_block) .none kV6 dc6 pm6 an6 cd6 ct6), sl6⟩) (c6 : PySem.W.codeIn K cd6 "is_block" = true) (k6 : PySem.W.keepIn K (.ref f6) = true)
    (a7 : PySem.W.nsIn K mainGlobals "are_row_tags" = some (some (.ref f7))) (l7 : K.lookup f7 = some ⟨oc7, od7, .func (PySem.W.fnOf "are_row_tags" "are_row_tags" (defArgs s_are_row_tags) (defBody s_are_row_tags) (defScope s_are_row_tags) .none kV7 dc7 pm7 an7 cd7 ct7), sl7⟩) (c7 : PySem.W.codeIn K cd7 "are_row_tags" = true) (k7 : PySem.W.keepIn K (.ref f7) = true)
    (a8 : PySem.W.nsIn K mainGlobals "are_entries" = some (some (.ref f8))) (l8 : K.lookup f8 = some ⟨oc8, od8, .func (PySem.W.fnOf "are_entries" "are_entries" (defArgs s_are_entries) (defBody s_are_entries) (defScope s_are_entries) .none kV8 dc8 pm8 an8 cd8 ct8), sl8⟩) (c8 : PySem.W.codeIn K cd8 "are_entries" = true) (k8 : PySem.W.keepIn K (.ref f8) = true)
    (a9 : PySem.W.nsIn K mainGlobals "is_entry" = some (some (.ref f9))) (l9 : K.lookup f9 = some ⟨oc9, od9, .func (PySem.W.fnOf "is_entry" "is_entry" (defArgs s_is_entry) (defBody s_is_entry) (defScope s_is_entry) .none kV9 dc9 pm9 an9 cd9 ct9), sl9⟩) (c9 : PySem.W.codeIn K cd9 "is_entry" = true) (k9 : PySem.W.keepIn K (.ref f9) = true)
    (a10 : PySem.W.nsIn K mainGlobals "_law_numbers" = some (some (.ref f10))) (l10 : K.lookup f10 = some ⟨oc10, od10, .func (PySem.W.fnOf "_law_numbers" "_law_numbers" (defArgs s__law_numbers) (defBody s__law_numbers) (defScope s__law_numbers) .none kV10 dc10 pm10 an10 cd10 ct10), sl10⟩) (c10 : PySem.W.codeIn K cd10 "_law_numbers" = true) (k10 : PySem.W.keepIn K (.ref f10) = true)
    (a11 : PySem.W.nsIn K mainGlobals "_law_signs" = some (some (.ref f11))) (l11 : K.lookup f11 = some ⟨oc11, od11, .func (PySem.W.fnOf "_law_signs" "_law_signs" (defArgs s__law_signs) (defBody s__law_signs) (defScope s__law_signs) .none kV11 dc11 pm11 an11 cd11 ct11), sl11⟩) (c11 : PySem.W.codeIn K cd11 "_law_signs" = true) (k11 : PySem.W.keepIn K (.ref f11) = true)
    (a12 : PySem.W.nsIn K mainGlobals "_law_tag" = some (some (.ref f12))) (l12 : K.lookup f12 = some ⟨oc12, od12, .func (PySem.W.fnOf "_law_tag" "_law_tag" (defArgs s__law_tag) (defBody s__law_tag) (defScope s__law_tag) .none kV12 dc12 pm12 an12 cd12 ct12), sl12⟩) (c12 : PySem.W.codeIn K cd12 "_law_tag" = true) (k12 : PySem.W.keepIn K (.ref f12) = true)
    (a13 : PySem.W.nsIn K mainGlobals "_law_name" = some (some (.ref f13))) (l13 : K.lookup f13 = some ⟨oc13, od13, .func (PySem.W.fnOf "_law_name" "_law_name" (defArgs s__law_name) (defBody s__law_name) (defScope s__law_name) .none kV13 dc13 pm13 an13 cd13 ct13), sl13⟩) (c13 : PySem.W.codeIn K cd13 "_law_name" = true) (k13 : PySem.W.keepIn K (.ref f13) = true)
    (a14 : PySem.W.nsIn K mainGlobals "_law_block" = some (some (.ref f14))) (l14 : K.lookup f14 = some ⟨oc14, od14, .func (PySem.W.fnOf "_law_block" "_law_block" (defArgs s__law_block) (defBody s__law_block) (defScope s__law_block) .none kV14 dc14 pm14 an14 cd14 ct14), sl14⟩) (c14 : PySem.W.codeIn K cd14 "_law_block" = true) (k14 : PySem.W.keepIn K (.ref f14) = true)
    (a15 : PySem.W.nsIn K mainGlobals "_law_whole_from" = some (some (.ref f15))) (l15 : K.lookup f15 = some ⟨oc15, od15, .func (PySem.W.fnOf "_law_whole_from" "_law_whole_from" (defArgs s__law_whole_from) (defBody s__law_whole_from) (defScope s__law_whole_from) .none kV15 dc15 pm15 an15 cd15 ct15), sl15⟩) (c15 : PySem.W.codeIn K cd15 "_law_whole_from" = true) (k15 : PySem.W.keepIn K (.ref f15) = true)
    (a16 : PySem.W.nsIn K mainGlobals "_law_is_name" = some (some (.ref f16))) (l16 : K.lookup f16 = some ⟨oc16, od16, .func (PySem.W.fnOf "_law_is_name" "_law_is_name" (defArgs s__law_is_name) (defBody s__law_is_name) (defScope s__law_is_name) .none kV16 dc16 pm16 an16 cd16 ct16), sl16⟩) (c16 : PySem.W.codeIn K cd16 "_law_is_name" = true) (k16 : PySem.W.keepIn K (.ref f16) = true)
    (a17 : PySem.W.nsIn K mainGlobals "_law_is_tag" = some (some (.ref f17))) (l17 : K.lookup f17 = some ⟨oc17, od17, .func (PySem.W.fnOf "_law_is_tag" "_law_is_tag" (defArgs s__law_is_tag) (defBody s__law_is_tag) (defScope s__law_is_tag) .none kV17 dc17 pm17 an17 cd17 ct17), sl17⟩) (c17 : PySem.W.codeIn K cd17 "_law_is_tag" = true) (k17 : PySem.W.keepIn K (.ref f17) = true)
    (a18 : PySem.W.nsIn K mainGlobals "_law_is_entry" = some (some (.ref f18))) (l18 : K.lookup f18 = some ⟨oc18, od18, .func (PySem.W.fnOf "_law_is_entry" "_law_is_entry" (defArgs s__law_is_entry) (defBody s__law_is_entry) (defScope s__law_is_entry) .none kV18 dc18 pm18 an18 cd18 ct18), sl18⟩) (c18 : PySem.W.codeIn K cd18 "_law_is_entry" = true) (k18 : PySem.W.keepIn K (.ref f18) = true)
    (a19 : PySem.W.nsIn K mainGlobals "_law_is_block" = some (some (.ref f19))) (l19 : K.lookup f19 = some ⟨oc19, od19, .func (PySem.W.fnOf "_law_is_block" "_law_is_block" (defArgs s__law_is_block) (defBody s__law_is_block) (defScope s__law_is_block) .none kV19 dc19 pm19 an19 cd19 ct19), sl19⟩) (c19 : PySem.W.codeIn K cd19 "_law_is_block" = true) (k19 : PySem.W.keepIn K (.ref f19) = true)
    (a20 : PySem.W.nsIn K mainGlobals "_law_other" = some (some (.ref f20))) (l20 : K.lookup f20 = some ⟨oc20, od20, .func (PySem.W.fnOf "_law_other" "_law_other" (defArgs s__law_other) (defBody s__law_other) (defScope s__law_other) .none kV20 dc20 pm20 an20 cd20 ct20), sl20⟩) (c20 : PySem.W.codeIn K cd20 "_law_other" = true) (k20 : PySem.W.keepIn K (.ref f20) = true)
    (a21 : PySem.W.nsIn K mainGlobals "_law_bent" = some (some (.ref f21))) (l21 : K.lookup f21 = some ⟨oc21, od21, .func (PySem.W.fnOf "_law_bent" "_law_bent" (defArgs s__law_bent) (defBody s__law_bent) (defScope s__law_bent) .none kV21 dc21 pm21 an21 cd21 ct21), sl21⟩) (c21 : PySem.W.codeIn K cd21 "_law_bent" = true) (k21 : PySem.W.keepIn K (.ref f21) = true)
    (a22 : PySem.W.nsIn K mainGlobals "_law_copied" = some (some (.ref f22))) (l22 : K.lookup f22 = some ⟨oc22, od22, .func (PySem.W.fnOf "_law_copied" "_law_copied" (defArgs s__law_copied) (defBody s__law_copied) (defScope s__law_copied) .none kV22 dc22 pm22 an22 cd22 ct22), sl22⟩) (c22 : PySem.W.codeIn K cd22 "_law_copied" = true) (k22 : PySem.W.keepIn K (.ref f22) = true)
    (a23 : PySem.W.nsIn K mainGlobals "law" = some (some (.ref f23))) (l23 : K.lookup f23 = some ⟨oc23, od23, .func (PySem.W.fnOf "law" "law" (defArgs s_law) (defBody s_law) (defScope s_law) .none kV23 dc23 pm23 an23 cd23 ct23), sl23⟩) (c23 : PySem.W.codeIn K cd23 "law" = true) (k23 : PySem.W.keepIn K (.ref f23) = true)
    (z_all : PySem.W.nsIn K mainGlobals "all" = some none)
    (z_bool : PySem.W.nsIn K mainGlobals "bool" = some none)
    (z_int : PySem.W.nsIn K mainGlobals "int" = some none)
    (z_isinstance : PySem.W.nsIn K mainGlobals "isinstance" = some none)
    (z_len : PySem.W.nsIn K mainGlobals "len" = some none)
    (z_list : PySem.W.nsIn K mainGlobals "list" = some none)
    (z_max : PySem.W.nsIn K mainGlobals "max" = some none)
    (z_range : PySem.W.nsIn K mainGlobals "range" = some none)
    (z_set : PySem.W.nsIn K mainGlobals "set" = some none)
    (z_sorted : PySem.W.nsIn K mainGlobals "sorted" = some none)
    (z_str : PySem.W.nsIn K mainGlobals "str" = some none)
    (z_tuple : PySem.W.nsIn K mainGlobals "tuple" = some none)
    (w_SIGNS : PySem.W.nsIn K mainGlobals "SIGNS" = some (some (.str (PySem.Str.ofString " !\"#$&'()*+,-./0123456789:;<=>?@ABCDEFGHIJKLMNOPQRSTUVWXYZ[\\]^_`abcdefghijklmnopqrstuvwxyz{|}~") t_SIGNS)))
    (w_PIECE : PySem.W.nsIn K mainGlobals "PIECE" = some (some (.int 0 t_PIECE)))
    (w_ROW : PySem.W.nsIn K mainGlobals "ROW" = some (some (.int 1 t_ROW)))
    (w_FOLDER : PySem.W.nsIn K mainGlobals "FOLDER" = some (some (.int 2 t_FOLDER)))
    (w_FILE_ENTRY : PySem.W.nsIn K mainGlobals "FILE_ENTRY" = some (some (.int 1 t_FILE_ENTRY)))
    (w_FOLDER_ENTRY : PySem.W.nsIn K mainGlobals "FOLDER_ENTRY" = some (some (.int 2 t_FOLDER_ENTRY)))
    (w_NAME_SIGNS : PySem.W.nsIn K mainGlobals "NAME_SIGNS" = some (some (.str (PySem.Str.ofString "0123456789abcdefghijklmnopqrstuvwxyz") t_NAME_SIGNS)))
    (w_MOST_NAME_SIGNS : PySem.W.nsIn K mainGlobals "MOST_NAME_SIGNS" = some (some (.int 8 t_MOST_NAME_SIGNS)))
    (w_MOST_CELL : PySem.W.nsIn K mainGlobals "MOST_CELL" = some (some (.int 999999 t_MOST_CELL)))
    (w_MOST_BIRTH : PySem.W.nsIn K mainGlobals "MOST_BIRTH" = some (some (.int 999999999 t_MOST_BIRTH)))
    (w_SUM_RESTS : PySem.W.nsIn K mainGlobals "SUM_RESTS" = some (some (.int 997 t_SUM_RESTS)))
    (w_MOST_PIECE_SIGNS : PySem.W.nsIn K mainGlobals "MOST_PIECE_SIGNS" = some (some (.int 8 t_MOST_PIECE_SIGNS)))
    (w_MOST_LEVEL : PySem.W.nsIn K mainGlobals "MOST_LEVEL" = some (some (.int 9 t_MOST_LEVEL)))
    (w_MOST_TAGS : PySem.W.nsIn K mainGlobals "MOST_TAGS" = some (some (.int 8 t_MOST_TAGS)))
    (w_MOST_ENTRIES : PySem.W.nsIn K mainGlobals "MOST_ENTRIES" = some (some (.int 16 t_MOST_ENTRIES))) :
    ∃ fd : FuncData, (∀ (s : Shared) (v : Value), BindsTo s fd ⟨[v], []⟩ [("_law_script", v)]) ∧ ∀ base : Heap, K.In base → base.Ns mainGlobals mg → FnOk l.prog w K mg base CX0 22 fa fd ["_law_script"] (sp_law K) := by
  have e := hfa.symm.trans (PySem.W.mg_of X G a23)
  cases e
  have T : Txt K mg := ⟨PySem.W.mg_none_of X G z_all, PySem.W.mg_none_of X G z_bool, PySem.W.mg_none_of X G z_int, PySem.W.mg_none_of X G z_isinstance, PySem.W.mg_none_of X G z_len, PySem.W.mg_none_of X G z_list, PySem.W.mg_none_of X G z_max, PySem.W.mg_none_of X G z_range, PySem.W.mg_none_of X G z_set, PySem.W.mg_none_of X G z_sorted, PySem.W.mg_none_of X G z_str, PySem.W.mg_none_of X G z_tuple, ⟨_, PySem.W.mg_of X G w_SIGNS⟩, ⟨_, PySem.W.mg_of X G w_PIECE⟩, ⟨_, PySem.W.mg_of X G w_ROW⟩, ⟨_, PySem.W.mg_of X G w_FOLDER⟩, ⟨_, PySem.W.mg_of X G w_FILE_ENTRY⟩, ⟨_, PySem.W.mg_of X G w_FOLDER_ENTRY⟩, ⟨_, PySem.W.mg_of X G w_NAME_SIGNS⟩, ⟨_, PySem.W.mg_of X G w_MOST_NAME_SIGNS⟩, ⟨_, PySem.W.mg_of X G w_MOST_CELL⟩, ⟨_, PySem.W.mg_of X G w_MOST_BIRTH⟩, ⟨_, PySem.W.mg_of X G w_SUM_RESTS⟩, ⟨_, PySem.W.mg_of X G w_MOST_PIECE_SIGNS⟩, ⟨_, PySem.W.mg_of X G w_MOST_LEVEL⟩, ⟨_, PySem.W.mg_of X G w_MOST_TAGS⟩, ⟨_, PySem.W.mg_of X G w_MOST_ENTRIES⟩⟩
  have F0 := fun_mk (st := s_is_whole) l0 c0 k0
  have b0 := F0.binds (ps := ["thing"]) fun _ _ _ _ _ _ us hl => match us, hl with | [_], _ => rfl
  have F1 := fun_mk (st := s_is_between) l1 c1 k1
  have b1 := F1.binds (ps := ["thing", "least", "most"]) fun _ _ _ _ _ _ us hl => match us, hl with | [_, _, _], _ => rfl
  have F2 := fun_mk (st := s_is_tuple_of) l2 c2 k2
  have b2 := F2.binds (ps := ["thing", "many"]) fun _ _ _ _ _ _ us hl => match us, hl with | [_, _], _ => rfl
  have F3 := fun_mk (st := s_is_text) l3 c3 k3
  have b3 := F3.binds (ps := ["thing", "least", "most"]) fun _ _ _ _ _ _ us hl => match us, hl with | [_, _, _], _ => rfl
  have F4 := fun_mk (st := s_is_name) l4 c4 k4
  have b4 := F4.binds (ps := ["thing"]) fun _ _ _ _ _ _ us hl => match us, hl with | [_], _ => rfl
  have F5 := fun_mk (st := s_is_tag) l5 c5 k5
  have b5 := F5.binds (ps := ["thing"]) fun _ _ _ _ _ _ us hl => match us, hl with | [_], _ => rfl
  have F6 := fun_mk (st := s_is_block) l6 c6 k6
  have b6 := F6.binds (ps := ["thing"]) fun _ _ _ _ _ _ us hl => match us, hl with | [_], _ => rfl
  have F7 := fun_mk (st := s_are_row_tags) l7 c7 k7
  have b7 := F7.binds (ps := ["thing", "level"]) fun _ _ _ _ _ _ us hl => match us, hl with | [_, _], _ => rfl
  have F8 := fun_mk (st := s_are_entries) l8 c8 k8
  have b8 := F8.binds (ps := ["thing"]) fun _ _ _ _ _ _ us hl => match us, hl with | [_], _ => rfl
  have F9 := fun_mk (st := s_is_entry) l9 c9 k9
  have b9 := F9.binds (ps := ["thing"]) fun _ _ _ _ _ _ us hl => match us, hl with | [_], _ => rfl
  have F10 := fun_mk (st := s__law_numbers) l10 c10 k10
  have b10 := F10.binds (ps := ["_law_cell", "_law_many"]) fun _ _ _ _ _ _ us hl => match us, hl with | [_, _], _ => rfl
  have F11 := fun_mk (st := s__law_signs) l11 c11 k11
  have b11 := F11.binds (ps := []) fun _ _ _ _ _ _ us hl => match us, hl with | [], _ => rfl
  have F12 := fun_mk (st := s__law_tag) l12 c12 k12
  have b12 := F12.binds (ps := ["_law_number"]) fun _ _ _ _ _ _ us hl => match us, hl with | [_], _ => rfl
  have F13 := fun_mk (st := s__law_name) l13 c13 k13
  have b13 := F13.binds (ps := ["_law_number"]) fun _ _ _ _ _ _ us hl => match us, hl with | [_], _ => rfl
  have F14 := fun_mk (st := s__law_block) l14 c14 k14
  have b14 := F14.binds (ps := ["_law_some"]) fun _ _ _ _ _ _ us hl => match us, hl with | [_], _ => rfl
  have F15 := fun_mk (st := s__law_whole_from) l15 c15 k15
  have b15 := F15.binds (ps := ["_law_thing", "_law_least", "_law_most"]) fun _ _ _ _ _ _ us hl => match us, hl with | [_, _, _], _ => rfl
  have F16 := fun_mk (st := s__law_is_name) l16 c16 k16
  have b16 := F16.binds (ps := ["_law_thing"]) fun _ _ _ _ _ _ us hl => match us, hl with | [_], _ => rfl
  have F17 := fun_mk (st := s__law_is_tag) l17 c17 k17
  have b17 := F17.binds (ps := ["_law_thing"]) fun _ _ _ _ _ _ us hl => match us, hl with | [_], _ => rfl
  have F18 := fun_mk (st := s__law_is_entry) l18 c18 k18
  have b18 := F18.binds (ps := ["_law_thing"]) fun _ _ _ _ _ _ us hl => match us, hl with | [_], _ => rfl
  have F19 := fun_mk (st := s__law_is_block) l19 c19 k19
  have b19 := F19.binds (ps := ["_law_thing"]) fun _ _ _ _ _ _ us hl => match us, hl with | [_], _ => rfl
  have F20 := fun_mk (st := s__law_other) l20 c20 k20
  have b20 := F20.binds (ps := ["_law_some", "_law_thing"]) fun _ _ _ _ _ _ us hl => match us, hl with | [_, _], _ => rfl
  have F21 := fun_mk (st := s__law_bent) l21 c21 k21
  have b21 := F21.binds (ps := ["_law_thing", "_law_some", "_law_deep"]) fun _ _ _ _ _ _ us hl => match us, hl with | [_, _, _], _ => rfl
  have F22 := fun_mk (st := s__law_copied) l22 c22 k22
  have b22 := F22.binds (ps := ["_law_thing"]) fun _ _ _ _ _ _ us hl => match us, hl with | [_], _ => rfl
  have F23 := fun_mk (st := s_law) l23 c23 k23
  refine ⟨PySem.W.fnOf "law" "law" (defArgs s_law) (defBody s_law) (defScope s_law) .none kV23 dc23 pm23 an23 cd23 ct23, fun s v => .of_eq rfl, fun base _ _ => ?_⟩
  have D_is_whole : Def l.prog w K mg base 1 "is_whole" ["thing"] (sp_is_whole K) := ⟨_, _, ok_is_whole T F0 , PySem.W.mg_of X G a0, k0, b0⟩
  have D_is_tuple_of : Def l.prog w K mg base 1 "is_tuple_of" ["thing", "many"] (sp_is_tuple_of K) := ⟨_, _, ok_is_tuple_of T F2 , PySem.W.mg_of X G a2, k2, b2⟩
  have D_is_text : Def l.prog w K mg base 1 "is_text" ["thing", "least", "most"] (sp_is_text K) := ⟨_, _, ok_is_text T F3 , PySem.W.mg_of X G a3, k3, b3⟩
  have D__law_numbers : Def l.prog w K mg base 1 "_law_numbers" ["_law_cell", "_law_many"] (sp__law_numbers K) := ⟨_, _, ok__law_numbers T F10 , PySem.W.mg_of X G a10, k10, b10⟩
  have D__law_signs : Def l.prog w K mg base 1 "_law_signs" [] (sp__law_signs K) := ⟨_, _, ok__law_signs T F11 , PySem.W.mg_of X G a11, k11, b11⟩
  have D__law_tag : Def l.prog w K mg base 1 "_law_tag" ["_law_number"] (sp__law_tag K) := ⟨_, _, ok__law_tag T F12 , PySem.W.mg_of X G a12, k12, b12⟩
  have D__law_name : Def l.prog w K mg base 1 "_law_name" ["_law_number"] (sp__law_name K) := ⟨_, _, ok__law_name T F13 , PySem.W.mg_of X G a13, k13, b13⟩
  have D__law_whole_from : Def l.prog w K mg base 1 "_law_whole_from" ["_law_thing", "_law_least", "_law_most"] (sp__law_whole_from K) := ⟨_, _, ok__law_whole_from T F15 , PySem.W.mg_of X G a15, k15, b15⟩
  have D__law_is_name : Def l.prog w K mg base 1 "_law_is_name" ["_law_thing"] (sp__law_is_name K) := ⟨_, _, ok__law_is_name T F16 , PySem.W.mg_of X G a16, k16, b16⟩
  have D__law_other : Def l.prog w K mg base 1 "_law_other" ["_law_some", "_law_thing"] (sp__law_other K) := ⟨_, _, ok__law_other T F20 , PySem.W.mg_of X G a20, k20, b20⟩
  have D_is_between : Def l.prog w K mg base 2 "is_between" ["thing", "least", "most"] (sp_is_between K) := ⟨_, _, ok_is_between T F1 D_is_whole, PySem.W.mg_of X G a1, k1, b1⟩
  have D_is_name : Def l.prog w K mg base 2 "is_name" ["thing"] (sp_is_name K) := ⟨_, _, ok_is_name T F4 D_is_text, PySem.W.mg_of X G a4, k4, b4⟩
  have D__law_block : Def l.prog w K mg base 2 "_law_block" ["_law_some"] (sp__law_block K) := ⟨_, _, ok__law_block T F14 D__law_name D__law_tag D__law_signs, PySem.W.mg_of X G a14, k14, b14⟩
  have D__law_is_tag : Def l.prog w K mg base 2 "_law_is_tag" ["_law_thing"] (sp__law_is_tag K) := ⟨_, _, ok__law_is_tag T F17 D__law_whole_from, PySem.W.mg_of X G a17, k17, b17⟩
  have D_is_tag : Def l.prog w K mg base 3 "is_tag" ["thing"] (sp_is_tag K) := ⟨_, _, ok_is_tag T F5 D_is_between D_is_tuple_of, PySem.W.mg_of X G a5, k5, b5⟩
  have D__law_is_entry : Def l.prog w K mg base 3 "_law_is_entry" ["_law_thing"] (sp__law_is_entry K) := ⟨_, _, ok__law_is_entry T F18 D__law_whole_from D__law_is_tag D__law_is_name, PySem.W.mg_of X G a18, k18, b18⟩
  have D_are_row_tags : Def l.prog w K mg base 4 "are_row_tags" ["thing", "level"] (sp_are_row_tags K) := ⟨_, _, ok_are_row_tags T F7 D_is_tag, PySem.W.mg_of X G a7, k7, b7⟩
  have D_is_entry : Def l.prog w K mg base 4 "is_entry" ["thing"] (sp_is_entry K) := ⟨_, _, ok_is_entry T F9 D_is_between D_is_tag D_is_tuple_of D_is_name, PySem.W.mg_of X G a9, k9, b9⟩
  have D__law_is_block : Def l.prog w K mg base 4 "_law_is_block" ["_law_thing"] (sp__law_is_block K) := ⟨_, _, ok__law_is_block T F19 D__law_whole_from D__law_is_entry D__law_signs D__law_is_tag, PySem.W.mg_of X G a19, k19, b19⟩
  have D_are_entries : Def l.prog w K mg base 5 "are_entries" ["thing"] (sp_are_entries K) := ⟨_, _, ok_are_entries T F8 D_is_entry, PySem.W.mg_of X G a8, k8, b8⟩
  have D_is_block : Def l.prog w K mg base 6 "is_block" ["thing"] (sp_is_block K) := ⟨_, _, ok_is_block T F6 D_are_entries D_is_whole D_is_text D_is_between D_are_row_tags, PySem.W.mg_of X G a6, k6, b6⟩
  have D__law_bent : Def l.prog w K mg base 9 "_law_bent" ["_law_thing", "_law_some", "_law_deep"] (sp__law_bent K) := ⟨_, _, ok__law_bent T F21 D__law_other (PySem.W.mg_of X G a21) k21 b21, PySem.W.mg_of X G a21, k21, b21⟩
  have D__law_copied : Def l.prog w K mg base 21 "_law_copied" ["_law_thing"] (sp__law_copied K) := ⟨_, _, ok__law_copied T F22  (PySem.W.mg_of X G a22) k22 b22, PySem.W.mg_of X G a22, k22, b22⟩
  exact ok_law T F23 D__law_numbers D__law_block D__law_copied D_is_block D__law_bent D__law_is_block
theorem walk {l : PySem.W.OpenLaw} {q : Program} {loose : List Str} {XP : (Str → Option Value) → Heap → Prop} {YP : World → Heap → Prop} {d : DefRec} {K : Params → PySem.W.Frag} (hn : l.most = some 63) (hdf : d.params.defaults = [])
    (hY : ∀ (w : World) (h : Heap), YP w h → (K w.params).In h)
    (F : ∀ (w : World) (mg : Str → Option Value) (fa : Addr) (h : Heap), (K w.params).In h → h.Ns mainGlobals mg → mg d.name = some (.ref fa) →
      ∃ fd : FuncData, (∀ (s : Shared) (u : Value), BindsTo s fd ⟨[u], []⟩ [("_law_script", u)]) ∧ ∀ base : Heap, (K w.params).In base → base.Ns mainGlobals mg → FnOk l.prog w (K w.params) mg base CX0 22 fa fd ["_law_script"] (sp_law (K w.params))) :
    PySem.W.WalkO q loose XP YP l.row.toRowW d [] (fun f vs => PySem.call f vs) :=
  L2.walk_of (n := 63) (k := 22) (x := "_law_script") (CX := fun _ => CX0) (sp := fun w => sp_law (K w.params)) hn (by decide) hdf ⟨rfl, by decide, by decide⟩ hY F (fun _ _ a ns hl _ hS => ⟨a, ns, rfl, hS, hl, fun _ => rfl⟩) fun _ _ _ _ _ z => z
end K12
open PySem PySem.W PyProof.Rows
set_option maxRecDepth 100000 in
set_option maxHeartbeats 0 in
theorem PySem.Challenge.cw_stemshelf_k12_what_is_a_block_holds : PySem.Challenge.rw_stemshelf_k12_what_is_a_block.Holds := by
  w_on; o_law; k_head; (case hw => w_witness2)
  k_fill
  refine K12.walk (l := PySem.Challenge.rw_stemshelf_k12_what_is_a_block) rfl rfl (fun w h Y => PySem.W.kIn_of Y) ?F
  case F =>
    intro w mg fa h KX G hmg
    refine' K12.all_mk KX G hmg ?a0 ?l0 ?c0 ?k0 ?a1 ?l1 ?c1 ?k1 ?a2 ?l2 ?c2 ?k2 ?a3 ?l3 ?c3 ?k3 ?a4 ?l4 ?c4 ?k4 ?a5 ?l5 ?c5 ?k5 ?a6 ?l6 ?c6 ?k6 ?a7 ?l7 ?c7 ?k7 ?a8 ?l8 ?c8 ?k8 ?a9 ?l9 ?c9 ?k9 ?a10 ?l10 ?c10 ?k10 ?a11 ?l11 ?c11 ?k11 ?a12 ?l12 ?c12 ?k12 ?a13 ?l13 ?c13 ?k13 ?a14 ?l14 ?c14 ?k14 ?a15 ?l15 ?c15 ?k15 ?a16 ?l16 ?c16 ?k16 ?a17 ?l17 ?c17 ?k17 ?a18 ?l18 ?c18 ?k18 ?a19 ?l19 ?c19 ?k19 ?a20 ?l20 ?c20 ?k20 ?a21 ?l21 ?c21 ?k21 ?a22 ?l22 ?c22 ?k22 ?a23 ?l23 ?c23 ?k23 ?z_all ?z_bool ?z_int ?z_isinstance ?z_len ?z_list ?z_max ?z_range ?z_set ?z_sorted ?z_str ?z_tuple ?w_SIGNS ?w_PIECE ?w_ROW ?w_FOLDER ?w_FILE_ENTRY ?w_FOLDER_ENTRY ?w_NAME_SIGNS ?w_MOST_NAME_SIGNS ?w_MOST_CELL ?w_MOST_BIRTH ?w_SUM_RESTS ?w_MOST_PIECE_SIGNS ?w_MOST_LEVEL ?w_MOST_TAGS ?w_MOST_ENTRIES
    (case a0 => k_is)
    (case l0 => k_is)
    (case c0 => k_is)
    (case k0 => k_is)
    (case a1 => k_is)
    (case l1 => k_is)
    (case c1 => k_is)
    (case k1 => k_is)
    (case a2 => k_is)
    (case l2 => k_is)
    (case c2 => k_is)
    (case k2 => k_is)
    (case a3 => k_is)
    (case l3 => k_is)
    (case c3 => k_is)
    (case k3 => k_is)
    (case a4 => k_is)
    (case l4 => k_is)
    (case c4 => k_is)
    (case k4 => k_is)
    (case a5 => k_is)
    (case l5 => k_is)
    (case c5 => k_is)
    (case k5 => k_is)
    (case a6 => k_is)
    (case l6 => k_is)
    (case c6 => k_is)
    (case k6 => k_is)
    (case a7 => k_is)
    (case l7 => k_is)
    (case c7 => k_is)
    (case k7 => k_is)
    (case a8 => k_is)
    (case l8 => k_is)
    (case c8 => k_is)
    (case k8 => k_is)
    (case a9 => k_is)
    (case l9 => k_is)
    (case c9 => k_is)
    (case k9 => k_is)
    (case a10 => k_is)
    (case l10 => k_is)
    (case c10 => k_is)
    (case k10 => k_is)
    (case a11 => k_is)
    (case l11 => k_is)
    (case c11 => k_is)
    (case k11 => k_is)
    (case a12 => k_is)
    (case l12 => k_is)
    (case c12 => k_is)
    (case k12 => k_is)
    (case a13 => k_is)
    (case l13 => k_is)
    (case c13 => k_is)
    (case k13 => k_is)
    (case a14 => k_is)
    (case l14 => k_is)
    (case c14 => k_is)
    (case k14 => k_is)
    (case a15 => k_is)
    (case l15 => k_is)
    (case c15 => k_is)
    (case k15 => k_is)
    (case a16 => k_is)
    (case l16 => k_is)
    (case c16 => k_is)
    (case k16 => k_is)
    (case a17 => k_is)
    (case l17 => k_is)
    (case c17 => k_is)
    (case k17 => k_is)
    (case a18 => k_is)
    (case l18 => k_is)
    (case c18 => k_is)
    (case k18 => k_is)
    (case a19 => k_is)
    (case l19 => k_is)
    (case c19 => k_is)
    (case k19 => k_is)
    (case a20 => k_is)
    (case l20 => k_is)
    (case c20 => k_is)
    (case k20 => k_is)
    (case a21 => k_is)
    (case l21 => k_is)
    (case c21 => k_is)
    (case k21 => k_is)
    (case a22 => k_is)
    (case l22 => k_is)
    (case c22 => k_is)
    (case k22 => k_is)
    (case a23 => k_is)
    (case l23 => k_is)
    (case c23 => k_is)
    (case k23 => k_is)
    (case z_all => k_is)
    (case z_bool => k_is)
    (case z_int => k_is)
    (case z_isinstance => k_is)
    (case z_len => k_is)
    (case z_list => k_is)
    (case z_max => k_is)
    (case z_range => k_is)
    (case z_set => k_is)
    (case z_sorted => k_is)
    (case z_str => k_is)
    (case z_tuple => k_is)
    (case w_SIGNS => k_is)
    (case w_PIECE => k_is)
    (case w_ROW => k_is)
    (case w_FOLDER => k_is)
    (case w_FILE_ENTRY => k_is)
    (case w_FOLDER_ENTRY => k_is)
    (case w_NAME_SIGNS => k_is)
    (case w_MOST_NAME_SIGNS => k_is)
    (case w_MOST_CELL => k_is)
    (case w_MOST_BIRTH => k_is)
    (case w_SUM_RESTS => k_is)
    (case w_MOST_PIECE_SIGNS => k_is)
    (case w_MOST_LEVEL => k_is)
    (case w_MOST_TAGS => k_is)
    (case w_MOST_ENTRIES => k_is)
