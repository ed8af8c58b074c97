import PyProof.Rows.All
import Wide.All
import OpenK.AllK
import Wide.FinOn
import Lean
import PyProof.EqAt
import PyProof.EqKinds
import PyProof.NeKinds
import PyProof.TupleCall
import PyProof.CollectStr
import PyProof.FactsAll.tuple
import PyProof.TupleIter
import PyProof.StrLawsIn
import PyProof.Rows.SetFrom
import PyProof.Rows.MinMaxN
import PySem.Challenge.RW_tastegrove_k07_whole_patterns_put_togeth
set_option Elab.async false
set_option linter.all false
set_option maxRecDepth 100000
namespace L2
open PySem PySem.Spec PyProof.Rows

/-- a key: an int or a str -/
abbrev Key := Sum Int Str
def keyIs : Key → Value → Bool
  | .inl k, v => Value.isInt k v
  | .inr x, v => Value.isStrOf x v
def keyH (w : World) : Key → Int
  | .inl k => hashInt k
  | .inr x => hashStr w x
theorem keyIs_shape : ∀ {k : Key} {v : Value}, keyIs k v = true → (∃ i t, k = Sum.inl i ∧ v = Value.int i t) ∨ (∃ x t, k = Sum.inr x ∧ v = Value.str x t)
  | .inl i, v, h => by
    obtain ⟨t, e⟩ := Value.isInt_shape (k := i) (v := v) h
    exact .inl ⟨i, t, rfl, e⟩
  | .inr x, v, h => by
    obtain ⟨t, e⟩ := Value.isStrOf_shape (x := x) (v := v) h
    exact .inr ⟨x, t, rfl, e⟩
theorem key_ll (a b : Int) : decide ((Sum.inl a : Key) = Sum.inl b) = (a == b) := by
  by_cases e : a = b
  · subst e; simp
  · have h : ¬ (Sum.inl a : Key) = Sum.inl b := fun q => e (Sum.inl.inj q)
    rw [decide_eq_false h]
    exact (beq_eq_false_iff_ne.mpr e).symm
theorem key_rr (a b : Str) : decide ((Sum.inr a : Key) = Sum.inr b) = decide (a = b) := by
  by_cases e : a = b
  · subst e; simp
  · have h : ¬ (Sum.inr a : Key) = Sum.inr b := fun q => e (Sum.inr.inj q)
    rw [decide_eq_false h, decide_eq_false e]
theorem key_lr (a : Int) (b : Str) : decide ((Sum.inl a : Key) = Sum.inr b) = false := decide_eq_false (fun q => nomatch q)
theorem key_rl (a : Str) (b : Int) : decide ((Sum.inr a : Key) = Sum.inl b) = false := decide_eq_false (fun q => nomatch q)

def mixKind (prog : Program) (w : World) : PySem.KeyKind prog w Key where
  is := keyIs
  hash := keyH w
  inj := fun v a b ha hb => by
    rcases keyIs_shape ha with ⟨i, t, rfl, rfl⟩ | ⟨x, t, rfl, rfl⟩
    · rcases keyIs_shape hb with ⟨j, u, rfl, e⟩ | ⟨y, u, rfl, e⟩
      · injection e with e1 _; rw [e1]
      · exact nomatch e
    · rcases keyIs_shape hb with ⟨j, u, rfl, e⟩ | ⟨y, u, rfl, e⟩
      · exact nomatch e
      · injection e with e1 _; rw [e1]
  byValue := fun k v h => by
    rcases keyIs_shape h with ⟨i, t, rfl, rfl⟩ | ⟨x, t, rfl, rfl⟩ <;> rfl
  pyHash := fun hv h => by
    rcases keyIs_shape hv with ⟨i, t, rfl, rfl⟩ | ⟨x, t, rfl, rfl⟩
    · exact wpAny_pyHash_int h
    · exact wpAny_pyHash_str h
  eqBool := fun hu hv h => by
    rcases keyIs_shape hu with ⟨i, t, rfl, rfl⟩ | ⟨x, t, rfl, rfl⟩
    · rcases keyIs_shape hv with ⟨j, u, rfl, rfl⟩ | ⟨y, u, rfl, rfl⟩
      · rw [key_ll] at h; exact wpAny_eqBool_int h
      · rw [key_lr] at h; exact SeqAt.EqAt.int_str i t y u _ _ _ _ h
    · rcases keyIs_shape hv with ⟨j, u, rfl, rfl⟩ | ⟨y, u, rfl, rfl⟩
      · rw [key_rl] at h; exact SeqAt.EqAt.str_int x t j u _ _ _ _ h
      · rw [key_rr] at h; exact wpAny_eqBool_str h
  «strs» := fun k x t v h => by
    rcases keyIs_shape h with ⟨i, u, rfl, e⟩ | ⟨y, u, rfl, e⟩
    · exact nomatch e
    · injection e with e1 _
      subst e1
      cases v <;> rfl

end L2

namespace L2
open PySem PySem.Spec PyProof.Rows

/-- a value, without the heap -/
inductive V where
  | non | bl (b : Bool) | int (i : Int) | str (x : Str) | byt (b : Array UInt8) | flt (b : UInt64) | ref (a : Addr) | ty (n : String)
  deriving DecidableEq

def RelV : V → Value → Prop
  | .non, u => u = Value.none
  | .bl b, u => u = Value.bool b
  | .int i, u => ∃ t, u = Value.int i t
  | .str x, u => ∃ t, u = Value.str x t
  | .byt b, u => ∃ t, u = Value.bytes b t
  | .flt b, u => ∃ t, u = Value.float b t
  | .ref a, u => u = Value.ref a
  | .ty n, u => u = Value.type n

abbrev Vals : List V → List Value → Prop := Paired RelV
theorem Vals.length {xs : List V} {us : List Value} (r : Vals xs us) : xs.length = us.length := Paired.length r
theorem Vals.get : ∀ {xs : List V} {us : List Value} {i : Nat} {x : V}, Vals xs us → xs[i]? = some x → ∃ u, us[i]? = some u ∧ RelV x u
  | _, _, _, _, .nil, e => by simp at e
  | _, _, 0, _, .cons r _, e => by simp at e; subst e; exact ⟨_, rfl, r⟩
  | _, _, i + 1, x, .cons _ t, e => by
    obtain ⟨u, h1, h2⟩ := Vals.get (i := i) (x := x) t (by simpa using e)
    exact ⟨u, by simpa using h1, h2⟩
theorem Vals.set {x : V} {u : Value} (r : RelV x u) : ∀ {xs : List V} {us : List Value} (i : Nat), Vals xs us → Vals (xs.set i x) (us.set i u)
  | _, _, _, .nil => .nil
  | _, _, 0, .cons _ t => .cons r t
  | _, _, i + 1, .cons q t => .cons q (Vals.set r i t)
theorem Vals.append : ∀ {xs ys : List V} {us ws : List Value}, Vals xs us → Vals ys ws → Vals (xs ++ ys) (us ++ ws)
  | _, _, _, _, .nil, s => s
  | _, _, _, _, .cons r t, s => .cons r (Vals.append t s)
theorem Vals.take : ∀ {xs : List V} {us : List Value} (n : Nat), Vals xs us → Vals (xs.take n) (us.take n)
  | _, _, 0, _ => .nil
  | _, _, _ + 1, .nil => .nil
  | _, _, n + 1, .cons r t => .cons r (Vals.take n t)
theorem Vals.drop : ∀ {xs : List V} {us : List Value} (n : Nat), Vals xs us → Vals (xs.drop n) (us.drop n)
  | _, _, 0, r => r
  | _, _, _ + 1, .nil => .nil
  | _, _, n + 1, .cons _ t => Vals.drop n t

def RelO : Option V → Option Value → Prop
  | some v, some u => RelV v u
  | none, none => True
  | _, _ => False
def KV {κ : Type} : List (κ × V) → List (κ × Value) → Prop := Paired fun (p : κ × V) (q : κ × Value) => p.1 = q.1 ∧ RelV p.2 q.2

/-- a key of a dict (00_mix): an int or a text -/
def kV : Key → V
  | .inl i => .int i
  | .inr x => .str x

/-- what stands at a tracked address -/
inductive HO where
  /-- a list -/
  | lst (xs : List V)
  /-- a tuple (never changes) -/
  | tup (xs : List V)
  /-- a dict whose keys are ints and texts; one whose keys are tuples of ints and texts (the empty one is both) -/
  | dK (kvs : List (Key × V)) | dT (kvs : List (List Key × V))
  /-- a set of ints: its members, its size -/
  | set (S : Int → Bool) (n : Nat)
  /-- an instance of the class at C, its dict at dx, its attributes -/
  | ins (C dx : Addr) (fs : List (Str × V))
  /-- the dict of the instance at x -/
  | own (x : Addr)
  /-- the dict of an exception -/
  | xd (fs : List (Str × V))
  /-- a bound method, f of x -/
  | met (f x : Addr)
  /-- a range object lo, lo + 1, .. below hi -/
  | rng (lo hi : Int)
  /-- a thing that is known to the object (the script; a dict while a loop walks it): read, never written while it is so -/
  | frz (o : Obj) (u : HO)
  /-- a code object's table -/
  | tbl (ps : Array Value)
  /-- any other thing, by what is true of its one object (a def of one's own: SetO a S n := HO.ext fun h => ..) -/
  | ext (φ : Heap → Prop)

abbrev Hp := Addr → Option HO
def upd (H : Hp) (a : Addr) (o : HO) : Hp := fun b => if b = a then some o else H b
theorem upd_same {H : Hp} {a : Addr} {o : HO} : upd H a o a = some o := by unfold upd; rw [if_pos rfl]
theorem upd_ne {H : Hp} {a b : Addr} {o : HO} (h : b ≠ a) : upd H a o b = H b := by unfold upd; rw [if_neg h]
theorem ne_of_none {H : Hp} {a b : Addr} {o : HO} (h : H a = some o) (h' : H b = none) : a ≠ b := by
  intro e; subst e; rw [h] at h'; cases h'

section
variable (P : Program) (w : World)
def ObjOk (H : Hp) (h : Heap) (a : Addr) : HO → Prop
  | .lst xs => xs.length ≤ sizeLine ∧ ∃ (its : List Value) (n : Nat), Vals xs its ∧ h.get? a = some { cls := .type "list", data := .seq its.toArray n }
  | .tup xs => xs.length ≤ sizeLine ∧ ∃ its : List Value, Vals xs its ∧ IsTup h a its.toArray
  | .dK kvs => kvs.length ≤ sizeLine ∧ (a == sysModules) = false ∧ ∃ vs, KV kvs vs ∧ h.DictOf (mixKind P w) a vs
  | .dT kvs => kvs.length ≤ sizeLine ∧ (a == sysModules) = false ∧ ∃ xs : List (List Key × Addr × Value),
      Paired (fun (p : List Key × V) (q : List Key × Addr × Value) => p.1 = q.1 ∧ H q.2.1 = some (.tup (p.1.map kV)) ∧ RelV p.2 q.2.2) kvs xs ∧
      ∃ o es ep, h.get? a = some o ∧ o.ExactDict ∧ o.data = .dict es ep ∧ es.toList = xs.map (entryOfKey (tupleKind (mixKind P w))) ∧ (xs.map (·.1)).Nodup
  | .set S n => h.SetOf (intKind P w) a S n
  | .ins C dx fs => H dx = some (.own a) ∧ fs.length ≤ 1000 ∧ dx ≠ a ∧ h.get? a = some (PySem.W.instObj C dx) ∧
      ∃ mA, h.Ns1 dx mA ∧ (∀ f, RelO (fs.lookup f) (mA f)) ∧ PySem.Within mA (fs.map (·.1))
  | .own _ => ∃ o, h.get? a = some o
  | .xd fs => ∃ mA, h.Ns1 a mA ∧ ∀ f, RelO (fs.lookup f) (mA f)
  | .rng lo hi => ∃ t u v, h.get? a = some { cls := .type "range", data := .fields #[.int lo t, .int hi u, .int 1 v] }
  | .frz o u => h.get? a = some o ∧ ObjOk H h a u
  | .tbl ps => h.get? a = some { cls := .none, data := .fields ps }
  | .met f x => h.get? a = some (PySem.W.methodObj (.ref f) (.ref x))
  | .ext φ => φ h ∧ (∃ o, h.get? a = some o) ∧ ∀ h1 h2 : Heap, φ h1 → (∀ o, h1.get? a = some o → h2.get? a = some o) → φ h2
/-- the abstract heap is held -/
def HOk (H : Hp) (h : Heap) : Prop := ∀ a o, H a = some o → ObjOk P w H h a o
end

section
variable {P : Program} {w : World} {H H' : Hp} {h h' : Heap} {a : Addr} {o : HO}
theorem ObjOk.lt (x : ObjOk P w H h a o) : a < h.objs.size := by
  cases o with
  | lst xs => obtain ⟨_, _, _, _, e⟩ := x; exact Heap.lt_size e
  | tup xs => obtain ⟨_, _, _, p⟩ := x; exact p.lt
  | dK kvs => obtain ⟨_, _, _, _, o, _, _, e, _⟩ := x; exact Heap.lt_size e
  | dT kvs => obtain ⟨_, _, _, _, o, _, _, e, _⟩ := x; exact Heap.lt_size e
  | set S n => obtain ⟨o, _, _, _, e, _⟩ := x; exact Heap.lt_size e
  | ins C dx fs => obtain ⟨_, _, _, e, _⟩ := x; exact Heap.lt_size e
  | own y => obtain ⟨_, e⟩ := x; exact Heap.lt_size e
  | xd fs => obtain ⟨_, ⟨_, _, _, e, _⟩, _⟩ := x; exact Heap.lt_size e
  | rng lo hi => obtain ⟨_, _, _, e⟩ := x; exact Heap.lt_size e
  | frz ob u => obtain ⟨e, _⟩ := x; exact Heap.lt_size e
  | tbl ps => exact Heap.lt_size (show h.get? a = some _ from x)
  | met f y => exact Heap.lt_size (show h.get? a = some _ from x)
  | ext φ => obtain ⟨_, ⟨_, e⟩, _⟩ := x; exact Heap.lt_size e
theorem Paired.mapP {α β : Type} {F G : α → β → Prop} : ∀ {l₁ : List α} {l₂ : List β}, Paired F l₁ l₂ → (∀ a b, F a b → G a b) → Paired G l₁ l₂
  | _, _, .nil, _ => .nil
  | _, _, .cons r t, f => .cons (f _ _ r) (Paired.mapP t f)
/-- what an object's description leans on: its own object, its own dict, the tuples -/
theorem ObjOk.stay (x : ObjOk P w H h a o) (k : ∀ b u, (b = a ∨ H b = some (.own a)) → h.get? b = some u → h'.get? b = some u)
    (ho : ∀ b, H b = some (.own a) → H' b = some (.own a)) (ht : ∀ b xs, H b = some (.tup xs) → H' b = some (.tup xs)) : ObjOk P w H' h' a o := by
  induction o with
  | lst xs => obtain ⟨z, its, n, r, e⟩ := x; exact ⟨z, its, n, r, k _ _ (.inl rfl) e⟩
  | tup xs => obtain ⟨z, its, r, ob, e, c⟩ := x; exact ⟨z, its, r, ob, k _ _ (.inl rfl) e, c⟩
  | dK kvs => obtain ⟨z, y, vs, r, ob, es, ep, e, c⟩ := x; exact ⟨z, y, vs, r, ob, es, ep, k _ _ (.inl rfl) e, c⟩
  | dT kvs =>
    obtain ⟨z, y, xs, r, ob, es, ep, e, c⟩ := x
    exact ⟨z, y, xs, Paired.mapP r fun p q z => ⟨z.1, ht _ _ z.2.1, z.2.2⟩, ob, es, ep, k _ _ (.inl rfl) e, c⟩
  | set S n => obtain ⟨ob, es, ep, t, e, c⟩ := x; exact ⟨ob, es, ep, t, k _ _ (.inl rfl) e, c⟩
  | ins C dx fs =>
    obtain ⟨d, z, ne, e, mA, ⟨od, es, ep, e2, c⟩, r⟩ := x
    exact ⟨ho _ d, z, ne, k _ _ (.inl rfl) e, mA, ⟨od, es, ep, k _ _ (.inr d) e2, c⟩, r⟩
  | own y => obtain ⟨ob, e⟩ := x; exact ⟨ob, k _ _ (.inl rfl) e⟩
  | xd fs => obtain ⟨mA, ⟨od, es, ep, e, c⟩, r⟩ := x; exact ⟨mA, ⟨od, es, ep, k _ _ (.inl rfl) e, c⟩, r⟩
  | rng lo hi => obtain ⟨t, u, v, e⟩ := x; exact ⟨t, u, v, k _ _ (.inl rfl) e⟩
  | frz ob u ih => obtain ⟨e, q⟩ := x; exact ⟨k _ _ (.inl rfl) e, ih q⟩
  | tbl ps =>
    have e : h.get? a = some { cls := .none, data := .fields ps } := x
    show h'.get? a = some { cls := .none, data := .fields ps }
    exact k a _ (.inl rfl) e
  | met f y =>
    have e : h.get? a = some (PySem.W.methodObj (.ref f) (.ref y)) := x
    show h'.get? a = some (PySem.W.methodObj (.ref f) (.ref y))
    exact k a _ (.inl rfl) e
  | ext φ => obtain ⟨p, ⟨o, e⟩, st⟩ := x; exact ⟨st _ _ p fun o q => k _ _ (.inl rfl) q, ⟨o, k _ _ (.inl rfl) e⟩, st⟩
theorem HOk.lt (x : HOk P w H h) (e : H a = some o) : a < h.objs.size := (x a o e).lt
theorem HOk.fresh (x : HOk P w H h) (e : h.objs.size ≤ a) : H a = none := by
  cases q : H a with
  | none => rfl
  | some u => exact absurd (Nat.lt_of_lt_of_le (x.lt q) e) (Nat.lt_irrefl _)
/-- every object of the heap is kept -/
theorem HOk.kept (x : HOk P w H h) (k : ∀ b u, h.get? b = some u → h'.get? b = some u) : HOk P w H h' := fun a o e =>
  (x a o e).stay (fun b u _ q => k b u q) (fun _ q => q) fun _ _ q => q
/-- a new object is laid and tracked -/
theorem HOk.laid (x : HOk P w H h) (k : ∀ b u, h.get? b = some u → h'.get? b = some u) (hp : h.objs.size ≤ a) (new : ObjOk P w (upd H a o) h' a o) : HOk P w (upd H a o) h' := fun b u e => by
  have hn := x.fresh hp
  by_cases hb : b = a
  · subst hb; rw [upd_same] at e; cases e; exact new
  · rw [upd_ne hb] at e
    exact (x b u e).stay (fun c v _ q => k c v q) (fun c q => by rw [upd_ne (ne_of_none q hn)]; exact q) fun c xs q => by rw [upd_ne (ne_of_none q hn)]; exact q
end

/-- what may be read as u: it is u, or a known u -/
def Rd (H : Hp) (a : Addr) (u : HO) : Prop := H a = some u ∨ ∃ o, H a = some (.frz o u)
theorem Rd.ok {P : Program} {w : World} {H : Hp} {h : Heap} {a : Addr} {u : HO} (r : Rd H a u) (x : HOk P w H h) : ObjOk P w H h a u := by
  rcases r with r | ⟨o, r⟩
  · exact x a u r
  · obtain ⟨_, q⟩ := x a _ r
    exact q
/-- what may be written -/
def Mut : Option HO → Prop
  | some (.lst _) => True
  | some (.dK _) => True
  | some (.dT _) => True
  | some (.set _ _) => True
  | some (.ins _ _ _) => True
  | some (.ext _) => True
  | _ => False
section
variable {P : Program} {w : World} {H : Hp} {h h' : Heap} {x e : Addr} {o' : HO}
/-- the object at e is changed: x itself, or the dict of the instance x -/
theorem HOk.write (ok : HOk P w H h) (mu : Mut (H x)) (he : e = x ∨ H e = some (.own x)) (k : ∀ b u, b ≠ e → h.get? b = some u → h'.get? b = some u) (heo : ∃ u, h'.get? e = some u)
    (new : ObjOk P w (upd H x o') h' x o') : HOk P w (upd H x o') h' := fun b u q => by
  have nown : ∀ c y, H c = some (.own y) → c ≠ x := fun c y r z => by subst z; rw [r] at mu; exact mu
  have ntup : ∀ c xs, H c = some (.tup xs) → c ≠ x := fun c xs r z => by subst z; rw [r] at mu; exact mu
  by_cases hb : b = x
  · subst hb; rw [upd_same] at q; cases q; exact new
  · rw [upd_ne hb] at q
    by_cases hbe : b = e
    · have q' : H b = some (.own x) := by
        rcases he with z | z
        · exact absurd (hbe.trans z) hb
        · rw [hbe]; exact z
      rw [q] at q'; cases q'
      obtain ⟨v, hv⟩ := heo
      exact ⟨v, by rw [hbe]; exact hv⟩
    · refine (ok b u q).stay (fun c v hc r => k c v ?_ r) (fun c r => by rw [upd_ne (nown c b r)]; exact r) fun c xs r => by rw [upd_ne (ntup c xs r)]; exact r
      rcases hc with rfl | hc
      · exact hbe
      · rintro rfl
        rcases he with z | z
        · exact nown c b hc z
        · rw [hc] at z; cases z; exact hb rfl
end

structure Un (fs ex : List Addr) (H H' : Hp) (h h' : Heap) : Prop where
  keep : ∀ b o, h.get? b = some o → H b = none → b ∉ fs → b ∉ ex → h'.get? b = some o
  slot : ∀ b o, h.get? b = some o → H b = none → b ∈ fs → b ∉ ex → ∃ sl, h'.get? b = some { o with slots := sl }
  free : ∀ b o, h.get? b = some o → H b = none → b ∉ ex → H' b = none
  there : ∀ b o, h.get? b = some o → b ∉ ex → ∃ o', h'.get? b = some o'
  tups : ∀ b xs, H b = some (.tup xs) → H' b = some (.tup xs)
  frzs : ∀ b o u, H b = some (.frz o u) → H' b = some (.frz o u)
  tbls : ∀ b ps, H b = some (.tbl ps) → ∃ more, H' b = some (.tbl (ps ++ more))
section
variable {fs fs' ex ex' : List Addr} {H H1 H2 : Hp} {h h1 h2 h' : Heap} {a x e : Addr} {o : HO}
theorem Un.any (u : Un fs ex H H1 h h1) {b : Addr} {ob : Obj} (q : h.get? b = some ob) (n : H b = none) (hx : b ∉ ex) : ∃ sl, h1.get? b = some { ob with slots := sl } := by
  by_cases hb : b ∈ fs
  · exact u.slot b ob q n hb hx
  · exact ⟨ob.slots, u.keep b ob q n hb hx⟩
theorem Un.kept (k : ∀ b u, h.get? b = some u → h'.get? b = some u) : Un fs ex H H h h' :=
  ⟨fun b ob q _ _ _ => k b ob q, fun b ob q _ _ _ => ⟨ob.slots, k b ob q⟩, fun _ _ _ n _ => n, fun b ob q _ => ⟨ob, k b ob q⟩, fun _ _ q => q, fun _ _ _ q => q, fun _ ps q => ⟨#[], by rw [q]; simp⟩⟩
theorem Un.refl : Un fs ex H H h h := Un.kept fun _ _ q => q
theorem Un.laid (k : ∀ b u, h.get? b = some u → h'.get? b = some u) (hp : h.objs.size ≤ a) (hn : H a = none) : Un fs ex H (upd H a o) h h' where
  keep := fun b u q _ _ _ => k b u q
  slot := fun b u q _ _ _ => ⟨u.slots, k b u q⟩
  free := fun b u q n _ => by rw [upd_ne (Nat.ne_of_lt (Nat.lt_of_lt_of_le (Heap.lt_size q) hp))]; exact n
  there := fun b u q _ => ⟨u, k b u q⟩
  tups := fun b xs q => by rw [upd_ne (ne_of_none q hn)]; exact q
  frzs := fun b u xs q => by rw [upd_ne (ne_of_none q hn)]; exact q
  tbls := fun b ps q => ⟨#[], by rw [upd_ne (ne_of_none q hn), q]; simp⟩
theorem Un.write (mu : Mut (H x)) (he : e = x ∨ H e = some (.own x)) (k : ∀ b u, b ≠ e → h.get? b = some u → h'.get? b = some u) (heo : ∃ u, h'.get? e = some u) : Un fs ex H (upd H x o) h h' := by
  have hx : ∀ b, H b = none → b ≠ x := fun b n z => by subst z; rw [n] at mu; exact mu
  have hb : ∀ b, H b = none → b ≠ e := fun b n z => by
    subst z
    rcases he with r | r
    · exact hx b n r
    · rw [n] at r; cases r
  have hm : ∀ b u, H b = some u → ¬ Mut (some u) → b ≠ x := fun b u q nm z => by subst z; rw [q] at mu; exact nm mu
  refine ⟨fun b u q n _ _ => k b u (hb b n) q, fun b u q n _ _ => ⟨u.slots, k b u (hb b n) q⟩, fun b u q n _ => by rw [upd_ne (hx b n)]; exact n, fun b u q _ => ?_,
    fun b xs q => by rw [upd_ne (hm b _ q fun z => z)]; exact q, fun b u xs q => by rw [upd_ne (hm b _ q fun z => z)]; exact q, fun b ps q => ⟨#[], by rw [upd_ne (hm b _ q fun z => z), q]; simp⟩⟩
  by_cases hbe : b = e
  · subst hbe; exact heo
  · exact ⟨u, k b u hbe q⟩
end

def trk (h : Heap) (H : Hp) : List Addr := (List.range h.objs.size).filter fun a => (H a).isSome
def hidT (h : Heap) (H : Hp) : Heap := PySem.W.hideAll h (trk h H)
theorem hidT_size (h : Heap) (H : Hp) : (hidT h H).objs.size = h.objs.size := PySem.W.hideAll_size _ _
theorem hidT_get {h : Heap} {H : Hp} {b : Addr} {o : Obj} (e : h.get? b = some o) (n : H b = none) : (hidT h H).get? b = some o :=
  PySem.W.hideAll_get _ e fun hm => by
    have q : (H b).isSome = true := (List.mem_filter.mp hm).2
    rw [n] at q; simp at q
theorem of_hidT {h : Heap} {H : Hp} {b : Addr} {o : Obj} (e : (hidT h H).get? b = some o) : h.get? b = some o ∧ H b = none := by
  have e' : h.get? b = some o := PySem.W.of_hideAll (trk h H) e
  refine ⟨e', ?_⟩
  cases q : H b with
  | none => rfl
  | some x =>
    have hm : b ∈ trk h H := List.mem_filter.mpr ⟨List.mem_range.mpr (Heap.lt_size e'), by simp [q]⟩
    have z : (hidT h H).get? b = none := PySem.W.hideAll_none (trk h H) hm
    rw [z] at e; cases e

end L2

namespace L2
open PySem PySem.Spec PyProof.Rows

/-- the module's facts, over the base: the heap at the law's entry without what is tracked there -/
structure Mod (K : PySem.W.Frag) (mg : Str → Option Value) (base : Heap) : Prop where
  kin : K.In base
  glob : base.Ns mainGlobals mg
  blt : ∃ mb, base.Ns builtinsNs mb ∧ ∀ x : Str, x ≠ "__name__" → mb x = bootBuiltins x
  nolimit : base.NoLimit

/-- the context: a def's body (or a comprehension's block) running. base: fixed through the whole law; s₀, H₀: the entry; outer: the frames whose slots others may change (a def's callers); stack: all frames that run;
   ex: iterators that were made ahead of the entry and are walked here (a comprehension's); fn: the names whose cells were made at the entry (a def: all; a comprehension's block: its own); calm: not within an except suite; pn: pins that every state bears; xe: what is wanted of an exception that leaves the code -/
structure Cx where
  prog : Program
  w : World
  K : PySem.W.Frag
  mg : Str → Option Value
  base : Heap
  A : Around
  N : List Str
  s₀ : Shared
  H₀ : Hp
  env : Env
  outer : List Env
  stack : List Env
  ex : List Addr
  fn : Str → Bool
  calm : Bool
  pn : List (Addr × Obj)
  xe : Value → Shared → Prop
/-- the callers' frames -/
def frs (l : List Env) : List Addr := l.filterMap (·.frame)
abbrev Cx.fs (X : Cx) : List Addr := frs X.outer

def Vis (sc : Scope) (x : Str) : Prop := sc.names.lookup x = some .local ∨ sc.names.lookup x = some .cell ∨ sc.names.lookup x = some .free
def Loc (sc : Scope) (x : Str) : Prop := sc.names.lookup x = some .local ∨ sc.names.lookup x = some .cell
def Look (env : Env) (h : Heap) (m : Str → Option Value) (x : Str) (u : Value) : Prop :=
  (env.kindOf x = some .local ∧ m x = some u) ∨ ((env.kindOf x = some .cell ∨ env.kindOf x = some .free) ∧ ∃ c, env.cells.lookup x = some c ∧ h.IsCell c (some u))

structure Cx.Ok (X : Cx) : Prop where
  mod : Mod X.K X.mg X.base
  kind : X.env.scope.kind = .function
  glob : X.env.globals = mainGlobals
  blt : X.env.builtins = builtinsNs
  above : X.s₀.heap.objs.size ≤ X.env.locals
  inj : ∀ x y c, X.env.cells.lookup x = some c → X.env.cells.lookup y = some c → x = y
  has : ∀ x, (X.env.kindOf x = some .cell ∨ X.env.kindOf x = some .free) → ∃ c, X.env.cells.lookup x = some c
  cab : ∀ x c, X.fn x = true → X.env.cells.lookup x = some c → X.s₀.heap.objs.size ≤ c
  hd : X.calm = true → X.A.handled = none
  frames : X.A.frames = some X.stack
  stk : X.stack = X.outer ∨ (X.stack = X.env :: X.outer ∧ X.env.frame = some X.env.locals)
  exf : ∀ b ∈ X.ex, b ≠ X.env.locals ∧ ∀ x c, X.env.cells.lookup x = some c → c ≠ b
  bs : ∀ b o, X.base.get? b = some o → X.s₀.heap.get? b = some o ∧ X.H₀ b = none
  bsz : X.base.objs.size ≤ X.s₀.heap.objs.size
  noex : ∀ b o, X.base.get? b = some o → b ∉ X.ex
  exfs : ∀ b ∈ X.ex, b ∉ X.fs
  funs : X.s₀.heap.FunFrames X.base X.outer
  frf : ∀ b ∈ X.fs, X.H₀ b = none

structure Inv (X : Cx) (pins : List (Addr × Obj)) (σ : List (Option V)) (H : Hp) (s : Shared) : Prop where
  ok : X.Ok
  os : s.os = X.s₀.os
  bare : AllBare s.gens
  base : Un X.fs X.ex X.H₀ H X.s₀.heap s.heap
  loc : ∃ m, s.heap.Ns X.env.locals m ∧ ∀ (i : Nat) (x : Str) (v : V), X.N[i]? = some x → σ[i]? = some (some v) → Vis X.env.scope x → ∃ u, RelV v u ∧ Look X.env s.heap m x u
  cell : ∀ x c, X.env.cells.lookup x = some c → ∃ v, s.heap.IsCell c v
  free : H X.env.locals = none
  freeC : ∀ x c, X.env.cells.lookup x = some c → H c = none
  pin : ∀ p ∈ X.pn ++ pins, s.heap.get? p.1 = some p.2 ∧ H p.1 = none ∧ p.1 ≠ X.env.locals ∧ p.1 ∉ X.fs ∧ ∀ v, p.2.data ≠ .cell v
  hok : HOk X.prog X.w H s.heap
  len : σ.length = X.N.length

section
variable {X : Cx} {pins : List (Addr × Obj)} {σ : List (Option V)} {H H' : Hp} {s : Shared} {h' : Heap}

theorem Cx.Ok.nofr (ok : X.Ok) {b : Addr} {o : Obj} (e : X.base.get? b = some o) : b ∉ X.fs := fun hb => by
  have := (ok.funs.mem hb).1
  rw [e] at this; cases this
theorem Inv.bs (I : Inv X pins σ H s) : ∀ b o, X.base.get? b = some o → s.heap.get? b = some o ∧ H b = none := fun b o e =>
  ⟨I.base.keep b o (I.ok.bs b o e).1 (I.ok.bs b o e).2 (I.ok.nofr e) (I.ok.noex b o e), I.base.free b o (I.ok.bs b o e).1 (I.ok.bs b o e).2 (I.ok.noex b o e)⟩
theorem Inv.bk (I : Inv X pins σ H s) : ∀ b o, X.base.get? b = some o → s.heap.get? b = some o := fun b o e => (I.bs b o e).1
theorem Inv.mod (I : Inv X pins σ H s) : Mod X.K X.mg X.base := I.ok.mod
theorem Inv.kIn (I : Inv X pins σ H s) : X.K.In s.heap := I.ok.mod.kin.keeps I.bk
/-- the frame over the base: for OpenK's rules (K.In X.base is I.mod.kin) -/
theorem Inv.fr (I : Inv X pins σ H s) : ∃ m, Fr X.base X.env.locals s.heap m :=
  let ⟨m, hn, _⟩ := I.loc
  ⟨m, hn, I.bk, Nat.le_trans I.ok.bsz I.ok.above⟩
theorem Inv.lt (I : Inv X pins σ H s) : X.env.locals < s.heap.objs.size := let ⟨_, hn, _⟩ := I.loc; hn.lt
theorem Inv.sz (I : Inv X pins σ H s) : X.s₀.heap.objs.size ≤ s.heap.objs.size := Nat.le_trans I.ok.above (Nat.le_of_lt I.lt)
theorem Inv.nofs (I : Inv X pins σ H s) {a : Addr} (h : s.heap.objs.size ≤ a) : a ∉ X.fs := fun hb => by
  obtain ⟨_, o, ho, _⟩ := I.ok.funs.mem hb
  exact absurd (Nat.lt_of_lt_of_le (Heap.lt_size ho) (Nat.le_trans I.sz h)) (Nat.lt_irrefl _)
theorem Inv.cne (I : Inv X pins σ H s) : ∀ x c, X.env.cells.lookup x = some c → c ≠ X.env.locals := fun x c e z => by
  obtain ⟨v, o, ho, hd⟩ := I.cell x c e
  obtain ⟨m, ⟨o', es, ep, ho', hd', _⟩, _⟩ := I.loc
  rw [z, ho'] at ho; cases ho; rw [hd'] at hd; cases hd
theorem Inv.funs (I : Inv X pins σ H s) : s.heap.FunFrames X.base X.outer := by
  have all : ∀ (l : List Env), (∀ b ∈ frs l, b ∈ X.fs) → X.s₀.heap.FunFrames X.base l → s.heap.FunFrames X.base l := by
    intro l
    induction l with
    | nil => intro _ _; trivial
    | cons env r ih =>
      intro hs hl
      obtain ⟨hk, ⟨L, o, hf, hn, ho, hd⟩, hr⟩ := hl
      have hL : L ∈ X.fs := hs L (by unfold frs; rw [List.filterMap_cons, hf]; exact List.mem_cons_self)
      obtain ⟨sl, e⟩ := I.base.slot L o ho (I.ok.frf L hL) hL fun z => I.ok.exfs L z hL
      exact ⟨hk, ⟨L, _, hf, hn, e, hd⟩, ih (fun b hb => hs b (by unfold frs; rw [List.filterMap_cons, hf]; exact List.mem_cons_of_mem _ hb)) hr⟩
  exact all X.outer (fun _ hb => hb) I.ok.funs

/-- the frames that run, for a call -/
theorem Inv.stack (I : Inv X pins σ H s) : s.heap.FunFrames X.base X.stack := by
  rcases I.ok.stk with e | ⟨e, hf⟩
  · rw [e]; exact I.funs
  · rw [e]
    obtain ⟨m, hn, _⟩ := I.loc
    refine .cons (by rw [I.ok.kind]; decide) hf hn ?_ I.funs
    exact Heap.get?_none_of_le (Nat.le_trans I.ok.bsz I.ok.above)
theorem Inv.stkSub (I : Inv X pins σ H s) : ∀ b ∈ frs X.stack, b ∈ X.env.locals :: X.fs := fun b hb => by
  rcases I.ok.stk with e | ⟨e, hf⟩
  · rw [e] at hb; exact List.mem_cons_of_mem _ hb
  · rw [e] at hb
    unfold frs at hb
    rw [List.filterMap_cons, hf] at hb
    exact hb
theorem Inv.stkFree (I : Inv X pins σ H s) : ∀ b ∈ frs X.stack, H b = none := fun b hb => by
  rcases List.mem_cons.mp (I.stkSub b hb) with e | hb
  · rw [e]; exact I.free
  · obtain ⟨_, o, ho, _⟩ := I.ok.funs.mem hb
    exact I.base.free b o ho (I.ok.frf b hb) fun z => I.ok.exfs b z hb

/-- THE STEP: the untracked objects but the frame and the records at ch are kept (the callers' frames up to slots), the frame's map is kept, the new abstract heap is held -/
theorem Inv.step {g' : Array GenState} {t' : Nat} {d' : Drawn} {ch : List Addr} (I : Inv X pins σ H s)
    (hch : ∀ b ∈ ch, (b ∈ X.ex ∨ X.s₀.heap.objs.size ≤ b) ∧ b ≠ X.env.locals ∧ (∀ x c, X.env.cells.lookup x = some c → c ≠ b) ∧ ∀ p ∈ X.pn ++ pins, p.1 ≠ b)
    (keep : ∀ b o, b ≠ X.env.locals → b ∉ X.fs → b ∉ ch → s.heap.get? b = some o → H b = none → h'.get? b = some o)
    (slot : ∀ b o, b ≠ X.env.locals → b ∈ X.fs → b ∉ ch → s.heap.get? b = some o → H b = none → ∃ sl, h'.get? b = some { o with slots := sl }) (free : ∀ b o, b ∉ ch → s.heap.get? b = some o → H b = none → H' b = none)
    (there : ∀ b o, b ∉ ch → s.heap.get? b = some o → ∃ o', h'.get? b = some o')
    (tups : ∀ b xs, H b = some (.tup xs) → H' b = some (.tup xs)) (frzs : ∀ b o u, H b = some (.frz o u) → H' b = some (.frz o u)) (tbls : ∀ b ps, H b = some (.tbl ps) → ∃ more, H' b = some (.tbl (ps ++ more)))
    (ns : ∀ m, s.heap.Ns X.env.locals m → h'.Ns X.env.locals m) (hok : HOk X.prog X.w H' h') (hg : AllBare g') :
    Inv X pins σ H' { s with heap := h', gens := g', drawn := d', toks := t' } := by
  have neL : ∀ b o, X.s₀.heap.get? b = some o → b ≠ X.env.locals := fun b o e => Nat.ne_of_lt (Nat.lt_of_lt_of_le (Heap.lt_size e) I.ok.above)
  have neC : ∀ b o, X.s₀.heap.get? b = some o → b ∉ X.ex → b ∉ ch := fun b o e hx hb => by
    rcases (hch b hb).1 with z | z
    · exact hx z
    · exact absurd (Nat.lt_of_lt_of_le (Heap.lt_size e) z) (Nat.lt_irrefl _)
  have cellK : ∀ x c, X.env.cells.lookup x = some c → ∀ v, s.heap.IsCell c v → h'.IsCell c v := fun x c e v ⟨o, ho, hd⟩ => by
    have nch : c ∉ ch := fun z => (hch c z).2.2.1 x c e rfl
    by_cases hc : c ∈ X.fs
    · obtain ⟨sl, q⟩ := slot c o (I.cne x c e) hc nch ho (I.freeC x c e)
      exact ⟨_, q, hd⟩
    · exact ⟨o, keep c o (I.cne x c e) hc nch ho (I.freeC x c e), hd⟩
  refine ⟨I.ok, I.os, hg, ⟨fun b o e n hb hx => ?_, fun b o e n hb hx => ?_, fun b o e n hx => ?_, fun b o e hx => ?_, fun b xs e => tups b xs (I.base.tups b xs e), fun b o xs e => frzs b o xs (I.base.frzs b o xs e), fun b ps e => ?_⟩, ?_, fun x c e => ?_, ?_, fun x c e => ?_, fun p hp => ?_, hok, I.len⟩
  · exact keep b o (neL b o e) hb (neC b o e hx) (I.base.keep b o e n hb hx) (I.base.free b o e n hx)
  · obtain ⟨sl, e1⟩ := I.base.slot b o e n hb hx
    obtain ⟨sl', e2⟩ := slot b _ (neL b o e) hb (neC b o e hx) e1 (I.base.free b o e n hx)
    exact ⟨sl', e2⟩
  · obtain ⟨o', e1⟩ := I.base.there b o e hx
    exact free b o' (neC b o e hx) e1 (I.base.free b o e n hx)
  · obtain ⟨o', e1⟩ := I.base.there b o e hx
    exact there b o' (neC b o e hx) e1
  · obtain ⟨m1, e1⟩ := I.base.tbls b ps e
    obtain ⟨m2, e2⟩ := tbls b _ e1
    exact ⟨m1 ++ m2, by rw [e2, Array.append_assoc]⟩
  · obtain ⟨m, hn, hl⟩ := I.loc
    refine ⟨m, ns m hn, fun i x v e1 e2 e3 => ?_⟩
    obtain ⟨u, r, l⟩ := hl i x v e1 e2 e3
    refine ⟨u, r, ?_⟩
    rcases l with l | ⟨k, c, e, z⟩
    · exact .inl l
    · exact .inr ⟨k, c, e, cellK x c e _ z⟩
  · obtain ⟨v, z⟩ := I.cell x c e
    exact ⟨v, cellK x c e v z⟩
  · obtain ⟨m, ⟨o, _, _, ho, _⟩, _⟩ := I.loc
    exact free _ o (fun z => (hch _ z).2.1 rfl) ho I.free
  · obtain ⟨v, o, ho, hd⟩ := I.cell x c e
    exact free c o (fun z => (hch c z).2.2.1 x c e rfl) ho (I.freeC x c e)
  · obtain ⟨e, n, ne, nf, d⟩ := I.pin p hp
    have nch : p.1 ∉ ch := fun z => (hch p.1 z).2.2.2 p hp rfl
    exact ⟨keep p.1 p.2 ne nf nch e n, free p.1 p.2 nch e n, ne, nf, d⟩
/-- .. where the frame's own object is kept too -/
theorem Inv.un {t' : Nat} (I : Inv X pins σ H s) (u : Un X.fs [] H H' s.heap h') (hok : HOk X.prog X.w H' h') : Inv X pins σ H' { s with heap := h', toks := t' } := by
  obtain ⟨m, ⟨o, es, ep, ho, r⟩, _⟩ := id I.loc
  obtain ⟨sl, hL⟩ := u.any ho I.free (by simp)
  exact I.step (g' := s.gens) (d' := s.drawn) (ch := []) (fun _ z => nomatch z) (fun b o _ hb _ e n => u.keep b o e n hb (by simp)) (fun b o _ hb _ e n => u.slot b o e n hb (by simp)) (fun b o _ e n => u.free b o e n (by simp)) (fun b o _ e => u.there b o e (by simp)) u.tups u.frzs u.tbls (fun m' hm => by
    obtain ⟨o', es', ep', ho', r'⟩ := hm
    rw [ho] at ho'; cases ho'
    exact ⟨_, es', ep', hL, r'⟩) hok I.bare
/-- behind a call (or a comprehension's block): the slots of this frame may have changed too, the records at ch may have turned -/
theorem Inv.call {g' : Array GenState} {t' : Nat} {d' : Drawn} {ch : List Addr} (I : Inv X pins σ H s) (u : Un (frs X.stack) ch H H' s.heap h') (hok : HOk X.prog X.w H' h') (hg : AllBare g')
    (hch : ∀ b ∈ ch, (b ∈ X.ex ∨ X.s₀.heap.objs.size ≤ b) ∧ b ≠ X.env.locals ∧ (∀ x c, X.env.cells.lookup x = some c → c ≠ b) ∧ ∀ p ∈ X.pn ++ pins, p.1 ≠ b) :
    Inv X pins σ H' { s with heap := h', gens := g', drawn := d', toks := t' } := by
  obtain ⟨m, ⟨o, es, ep, ho, r⟩, _⟩ := id I.loc
  obtain ⟨sl, hL⟩ := u.any ho I.free fun z => (hch _ z).2.1 rfl
  exact I.step (ch := ch) hch (fun b o hL hb hc e n => u.keep b o e n (fun z => (List.mem_cons.mp (I.stkSub b z)).elim hL hb) hc) (fun b o _ _ hc e n => u.any e n hc) (fun b o hc e n => u.free b o e n hc) (fun b o hc e => u.there b o e hc) u.tups u.frzs u.tbls (fun m' hm => by
    obtain ⟨o', es', ep', ho', r'⟩ := hm
    rw [ho] at ho'; cases ho'
    exact ⟨_, es', ep', hL, r'⟩) hok hg
/-- an untracked record of ours (an iterator) has turned -/
theorem Inv.turned {t' : Nat} {it : Addr} (I : Inv X pins σ H s) (k : ∀ b o, b ≠ it → s.heap.get? b = some o → h'.get? b = some o) (hn : H it = none) (hL : it ≠ X.env.locals)
    (h1 : it ∈ X.ex ∨ X.s₀.heap.objs.size ≤ it) (h2 : ∀ x c, X.env.cells.lookup x = some c → c ≠ it) (h3 : ∀ p ∈ X.pn ++ pins, p.1 ≠ it) : Inv X pins σ H { s with heap := h', toks := t' } := by
  have nit : ∀ b u, H b = some u → b ≠ it := fun b u e z => by rw [z, hn] at e; cases e
  refine I.step (g' := s.gens) (d' := s.drawn) (ch := [it]) (fun b hb => ?_) (fun b o _ _ hc e _ => k b o (fun z => hc (by simp [z])) e) (fun b o _ _ hc e _ => ⟨o.slots, k b o (fun z => hc (by simp [z])) e⟩) (fun _ _ _ _ n => n)
    (fun b o hc e => ⟨o, k b o (fun z => hc (by simp [z])) e⟩) (fun _ _ e => e) (fun _ _ _ e => e) (fun b ps e => ⟨#[], by rw [e]; simp⟩) (fun m hm => ?_) (fun b u e => ?_) I.bare
  · have e : b = it := by simpa using hb
    subst e
    exact ⟨h1, hL, h2, h3⟩
  · obtain ⟨o, es, ep, ho, r⟩ := hm
    exact ⟨o, es, ep, k _ o (Ne.symm hL) ho, r⟩
  · refine (I.hok b u e).stay (fun c v hc q => k c v ?_ q) (fun _ q => q) fun _ _ q => q
    rcases hc with z | z
    · rw [z]; exact nit b u e
    · exact nit c _ z
theorem Inv.tok (I : Inv X pins σ H s) (t : Nat) : Inv X pins σ H { s with toks := t } := I.un (h' := s.heap) (t' := t) Un.refl I.hok
/-- all objects kept -/
theorem Inv.kept {t' : Nat} (I : Inv X pins σ H s) (k : ∀ b u, s.heap.get? b = some u → h'.get? b = some u) : Inv X pins σ H { s with heap := h', toks := t' } := I.un (Un.kept k) (I.hok.kept k)
/-- a new object laid and tracked -/
theorem Inv.laid {a : Addr} {o : HO} {t' : Nat} (I : Inv X pins σ H s) (k : ∀ b u, s.heap.get? b = some u → h'.get? b = some u) (hp : s.heap.objs.size ≤ a) (new : ObjOk X.prog X.w (upd H a o) h' a o) :
    Inv X pins σ (upd H a o) { s with heap := h', toks := t' } := I.un (Un.laid k hp (I.hok.fresh hp)) (I.hok.laid k hp new)
/-- an object written -/
theorem Inv.write {x e : Addr} {o : HO} {t' : Nat} (I : Inv X pins σ H s) (mu : Mut (H x)) (he : e = x ∨ H e = some (.own x)) (k : ∀ b u, b ≠ e → s.heap.get? b = some u → h'.get? b = some u) (heo : ∃ u, h'.get? e = some u)
    (new : ObjOk X.prog X.w (upd H x o) h' x o) : Inv X pins σ (upd H x o) { s with heap := h', toks := t' } := I.un (Un.write mu he k heo) (I.hok.write mu he k heo new)
/-- forgetting slots, pins -/
theorem Inv.weak {σ' : List (Option V)} (I : Inv X pins σ H s) (hl : σ'.length = σ.length) (w : ∀ (i : Nat) v, σ'[i]? = some (some v) → σ[i]? = some (some v)) : Inv X pins σ' H s :=
  ⟨I.ok, I.os, I.bare, I.base, let ⟨m, hn, hl'⟩ := I.loc; ⟨m, hn, fun i x v e1 e2 e3 => hl' i x v e1 (w i v e2) e3⟩, I.cell, I.free, I.freeC, I.pin, I.hok, hl.trans I.len⟩
theorem Inv.pins_of {pins' : List (Addr × Obj)} (I : Inv X pins σ H s) (h : ∀ p ∈ pins', s.heap.get? p.1 = some p.2 ∧ H p.1 = none ∧ p.1 ≠ X.env.locals ∧ p.1 ∉ X.fs ∧ ∀ v, p.2.data ≠ .cell v) : Inv X pins' σ H s :=
  ⟨I.ok, I.os, I.bare, I.base, I.loc, I.cell, I.free, I.freeC, fun p hp => (List.mem_append.mp hp).elim (fun z => I.pin p (List.mem_append_left _ z)) (h p), I.hok, I.len⟩

theorem nodup_ix {N : List Str} (hN : N.Nodup) {i j : Nat} {x : Str} (a : N[i]? = some x) (b : N[j]? = some x) : i = j := by
  obtain ⟨h1, e1⟩ := List.getElem?_eq_some_iff.mp a
  obtain ⟨h2, e2⟩ := List.getElem?_eq_some_iff.mp b
  exact (List.getElem_inj hN).mp (e1.trans e2.symm)

/-- a name is stored; what changed -/
theorem store_ok2 {M : Model} {A : Around} {E : Value → Shared → Prop} {i : Nat} {x : Str} {v : V} {u : Value} {Q : Unit → Shared → Prop} (I : Inv X pins σ H s) (hN : X.N.Nodup) (hi : X.N[i]? = some x) (hx : Loc X.env.scope x) (r : RelV v u)
    (h : ∀ s', Inv X pins (σ.set i (some v)) H s' → (∃ a, Heap.SameBut a s.heap s'.heap ∧ (a = X.env.locals ∨ X.env.cells.lookup x = some a)) → Q () s') (hf : X.fn x = true ∨ X.env.scope.names.lookup x = some .local := by first | exact .inl rfl | exact .inr rfl | assumption) : wpAny M A (storeName X.env x u) Q E s := by
  obtain ⟨m, hn, hl⟩ := id I.loc
  have hcls : (X.env.scope.kind == .class || (X.env.scope.kind == .module && X.env.locals != X.env.globals)) = false := by rw [I.ok.kind]; rfl
  have hiσ : i < σ.length := by rw [I.len]; exact (List.getElem?_eq_some_iff.mp hi).1
  have cne := I.cne
  have tracked : ∀ {a : Addr} {h' : Heap}, (∃ o, s.heap.get? a = some o ∧ H a = none) → Heap.SameBut a s.heap h' → HOk X.prog X.w H h' := fun {a h'} ha hs b ob e => by
    obtain ⟨_, _, hfree⟩ := ha
    refine (I.hok b ob e).stay (fun c w' hc q => (hs.2 c ?_).trans q) (fun _ q => q) fun _ _ q => q
    rintro rfl
    rcases hc with rfl | hc
    · rw [hfree] at e; cases e
    · rw [hfree] at hc; cases hc
  rcases hx with hk | hk
  · refine wpAny_storeName_local hk hn (fun h' hn' hs => ?_) hcls
    obtain ⟨oL, _, _, hoL, _⟩ := id hn
    refine h _ ⟨I.ok, I.os, I.bare, ⟨fun b o e n hb hx => ?_, fun b o e n hb hx => ?_, I.base.free, fun b o e hx => ?_, I.base.tups, I.base.frzs, I.base.tbls⟩, ⟨_, hn', fun j y v' e1 e2 e3 => ?_⟩, fun y c e => ?_, I.free, I.freeC, fun p hp => ?_, tracked ⟨oL, hoL, I.free⟩ hs, by simpa using I.len⟩ ⟨_, hs, .inl rfl⟩
    · exact (hs.2 b (Nat.ne_of_lt (Nat.lt_of_lt_of_le (Heap.lt_size e) I.ok.above))).trans (I.base.keep b o e n hb hx)
    · obtain ⟨sl, e1⟩ := I.base.slot b o e n hb hx
      exact ⟨sl, (hs.2 b (Nat.ne_of_lt (Nat.lt_of_lt_of_le (Heap.lt_size e) I.ok.above))).trans e1⟩
    · obtain ⟨o', e1⟩ := I.base.there b o e hx
      exact ⟨o', (hs.2 b (Nat.ne_of_lt (Nat.lt_of_lt_of_le (Heap.lt_size e) I.ok.above))).trans e1⟩
    · by_cases hj : j = i
      · subst hj
        rw [hi] at e1; cases e1
        rw [List.getElem?_set_self hiσ] at e2
        cases e2
        exact ⟨u, r, .inl ⟨hk, by simp⟩⟩
      · rw [List.getElem?_set_ne (Ne.symm hj)] at e2
        obtain ⟨u', r', q⟩ := hl j y v' e1 e2 e3
        refine ⟨u', r', ?_⟩
        rcases q with ⟨k, e⟩ | ⟨k, c, e, z⟩
        · refine .inl ⟨k, ?_⟩
          have : y ≠ x := fun e => hj (nodup_ix hN e1 (e ▸ hi))
          simp [this, e]
        · exact .inr ⟨k, c, e, z.sameBut hs (cne y c e)⟩
    · obtain ⟨w', z⟩ := I.cell y c e
      exact ⟨w', z.sameBut hs (cne y c e)⟩
    · obtain ⟨e, n, ne, nf, d⟩ := I.pin p hp
      exact ⟨(hs.2 p.1 ne).trans e, n, ne, nf, d⟩
  · have hfn : X.fn x = true := by
      rcases hf with z | z
      · exact z
      · rw [z] at hk; cases hk
    obtain ⟨c, hc⟩ := I.ok.has x (.inl hk)
    obtain ⟨w', z⟩ := I.cell x c hc
    refine wpAny_storeName_cell I.ok.kind hk hc z (fun h' hc' hs => ?_)
    obtain ⟨oc, hoc, hocd⟩ := id z
    refine h { s with heap := h' } ⟨I.ok, I.os, I.bare, ⟨fun b o e n hb hx => ?_, fun b o e n hb hx => ?_, I.base.free, fun b o e hx => ?_, I.base.tups, I.base.frzs, I.base.tbls⟩, ⟨m, hn.sameBut hs (Ne.symm (cne x c hc)), fun j y v' e1 e2 e3 => ?_⟩, fun y c' e => ?_, I.free, I.freeC, fun p hp => ?_, tracked ⟨oc, hoc, I.freeC x c hc⟩ hs, by simpa using I.len⟩ ⟨c, hs, .inr hc⟩
    · exact (hs.2 b (Nat.ne_of_lt (Nat.lt_of_lt_of_le (Heap.lt_size e) (I.ok.cab x c hfn hc)))).trans (I.base.keep b o e n hb hx)
    · obtain ⟨sl, e1⟩ := I.base.slot b o e n hb hx
      exact ⟨sl, (hs.2 b (Nat.ne_of_lt (Nat.lt_of_lt_of_le (Heap.lt_size e) (I.ok.cab x c hfn hc)))).trans e1⟩
    · obtain ⟨o', e1⟩ := I.base.there b o e hx
      exact ⟨o', (hs.2 b (Nat.ne_of_lt (Nat.lt_of_lt_of_le (Heap.lt_size e) (I.ok.cab x c hfn hc)))).trans e1⟩
    · by_cases hj : j = i
      · subst hj
        rw [hi] at e1; cases e1
        rw [List.getElem?_set_self hiσ] at e2
        cases e2
        exact ⟨u, r, .inr ⟨.inl hk, c, hc, hc'⟩⟩
      · rw [List.getElem?_set_ne (Ne.symm hj)] at e2
        obtain ⟨u', r', q⟩ := hl j y v' e1 e2 e3
        refine ⟨u', r', ?_⟩
        rcases q with q | ⟨k, c', e, z'⟩
        · exact .inl q
        · refine .inr ⟨k, c', e, z'.sameBut hs ?_⟩
          rintro rfl
          exact hj (nodup_ix hN e1 (I.ok.inj _ _ _ e hc ▸ hi))
    · by_cases hcc : c' = c
      · subst hcc; exact ⟨_, hc'⟩
      · obtain ⟨w2, z2⟩ := I.cell y c' e
        exact ⟨w2, z2.sameBut hs hcc⟩
    · obtain ⟨e, n, ne, nf, d⟩ := I.pin p hp
      refine ⟨(hs.2 p.1 ?_).trans e, n, ne, nf, d⟩
      intro q
      rw [q, hoc] at e
      have q' : oc = p.2 := Option.some.inj e
      exact d w' (by rw [← q']; exact hocd)
theorem store_ok {M : Model} {A : Around} {E : Value → Shared → Prop} {i : Nat} {x : Str} {v : V} {u : Value} {Q : Unit → Shared → Prop} (I : Inv X pins σ H s) (hN : X.N.Nodup) (hi : X.N[i]? = some x) (hx : Loc X.env.scope x) (r : RelV v u)
    (h : ∀ s', Inv X pins (σ.set i (some v)) H s' → Q () s') (hf : X.fn x = true ∨ X.env.scope.names.lookup x = some .local := by first | exact .inl rfl | exact .inr rfl | assumption) : wpAny M A (storeName X.env x u) Q E s :=
  store_ok2 I hN hi hx r (fun s' I' _ => h s' I') hf
/-- behind a call or a block, the state as it is -/
theorem Inv.call' {s' : Shared} {ch : List Addr} (I : Inv X pins σ H s) (ho : s'.os = s.os) (u : Un (frs X.stack) ch H H' s.heap s'.heap) (hok : HOk X.prog X.w H' s'.heap) (hg : AllBare s'.gens)
    (hch : ∀ b ∈ ch, (b ∈ X.ex ∨ X.s₀.heap.objs.size ≤ b) ∧ b ≠ X.env.locals ∧ (∀ x c, X.env.cells.lookup x = some c → c ≠ b) ∧ ∀ p ∈ X.pn ++ pins, p.1 ≠ b) : Inv X pins σ H' s' := by
  obtain ⟨h', g', d', t', o'⟩ := s'
  have e : o' = s.os := ho
  subst e
  exact I.call (g' := g') (t' := t') (d' := d') u hok hg hch
end

/-- an exception: its class, its own dict's address (where it has one), the abstract heap behind it -/
abbrev XK := Value → Option Addr → Hp → Prop
abbrev St := List (Option V)
abbrev VK := V → Hp → Prop
/-- an expression's reading; a test's; an argument list's -/
abbrev TE := St → Hp → VK → Prop
abbrev TT := St → Hp → (Bool → Hp → Prop) → Prop
abbrev TA := St → Hp → (List V → Hp → Prop) → Prop
/-- what is wanted behind a statement -/
structure Ends where
  nx : St → Hp → Prop
  rt : VK
  bk : St → Hp → Prop := fun _ _ => False
  ct : St → Hp → Prop := fun _ _ => False
abbrev TS := Ends → St → Hp → Prop

def EP (X : Cx) (pins : List (Addr × Obj)) (σ : St) (Q : VK) (u : Value) (s' : Shared) : Prop := ∃ v H', Inv X pins σ H' s' ∧ RelV v u ∧ Q v H'
def TP (X : Cx) (pins : List (Addr × Obj)) (σ : St) (Q : Bool → Hp → Prop) (b : Bool) (s' : Shared) : Prop := ∃ H', Inv X pins σ H' s' ∧ Q b H'
def AP (X : Cx) (pins : List (Addr × Obj)) (σ : St) (Q : List V → Hp → Prop) (us : List Value) (s' : Shared) : Prop := ∃ vs H', Inv X pins σ H' s' ∧ Vals vs us ∧ Q vs H'
def SP (X : Cx) (pins : List (Addr × Obj)) (D : Ends) (f : Flow) (s' : Shared) : Prop :=
  match f with
  | .next => ∃ σ' H', Inv X pins σ' H' s' ∧ D.nx σ' H'
  | .brk => ∃ σ' H', Inv X pins σ' H' s' ∧ D.bk σ' H'
  | .cont => ∃ σ' H', Inv X pins σ' H' s' ∧ D.ct σ' H'
  | .ret u => ∃ v σ' H', Inv X pins σ' H' s' ∧ RelV v u ∧ D.rt v H'

def PE (X : Cx) (e : Expr) (t : TE) : Prop :=
  ∀ (pins : List (Addr × Obj)) (s : Shared) (σ : St) (H : Hp) (Q : VK), Inv X pins σ H s → t σ H Q → wpAny (model X.prog X.w) X.A (eval e X.env) (EP X pins σ Q) X.xe s
def PT (X : Cx) (e : Expr) (t : TT) : Prop :=
  ∀ (pins : List (Addr × Obj)) (s : Shared) (σ : St) (H : Hp) (Q : Bool → Hp → Prop), Inv X pins σ H s → t σ H Q → wpAny (model X.prog X.w) X.A (isTrue e X.env (eval e X.env)) (TP X pins σ Q) X.xe s
/-- a test whatever its 'whole' is (and, or) -/
def PW (X : Cx) (e : Expr) (t : TT) : Prop :=
  ∀ (whole : Sem Value) (pins : List (Addr × Obj)) (s : Shared) (σ : St) (H : Hp) (Q : Bool → Hp → Prop), Inv X pins σ H s → t σ H Q → wpAny (model X.prog X.w) X.A (isTrue e X.env whole) (TP X pins σ Q) X.xe s
theorem PW.pt {X : Cx} {e : Expr} {t : TT} (h : PW X e t) : PT X e t := h _
/-- an argument list (no star), from the left -/
def PA (X : Cx) (es : List Expr) (t : TA) : Prop :=
  ∀ (pos : Pos) (pins : List (Addr × Obj)) (s : Shared) (σ : St) (H : Hp) (Q : List V → Hp → Prop), Inv X pins σ H s → t σ H Q → wpAny (model X.prog X.w) X.A (spliced (backTo pos (starEach es X.env))) (AP X pins σ Q) X.xe s
def PS (X : Cx) (st : Stmt) (t : TS) : Prop :=
  ∀ (pins : List (Addr × Obj)) (s : Shared) (σ : St) (H : Hp) (D : Ends), Inv X pins σ H s → t D σ H → wpAny (model X.prog X.w) X.A (exec st X.env) (SP X pins D) X.xe s
def PSs (X : Cx) (st : List Stmt) (t : TS) : Prop :=
  ∀ (pins : List (Addr × Obj)) (s : Shared) (σ : St) (H : Hp) (D : Ends), Inv X pins σ H s → t D σ H → wpAny (model X.prog X.w) X.A (execs st X.env) (SP X pins D) X.xe s
/-- weaken the end -/
theorem thn {α : Type} {t : Sem α} {Q Q' : α → Shared → Prop} {M : Model} {A : Around} {E : Value → Shared → Prop} {s : Shared} (h : wpAny M A t Q E s) (hQ : ∀ a s, Q a s → Q' a s) : wpAny M A t Q' E s := wpAny_mono h hQ fun _ _ x => x
end L2

namespace L2
open PySem PySem.Spec PyProof.Rows
section
variable {X : Cx}

/-- two expressions in a row -/
theorem bin {a b : Expr} {ta tb : TE} (ha : PE X a ta) (hb : PE X b tb) {pins : List (Addr × Obj)} {s : Shared} {σ : St} {H : Hp} {R : V → V → Hp → Prop} (I : Inv X pins σ H s) (h : ta σ H fun x H1 => tb σ H1 fun y H2 => R x y H2)
    {α : Type} {Q : α → Shared → Prop} {f : Value → Value → Sem α}
    (hf : ∀ v u s2 x y H2, Inv X pins σ H2 s2 → RelV x v → RelV y u → R x y H2 → wpAny (model X.prog X.w) X.A (f v u) Q X.xe s2) :
    wpAny (model X.prog X.w) X.A (eval a X.env) (fun v s₁ => wpAny (model X.prog X.w) X.A (eval b X.env) (fun u s₂ => wpAny (model X.prog X.w) X.A (f v u) Q X.xe s₂) X.xe s₁) X.xe s := by
  refine thn (ha pins s σ H _ I h) fun v s1 ⟨x, H1, I1, r1, q1⟩ => ?_
  refine thn (hb pins s1 σ H1 _ I1 q1) fun u s2 ⟨y, H2, I2, r2, q2⟩ => ?_
  exact hf v u s2 x y H2 I2 r1 r2 q2

def tVar (i : Nat) : TE := fun σ H Q => ∃ v, σ[i]? = some (some v) ∧ Q v H
def tC (v : V) : TE := fun _ H Q => Q v H
theorem pe_var {i : Nat} {x : Str} {pos : Pos} (hN : X.N[i]? = some x) (hv : Vis X.env.scope x) (hd : (x == ("__debug__" : Str)) = false := by decide) (hcd : (x == ("__classdict__" : Str)) = false := by decide) : PE X (.Name x pos) (tVar i) := by
  intro pins s σ H Q I h
  obtain ⟨v, e, h⟩ := h
  obtain ⟨m, hn, hl⟩ := I.loc
  obtain ⟨u, r, l⟩ := hl i x v hN e hv
  have fin : EP X pins σ Q u s := ⟨v, H, I, r, h⟩
  rcases l with ⟨hk, hm⟩ | ⟨hk, c, hc, hcell⟩
  · exact wpAny_Name (wpAny_loadName_local I.ok.kind hk hn hm fin) hd
  · rcases hk with hk | hk
    · exact wpAny_Name (wpAny_loadName_cell I.ok.kind hk hc hcell fin) hd
    · exact wpAny_Name (wpAny_loadName_free I.ok.kind hk hc hcell fin hcd) hd
theorem pe_int {i j pos} : PE X (.Constant (.int i) j pos) (tC (.int i)) := fun _ _ _ H _ I h => wpAny_Constant_int ⟨.int i, H, I.tok _, ⟨_, rfl⟩, h⟩
theorem pe_bl {b j pos} : PE X (.Constant (.bool b) j pos) (tC (.bl b)) := fun _ _ _ H _ I h => Constant_bool ⟨.bl b, H, I, rfl, h⟩
theorem pe_str {x j pos} : PE X (.Constant (.str x) j pos) (tC (.str x)) := fun _ _ _ H _ I h => Calls.Constant_str ⟨.str x, H, I.tok _, ⟨_, rfl⟩, h⟩

/-- a global name of the def -/
def Gl (X : Cx) (x : Str) : Prop := X.env.kindOf x = some .globalImplicit
theorem ld_glob {E : Value → Shared → Prop} {pins : List (Addr × Obj)} {s : Shared} {σ : St} {H : Hp} {x : Str} {u : Value} {pos : Pos} {Q : Value → Shared → Prop} (I : Inv X pins σ H s) (hg : Gl X x) (hm : X.mg x = some u) (h : Q u s)
    (hd : (x == ("__debug__" : Str)) = false := by decide) : wpAny (model X.prog X.w) X.A (eval (.Name x pos) X.env) Q E s :=
  Calls.Name_function_global I.ok.kind hg (Calls.loadGlobal_global (by rw [I.ok.glob]; exact I.mod.glob.keeps I.bk) hm h) hd
theorem ld_blt {E : Value → Shared → Prop} {pins : List (Addr × Obj)} {s : Shared} {σ : St} {H : Hp} {x : Str} {u : Value} {pos : Pos} {Q : Value → Shared → Prop} (I : Inv X pins σ H s) (hg : Gl X x) (hm : X.mg x = none) (hv : bootBuiltins x = some u) (h : Q u s)
    (hn : x ≠ "__name__" := by decide) (hd : (x == ("__debug__" : Str)) = false := by decide) : wpAny (model X.prog X.w) X.A (eval (.Name x pos) X.env) Q E s := by
  obtain ⟨mb, h1, h2⟩ := I.mod.blt
  exact Calls.Name_function_global I.ok.kind hg (Calls.loadGlobal_builtin (by rw [I.ok.glob]; exact I.mod.glob.keeps I.bk) hm (by rw [I.ok.blt]; exact h1.keeps I.bk) ((h2 x hn).trans hv) h) hd
/-- a module's constant, a class, a function, as a value -/
theorem pe_glob {x : Str} {v : V} {u : Value} {pos : Pos} (hg : Gl X x) (hm : X.mg x = some u) (r : RelV v u) (hd : (x == ("__debug__" : Str)) = false := by decide) : PE X (.Name x pos) (tC v) :=
  fun _ _ _ H _ I h => ld_glob I hg hm ⟨v, H, I, r, h⟩ hd
theorem pe_bltn {x : Str} {v : V} {u : Value} {pos : Pos} (hg : Gl X x) (hm : X.mg x = none) (hv : bootBuiltins x = some u) (r : RelV v u) (hn : x ≠ "__name__" := by decide) (hd : (x == ("__debug__" : Str)) = false := by decide) : PE X (.Name x pos) (tC v) :=
  fun _ _ _ H _ I h => ld_blt I hg hm hv ⟨v, H, I, r, h⟩ hn hd

variable {a b : Expr} {ta tb : TE} {pos : Pos}

def PC (X : Cx) (op : CmpOp) (a b : Expr) (t : TE) : Prop :=
  ∀ (pins : List (Addr × Obj)) (s : Shared) (σ : St) (H : Hp) (Q : VK), Inv X pins σ H s → t σ H Q →
    wpAny (model X.prog X.w) X.A (eval a X.env) (fun v s₁ => wpAny (model X.prog X.w) X.A (eval b X.env) (fun u s₂ => wpAny (model X.prog X.w) X.A (compareOp op v u) (EP X pins σ Q) X.xe s₂) X.xe s₁) X.xe s
/-- a comparison as a value, as a test -/
def tB (t : TE) : TT := fun σ H Q => t σ H fun x H1 => ∃ c, x = .bl c ∧ Q c H1
theorem pt_cmp {op : CmpOp} {t : TE} (h : PC X op a b t) (h1 : behindInMarks op b = false := by first | exact nobehind _ (by decide) (by decide) | rfl) : PT X (.Compare a [op] [b] pos) (tB t) := by
  intro pins s σ H Q I hw
  refine wpAny_isTrue_Compare1 (thn (h pins s σ H _ I hw) fun v s1 h1 => thn h1 fun u s2 h2 => thn h2 fun c s3 ⟨x, H1, I1, r1, q1⟩ => ?_) h1
  obtain ⟨d, rfl, q⟩ := q1
  cases r1
  exact wpAny_truthy_bool ⟨H1, I1, q⟩
/-- an expression whose value is a bool, as a test -/
theorem pt_val {e : Expr} {t : TE} (h : PE X e t) (he : ∀ whole, isTrue e X.env whole = (do let v ← whole; standAt e.pos; holding [v] (truthy v)) := by intro _; rfl) : PT X e (tB t) := by
  intro pins s σ H Q I hw
  refine isTrue_plain (thn (h pins s σ H _ I hw) fun v s1 ⟨x, H1, I1, r1, q1⟩ => ?_) (he _)
  obtain ⟨d, rfl, q⟩ := q1
  cases r1
  exact wpAny_truthy_bool ⟨H1, I1, q⟩

variable {tA tB' : TT} {rest : List Expr}
def tAnd (t u : TT) : TT := fun σ H Q => t σ H fun c H1 => if c = true then u σ H1 Q else Q false H1
def tOr (t u : TT) : TT := fun σ H Q => t σ H fun c H1 => if c = true then Q true H1 else u σ H1 Q
def tNot (t : TT) : TT := fun σ H Q => t σ H fun c H1 => Q (!c) H1
theorem pw_and1 (ha : PT X a tA) : PW X (.BoolOp .And [a] pos) tA := by
  intro wh pins s σ H Q I h
  refine isTrue_and (thn (ha pins s σ H Q I h) fun c s1 e => ?_)
  cases c with
  | true => exact isTrue_and_nil e
  | false => exact e
theorem pw_or1 (ha : PT X a tA) : PW X (.BoolOp .Or [a] pos) tA := by
  intro wh pins s σ H Q I h
  refine isTrue_or (thn (ha pins s σ H Q I h) fun c s1 e => ?_)
  cases c with
  | false => exact isTrue_or_nil e
  | true => exact e
theorem pw_and (ha : PT X a tA) (hb : PW X (.BoolOp .And (b :: rest) pos) tB') : PW X (.BoolOp .And (a :: b :: rest) pos) (tAnd tA tB') := by
  intro wh pins s σ H Q I h
  refine isTrue_and (thn (ha pins s σ H _ I h) fun c s1 ⟨H1, I1, q1⟩ => ?_)
  cases c with
  | true => exact hb wh pins s1 σ H1 Q I1 q1
  | false => exact ⟨H1, I1, q1⟩
theorem pw_or (ha : PT X a tA) (hb : PW X (.BoolOp .Or (b :: rest) pos) tB') : PW X (.BoolOp .Or (a :: b :: rest) pos) (tOr tA tB') := by
  intro wh pins s σ H Q I h
  refine isTrue_or (thn (ha pins s σ H _ I h) fun c s1 ⟨H1, I1, q1⟩ => ?_)
  cases c with
  | true => exact ⟨H1, I1, q1⟩
  | false => exact hb wh pins s1 σ H1 Q I1 q1
theorem pt_not (ha : PT X a tA) : PT X (.UnaryOp .Not a pos) (tNot tA) := by
  intro pins s σ H Q I h
  exact isTrue_not (ha pins s σ H (fun c H1 => Q (!c) H1) I h)
/-- .. as values (bools) -/
def tAndV (ta tb : TE) : TE := fun σ H Q => ta σ H fun x H1 => ∃ c, x = .bl c ∧ if c = true then tb σ H1 Q else Q (.bl false) H1
def tOrV (ta tb : TE) : TE := fun σ H Q => ta σ H fun x H1 => ∃ c, x = .bl c ∧ if c = true then Q (.bl true) H1 else tb σ H1 Q
def tNotV (ta : TE) : TE := fun σ H Q => ta σ H fun x H1 => ∃ c, x = .bl c ∧ Q (.bl (!c)) H1
theorem pe_one {op} {t : TE} (h : PE X a t) : PE X (.BoolOp op [a] pos) t := fun pins s σ H Q I hw => BoolOp_one (h pins s σ H Q I hw)
theorem pe_and (ha : PE X a ta) (hb : PE X (.BoolOp .And (b :: rest) pos) tb) : PE X (.BoolOp .And (a :: b :: rest) pos) (tAndV ta tb) := by
  intro pins s σ H Q I h
  refine BoolOp_and (thn (ha pins s σ H _ I h) fun v s1 ⟨x, H1, I1, r1, q1⟩ => ?_)
  obtain ⟨c, rfl, q1⟩ := q1
  cases r1
  refine wpAny_truthy_bool ?_
  cases c with
  | true => exact hb pins s1 σ H1 Q I1 q1
  | false => exact ⟨.bl false, H1, I1, rfl, q1⟩
theorem pe_or (ha : PE X a ta) (hb : PE X (.BoolOp .Or (b :: rest) pos) tb) : PE X (.BoolOp .Or (a :: b :: rest) pos) (tOrV ta tb) := by
  intro pins s σ H Q I h
  refine BoolOp_or (thn (ha pins s σ H _ I h) fun v s1 ⟨x, H1, I1, r1, q1⟩ => ?_)
  obtain ⟨c, rfl, q1⟩ := q1
  cases r1
  refine wpAny_truthy_bool ?_
  cases c with
  | false => exact hb pins s1 σ H1 Q I1 q1
  | true => exact ⟨.bl true, H1, I1, rfl, q1⟩
theorem pe_not (ha : PE X a ta) : PE X (.UnaryOp .Not a pos) (tNotV ta) := by
  intro pins s σ H Q I h
  refine UnaryOp_ (thn (ha pins s σ H _ I h) fun v s1 ⟨x, H1, I1, r1, q1⟩ => ?_)
  obtain ⟨c, rfl, q1⟩ := q1
  cases r1
  exact not_of (wpAny_truthy_bool ⟨.bl (!c), H1, I1, rfl, q1⟩)
/-- a if t else b -/
def tIf (t : TT) (ta tb : TE) : TE := fun σ H Q => t σ H fun c H1 => if c = true then ta σ H1 Q else tb σ H1 Q
theorem pe_ifExp {c : Expr} (hc : PT X c tA) (ha : PE X a ta) (hb : PE X b tb) : PE X (.IfExp c a b pos) (tIf tA ta tb) := by
  intro pins s σ H Q I h
  refine wpAny_IfExp (thn (hc pins s σ H _ I h) fun d s1 ⟨H1, I1, q1⟩ => ?_)
  cases d with
  | true => exact ha pins s1 σ H1 Q I1 q1
  | false => exact hb pins s1 σ H1 Q I1 q1
end
end L2

namespace L2
open PySem PySem.Spec PyProof.Rows

def SqL (K : PySem.W.Frag) (H : Hp) (a : Addr) (xs : List V) : Prop :=
  Rd H a (.lst xs) ∨
    ∃ (o : Obj) (its : Array Value) (n : Nat), K.lookup a = some o ∧ o.cls = .type "list" ∧ o.dict = none ∧ o.data = .seq its n ∧ its.size ≤ sizeLine ∧ Vals xs its.toList
def SqT (K : PySem.W.Frag) (H : Hp) (a : Addr) (xs : List V) : Prop :=
  Rd H a (.tup xs) ∨
    ∃ (o : Obj) (its : Array Value) (n : Nat), K.lookup a = some o ∧ o.cls = .type "tuple" ∧ o.data = .seq its n ∧ its.size ≤ sizeLine ∧ Vals xs its.toList
def absV : Value → Option V
  | .none => some .non
  | .bool b => some (.bl b)
  | .int i _ => some (.int i)
  | .str x _ => some (.str x)
  | .bytes b _ => some (.byt b)
  | .float b _ => some (.flt b)
  | .ref a => some (.ref a)
  | .type n => some (.ty n)
  | _ => none
theorem RelV.abs {x : V} {u : Value} (r : RelV x u) : absV u = some x := by
  cases x with
  | non => cases r; rfl
  | bl _ => cases r; rfl
  | int _ => obtain ⟨t, rfl⟩ := r; rfl
  | str _ => obtain ⟨t, rfl⟩ := r; rfl
  | byt _ => obtain ⟨t, rfl⟩ := r; rfl
  | flt _ => obtain ⟨t, rfl⟩ := r; rfl
  | ref _ => cases r; rfl
  | ty _ => cases r; rfl
theorem RelV.inj {x y : V} {u : Value} (r : RelV x u) (q : RelV y u) : x = y := Option.some.inj (r.abs.symm.trans q.abs)
theorem Vals.inj : ∀ {xs ys : List V} {us : List Value}, Vals xs us → Vals ys us → xs = ys
  | _, _, _, .nil, .nil => rfl
  | _, _, _, .cons r t, .cons r' t' => by rw [r.inj r', Vals.inj t t']
section
variable {X : Cx} {pins : List (Addr × Obj)} {σ : St} {H : Hp} {s : Shared} {a : Addr} {xs ys : List V}
theorem SqL.of {K : PySem.W.Frag} (h : H a = some (.lst xs)) : SqL K H a xs := .inl (.inl h)
theorem SqT.of {K : PySem.W.Frag} (h : H a = some (.tup xs)) : SqT K H a xs := .inl (.inl h)
theorem Inv.list (I : Inv X pins σ H s) (h : SqL X.K H a xs) : ∃ its : List Value, Vals xs its ∧ PlainL s.heap a its.toArray ∧ xs.length ≤ sizeLine := by
  rcases h with h | ⟨o, its, n, hk, hc, hd, hs, hz, r⟩
  · obtain ⟨z, its, n, r, e⟩ := h.ok I.hok
    exact ⟨its, r, ⟨_, n, e, rfl, rfl, rfl⟩, z⟩
  · refine ⟨its.toList, r, ⟨o, n, I.kIn a o hk, hc, hd, by simpa using hs⟩, ?_⟩
    have e := r.length
    simp only [Array.length_toList] at e
    omega
theorem Inv.tuple (I : Inv X pins σ H s) (h : SqT X.K H a xs) : ∃ its : List Value, Vals xs its ∧ IsTup s.heap a its.toArray ∧ xs.length ≤ sizeLine := by
  rcases h with h | ⟨o, its, n, hk, hc, hs, hz, r⟩
  · obtain ⟨z, its, r, p⟩ := h.ok I.hok
    exact ⟨its, r, p, z⟩
  · refine ⟨its.toList, r, ⟨o, I.kIn a o hk, hc, n, by simpa using hs⟩, ?_⟩
    have e := r.length
    simp only [Array.length_toList] at e
    omega
theorem Inv.list_inj (I : Inv X pins σ H s) (h : SqL X.K H a xs) (h' : SqL X.K H a ys) : xs = ys := by
  obtain ⟨its, r, ⟨o, n, e, _, _, d⟩, _⟩ := I.list h
  obtain ⟨its', r', ⟨o', n', e', _, _, d'⟩, _⟩ := I.list h'
  rw [e] at e'; cases e'
  rw [d] at d'
  injection d' with d1 _
  have : its = its' := by simpa using congrArg Array.toList d1
  subst this
  exact r.inj r'
theorem Inv.tuple_inj (I : Inv X pins σ H s) (h : SqT X.K H a xs) (h' : SqT X.K H a ys) : xs = ys := by
  obtain ⟨its, r, ⟨o, e, _, n, d⟩, _⟩ := I.tuple h
  obtain ⟨its', r', ⟨o', e', _, n', d'⟩, _⟩ := I.tuple h'
  rw [e] at e'; cases e'
  rw [d] at d'
  injection d' with d1 _
  have : its = its' := by simpa using congrArg Array.toList d1
  subst this
  exact r.inj r'
end

abbrev Cx.wish (X : Cx) (E : Value → Shared → Prop) : Cx := { X with xe := E }
/-- no exception leaves -/
abbrev Cx.nox (X : Cx) : Cx := X.wish fun _ _ => False
theorem Cx.Ok.wish {X : Cx} (ok : X.Ok) (E : Value → Shared → Prop) : (X.wish E).Ok :=
  ⟨ok.mod, ok.kind, ok.glob, ok.blt, ok.above, ok.inj, ok.has, ok.cab, ok.hd, ok.frames, ok.stk, ok.exf, ok.bs, ok.bsz, ok.noex, ok.exfs, ok.funs, ok.frf⟩
theorem Cx.Ok.unwish {X : Cx} {E : Value → Shared → Prop} (ok : (X.wish E).Ok) : X.Ok :=
  ⟨ok.mod, ok.kind, ok.glob, ok.blt, ok.above, ok.inj, ok.has, ok.cab, ok.hd, ok.frames, ok.stk, ok.exf, ok.bs, ok.bsz, ok.noex, ok.exfs, ok.funs, ok.frf⟩
section
variable {X : Cx} {pins : List (Addr × Obj)} {σ : St} {H : Hp} {s : Shared} {E : Value → Shared → Prop}
theorem Inv.wish (I : Inv X pins σ H s) (E : Value → Shared → Prop) : Inv (X.wish E) pins σ H s := ⟨I.ok.wish E, I.os, I.bare, I.base, I.loc, I.cell, I.free, I.freeC, I.pin, I.hok, I.len⟩
theorem Inv.unwish (I : Inv (X.wish E) pins σ H s) : Inv X pins σ H s := ⟨I.ok.unwish, I.os, I.bare, I.base, I.loc, I.cell, I.free, I.freeC, I.pin, I.hok, I.len⟩
theorem SP.unwish {D : Ends} {f : Flow} {s' : Shared} (h : SP (X.wish E) pins D f s') : SP X pins D f s' := by
  cases f with
  | next => obtain ⟨σ', H', I, q⟩ := h; exact ⟨σ', H', I.unwish, q⟩
  | brk => obtain ⟨σ', H', I, q⟩ := h; exact ⟨σ', H', I.unwish, q⟩
  | cont => obtain ⟨σ', H', I, q⟩ := h; exact ⟨σ', H', I.unwish, q⟩
  | ret u => obtain ⟨v, σ', H', I, r, q⟩ := h; exact ⟨v, σ', H', I.unwish, r, q⟩
theorem PSs.nox {st : List Stmt} {t : TS} (h : PSs X.nox st t) : PSs X st t := fun pins s σ H D I hw =>
  wpAny_mono (h pins s σ H D (I.wish _) hw) (fun _ _ q => q.unwish) fun _ _ z => False.elim z
end

section
variable {X : Cx} {st : Stmt} {rest : List Stmt} {t u : TS} {e : Expr} {te : TE} {pos : Pos}
def tNext : TS := fun D σ H => D.nx σ H
def tSeq (t u : TS) : TS := fun D σ H => t { D with nx := u D } σ H
theorem pss_nil : PSs X [] tNext := fun _ _ σ H _ I h => wpAny_execs_nil ⟨σ, H, I, h⟩
theorem pss_cons (h1 : PS X st t) (h2 : PSs X rest u) : PSs X (st :: rest) (tSeq t u) := by
  intro pins s σ H D I h
  refine wpAny_execs_cons (thn (h1 pins s σ H { D with nx := u D } I h) fun f s1 q => ?_)
  cases f with
  | next =>
    obtain ⟨σ', H', I', q⟩ := q
    exact h2 pins s1 σ' H' D I' q
  | ret v => exact q
  | brk => exact q
  | cont => exact q
theorem pss_one (h1 : PS X st t) : PSs X [st] t := by
  intro pins s σ H D I h
  refine wpAny_execs_cons (thn (h1 pins s σ H D I h) fun f s1 q => ?_)
  cases f with
  | next => exact wpAny_execs_nil q
  | ret v => exact q
  | brk => exact q
  | cont => exact q
theorem ps_pass : PS X (.Pass pos) tNext := fun _ _ σ H _ I h => wpAny_Pass ⟨σ, H, I, h⟩
/-- in a def's body nothing is shown -/
theorem Inv.quiet {pins : List (Addr × Obj)} {σ : St} {H : Hp} {s : Shared} (I : Inv X pins σ H s) : interactive X.env = false := by simp [interactive, I.ok.kind]
/-- an expression whose value is dropped -/
def tDrop (te : TE) : TS := fun D σ H => te σ H fun _ H1 => D.nx σ H1
theorem ps_expr (he : PE X e te) (hs : swapsWith e none pos.line X.env = pure false := by rfl) : PS X (.Expr e pos) (tDrop te) := by
  intro pins s σ H D I h
  exact wpAny_Expr_any (thn (he pins s σ H _ I h) fun v s1 ⟨x, H1, I1, r1, q1⟩ => ⟨σ, H1, I1, q1⟩) I.quiet hs
def tRet (te : TE) : TS := fun D σ H => te σ H D.rt
theorem ps_ret (he : PE X e te) : PS X (.Return (some e) pos) (tRet te) := by
  intro pins s σ H D I h
  exact wpAny_Return_some (thn (he pins s σ H _ I h) fun v s1 ⟨x, H1, I1, r1, q1⟩ => ⟨x, σ, H1, I1, r1, q1⟩)
def tIfS (c : TT) (t u : TS) : TS := fun D σ H => c σ H fun b H1 => if b = true then t D σ H1 else u D σ H1
theorem ps_if {c : Expr} {a b : List Stmt} {tc : TT} (hc : PT X c tc) (ha : PSs X a t) (hb : PSs X b u) : PS X (.If c a b pos) (tIfS tc t u) := by
  intro pins s σ H D I h
  refine wpAny_If (thn (hc pins s σ H _ I h) fun d s1 ⟨H1, I1, q1⟩ => ?_)
  cases d with
  | true => exact ha pins s1 σ H1 D I1 q1
  | false => exact hb pins s1 σ H1 D I1 q1
end

abbrev TG := V → St → Hp → (St → Hp → Prop) → Prop
abbrev TGs := List V → St → Hp → (St → Hp → Prop) → Prop
def PG (X : Cx) (target : Expr) (t : TG) : Prop :=
  ∀ (pins : List (Addr × Obj)) (s : Shared) (σ : St) (H : Hp) (v : V) (u : Value) (Q : St → Hp → Prop), Inv X pins σ H s → RelV v u → t v σ H Q →
    wpAny (model X.prog X.w) X.A (assign target X.env u) (fun _ s' => ∃ σ' H', Inv X pins σ' H' s' ∧ Q σ' H') X.xe s
/-- several targets, one after another -/
def PGs (X : Cx) (ts : List Expr) (t : TGs) : Prop :=
  ∀ (pins : List (Addr × Obj)) (s : Shared) (σ : St) (H : Hp) (vs : List V) (us : List Value) (Q : St → Hp → Prop), Inv X pins σ H s → Vals vs us → t vs σ H Q →
    wpAny (model X.prog X.w) X.A (assignInOrder ((assignEach ts X.env).map (·.2)) us) (fun _ s' => ∃ σ' H', Inv X pins σ' H' s' ∧ Q σ' H') X.xe s
/-- o[i] = v, by values -/
abbrev TSet := V → V → V → Hp → (Hp → Prop) → Prop
def PSet (X : Cx) (t : TSet) : Prop :=
  ∀ (pins : List (Addr × Obj)) (s : Shared) (σ : St) (H : Hp) (o i v : V) (ov iv u : Value) (Q : Hp → Prop), Inv X pins σ H s → RelV o ov → RelV i iv → RelV v u → t o i v H Q →
    wpAny (model X.prog X.w) X.A (setItem ov iv u) (fun _ s' => ∃ H', Inv X pins σ H' s' ∧ Q H') X.xe s
/-- a op= b, by values -/
abbrev TIp := V → V → Hp → VK → Prop
def PIp (X : Cx) (op : Operator) (t : TIp) : Prop :=
  ∀ (pins : List (Addr × Obj)) (s : Shared) (σ : St) (H : Hp) (x y : V) (v u : Value) (Q : VK), Inv X pins σ H s → RelV x v → RelV y u → t x y H Q →
    wpAny (model X.prog X.w) X.A (inplaceOp op v u) (EP X pins σ Q) X.xe s
section
variable {X : Cx} {pos : Pos}
def gName (i : Nat) : TG := fun v σ H Q => Q (σ.set i (some v)) H
theorem pg_name {i : Nat} {x : Str} (hN : X.N.Nodup) (hi : X.N[i]? = some x) (hx : Loc X.env.scope x) (hf : X.fn x = true ∨ X.env.scope.names.lookup x = some .local := by first | exact .inl rfl | exact .inr rfl | assumption) : PG X (.Name x pos) (gName i) := by
  intro pins s σ H v u Q I r h
  exact wpAny_assign_Name (store_ok I hN hi hx r (fun s' I' => ⟨_, H, I', h⟩) hf)
def gNil : TGs := fun vs σ H Q => vs = [] ∧ Q σ H
def gCons (t : TG) (u : TGs) : TGs := fun vs σ H Q => ∃ v r, vs = v :: r ∧ t v σ H fun σ' H' => u r σ' H' Q
theorem pgs_nil : PGs X [] gNil := by
  intro pins s σ H vs us Q I r h
  obtain ⟨e, h⟩ := h
  subst e
  cases r
  exact assignInOrder_nil ⟨σ, H, I, h⟩
theorem pgs_cons {e : Expr} {es : List Expr} {t : TG} {u : TGs} (h1 : PG X e t) (h2 : PGs X es u)
    (hs : (assignEach (e :: es) X.env).map (·.2) = assign e X.env :: (assignEach es X.env).map (·.2) := by rfl) : PGs X (e :: es) (gCons t u) := by
  intro pins s σ H vs us Q I r h
  obtain ⟨v, vr, e1, h⟩ := h
  subst e1
  cases r with
  | cons r rr =>
    rw [hs]
    refine assignInOrder_cons (thn (h1 pins s σ H _ _ _ I r h) fun _ s1 ⟨σ1, H1, I1, q1⟩ => ?_)
    exact h2 pins s1 σ1 H1 _ _ Q I1 rr q1
/-- (a, b, ..) = a tuple of that length -/
def gTup (K : PySem.W.Frag) (n : Nat) (t : TGs) : TG := fun v σ H Q => ∃ a xs, v = .ref a ∧ SqT K H a xs ∧ xs.length = n ∧ t xs σ H Q
theorem pg_tup {es : List Expr} {k : Nat} {t : TGs} {n : Nat} (hc : X.calm = true) (h : PGs X es t)
    (hn : (assignEach es X.env).length = n := by rfl) (hst : (assignEach es X.env).findIdx? (·.1) = none := by rfl) : PG X (.Tuple es k pos) (gTup X.K n t) := by
  intro pins s σ H v u Q I r hw
  obtain ⟨a, xs, e1, hq, hl, hw⟩ := hw
  subst e1
  cases r
  obtain ⟨its, rv, ht, hz⟩ := I.tuple hq
  refine assign_Tuple_tuple (I.ok.hd hc) ht (by simp [hn, ← hl, rv.length]) hst fun h' hx => ?_
  have I1 : Inv X pins σ H { s with heap := h' } := I.kept (t' := s.toks) fun b o e => hx b o (Nat.ne_of_lt (Heap.lt_size e)) e
  exact h pins _ σ H xs _ Q I1 (by simpa using rv) hw
/-- o[i] = .. -/
def gSub (to ti : TE) (t : TSet) : TG := fun v σ H Q => to σ H fun o H1 => ti σ H1 fun i H2 => t o i v H2 fun H3 => Q σ H3
theorem pg_sub {o i : Expr} {to ti : TE} {t : TSet} (ho : PE X o to) (hi : PE X i ti) (hs : PSet X t)
    (ha : ∀ v, assign (.Subscript o i pos) X.env v = (do
      let ov ← holding [v] (eval o X.env)
      let iv ← holding [v, ov] (eval i X.env)
      standAt pos
      holding [v, ov, iv] (setItem ov iv v)
      release [v, ov, iv] []) := by intro _; rfl) : PG X (.Subscript o i pos) (gSub to ti t) := by
  intro pins s σ H v u Q I r h
  rw [ha]
  refine wpAny_bind (wpAny_holding (thn (ho pins s σ H _ I h) fun ov s1 ⟨x, H1, I1, r1, q1⟩ => ?_))
  refine wpAny_bind (wpAny_holding (thn (hi pins s1 σ H1 _ I1 q1) fun iv s2 ⟨y, H2, I2, r2, q2⟩ => ?_))
  refine wpAny_bind (wpAny_standAt (wpAny_bind (wpAny_holding (thn (hs pins s2 σ H2 x y v ov iv u _ I2 r1 r2 r q2) fun _ s3 ⟨H3, I3, q3⟩ => ?_))))
  exact wpAny_release ⟨σ, H3, I3, q3⟩
/-- target = value -/
def tAsg (te : TE) (g : TG) : TS := fun D σ H => te σ H fun x H1 => g x σ H1 D.nx
theorem ps_asg {tg e : Expr} {te : TE} {g : TG} (he : PE X e te) (hg : PG X tg g) (hs : swapsWithSole [tg] e pos.line X.env = pure false := by rfl) (hw : swappedStores [tg] e X.env = pure none := by rfl)
    (h1 : (assignEach [tg] X.env).map (·.2) = [assign tg X.env] := by rfl) : PS X (.Assign [tg] e pos) (tAsg te g) := by
  intro pins s σ H D I h
  refine wpAny_Assign_stores (thn (he pins s σ H _ I h) fun v s1 ⟨x, H1, I1, r1, q1⟩ => ?_) hs hw
  rw [h1]
  exact thn (hg pins s1 σ H1 x v _ I1 r1 q1) fun _ s2 q => q
/-- name = value -/
theorem ps_set {i : Nat} {x : Str} {e : Expr} {te : TE} {pos' : Pos} (hN : X.N.Nodup) (hi : X.N[i]? = some x) (hx : Loc X.env.scope x) (he : PE X e te) (hs : swapsWith e (some (.Name x pos')) pos.line X.env = pure false := by rfl) (hf : X.fn x = true ∨ X.env.scope.names.lookup x = some .local := by first | exact .inl rfl | exact .inr rfl | assumption) :
    PS X (.Assign [.Name x pos'] e pos) (tAsg te (gName i)) := by
  intro pins s σ H D I h
  refine wpAny_Assign_Name (thn (he pins s σ H _ I h) fun v s1 ⟨y, H1, I1, r1, q1⟩ => ?_) hs
  exact store_ok I1 hN hi hx r1 (fun s2 I2 => ⟨_, H1, I2, q1⟩) hf
/-- name op= e -/
def tAug (i : Nat) (te : TE) (ti : TIp) : TS := fun D σ H => ∃ x, σ[i]? = some (some x) ∧ te σ H fun y H1 => ti x y H1 fun z H2 => D.nx (σ.set i (some z)) H2
theorem ps_aug {i : Nat} {x : Str} {e : Expr} {te : TE} {op : Operator} {ti : TIp} {pos' : Pos} (hN : X.N.Nodup) (hi : X.N[i]? = some x) (hx : Loc X.env.scope x) (he : PE X e te) (ho : PIp X op ti) (hf : X.fn x = true ∨ X.env.scope.names.lookup x = some .local := by first | exact .inl rfl | exact .inr rfl | assumption) :
    PS X (.AugAssign (.Name x pos') op e pos) (tAug i te ti) := by
  intro pins s σ H D I h
  obtain ⟨v, e1, h⟩ := h
  obtain ⟨m, hn, hl⟩ := I.loc
  have vis : Vis X.env.scope x := by rcases hx with k | k; exact .inl k; exact .inr (.inl k)
  obtain ⟨u, r, l⟩ := hl i x v hi e1 vis
  refine wpAny_AugAssign_Name ?_
  have go : wpAny (model X.prog X.w) X.A (eval e X.env) (fun w s₂ => wpAny (model X.prog X.w) X.A (inplaceOp op u w) (fun r s₃ => wpAny (model X.prog X.w) X.A (storeName X.env x r) (fun _ => SP X pins D .next) X.xe s₃) X.xe s₂) X.xe s := by
    refine thn (he pins s σ H _ I h) fun w s1 ⟨y, H1, I1, r1, q1⟩ => ?_
    refine thn (ho pins s1 σ H1 v y u w _ I1 r r1 q1) fun z s2 ⟨zv, H2, I2, r2, q2⟩ => ?_
    exact store_ok I2 hN hi hx r2 (fun s3 I3 => ⟨_, H2, I3, q2⟩) hf
  rcases l with ⟨hk, hm⟩ | ⟨hk, c, hc, hcell⟩
  · exact wpAny_loadName_local I.ok.kind hk hn hm go
  · rcases hk with hk | hk
    · exact wpAny_loadName_cell I.ok.kind hk hc hcell go
    · rcases hx with k | k
      · have : X.env.scope.names.lookup x = some .free := hk
        rw [k] at this; cases this
      · have : X.env.scope.names.lookup x = some .free := hk
        rw [k] at this; cases this
/-- o[i] op= e -/
def tAugS (to ti te : TE) (tget : V → V → Hp → VK → Prop) (tip : TIp) (tset : TSet) : TS := fun D σ H => to σ H fun o H1 => ti σ H1 fun i H2 => tget o i H2 fun x H3 => te σ H3 fun y H4 => tip x y H4 fun z H5 => tset o i z H5 fun H6 => D.nx σ H6
/-- o[i], by values -/
def PGet (X : Cx) (t : V → V → Hp → VK → Prop) : Prop :=
  ∀ (pins : List (Addr × Obj)) (s : Shared) (σ : St) (H : Hp) (o i : V) (ov iv : Value) (Q : VK), Inv X pins σ H s → RelV o ov → RelV i iv → t o i H Q →
    wpAny (model X.prog X.w) X.A (getItem ov iv) (EP X pins σ Q) X.xe s
theorem ps_augS {o i e : Expr} {to ti te : TE} {tget : V → V → Hp → VK → Prop} {tip : TIp} {tset : TSet} {op : Operator} {tpos : Pos} (ho : PE X o to) (hi : PE X i ti) (hg : PGet X tget) (he : PE X e te) (hp : PIp X op tip) (hs : PSet X tset)
    (ha : ∀ ov iv new, augStore i ov iv new = (do holding [new, ov, iv] (setItem ov iv new); release [new, ov, iv] []; pure .next) := by intros; rfl) : PS X (.AugAssign (.Subscript o i tpos) op e pos) (tAugS to ti te tget tip tset) := by
  intro pins s σ H D I h
  refine wpAny_AugAssign_SubscriptAny (thn (ho pins s σ H _ I h) fun ov s1 ⟨x1, H1, I1, r1, q1⟩ => ?_) ha
  refine thn (hi pins s1 σ H1 _ I1 q1) fun iv s2 ⟨x2, H2, I2, r2, q2⟩ => ?_
  refine thn (hg pins s2 σ H2 x1 x2 ov iv _ I2 r1 r2 q2) fun old s3 ⟨x3, H3, I3, r3, q3⟩ => ?_
  refine thn (he pins s3 σ H3 _ I3 q3) fun v s4 ⟨x4, H4, I4, r4, q4⟩ => ?_
  refine thn (hp pins s4 σ H4 x3 x4 old v _ I4 r3 r4 q4) fun new s5 ⟨x5, H5, I5, r5, q5⟩ => ?_
  exact thn (hs pins s5 σ H5 x1 x2 x5 ov iv new _ I5 r1 r2 r5 q5) fun _ s6 ⟨H6, I6, q6⟩ => ⟨σ, H6, I6, q6⟩
/-- ints -/
def ipI (f : Int → Int → Int) : TIp := fun x y H Q => ∃ i j, x = .int i ∧ y = .int j ∧ Q (.int (f i j)) H
theorem ip_add : PIp X .Add (ipI fun i j => i + j) := by
  intro pins s σ H x y v u Q I r1 r2 h
  obtain ⟨i, j, e1, e2, q⟩ := h
  subst e1; subst e2
  obtain ⟨t, rfl⟩ := r1
  obtain ⟨t', rfl⟩ := r2
  exact iadd_int ⟨.int _, H, I.tok _, ⟨_, rfl⟩, q⟩
end

section
variable {X : Cx} {pos : Pos}
/-- the invariant W with its measure -/
def tWhile (c : TT) (tb : TS) : TS := fun D σ H => ∃ W : Nat → St → Hp → Prop, (∃ m, W m σ H) ∧ ∀ m σ H, W m σ H →
  c σ H fun b H1 => if b = true then ∃ N : St → Hp → Prop, (∀ σ' H', N σ' H' → ∃ m', m' < m ∧ W m' σ' H') ∧ tb { D with nx := N, ct := N, bk := D.nx } σ H1 else D.nx σ H1
theorem ps_while {c : Expr} {body : List Stmt} {tc : TT} {tb : TS} (hp : PassesOwn (model X.prog X.w) X.A X.env X.xe) (hc : PT X c tc) (hb : PSs X body tb) : PS X (.While c body [] pos) (tWhile tc tb) := by
  intro pins s σ H D I h
  obtain ⟨W, ⟨m0, w0⟩, turn⟩ := h
  refine wpAny_While (codeAny_whileLoop (fun n s' => ∃ σ' H', Inv X pins σ' H' s' ∧ W n σ' H') ?_ m0 ⟨σ, H, I, w0⟩)
  rintro n s1 ⟨σ1, H1, I1, w1⟩
  refine wpAny_passesOwn hp (thn (hc pins s1 σ1 H1 _ I1 (turn n σ1 H1 w1)) fun b s2 ⟨H2, I2, q2⟩ => ?_)
  cases b with
  | true =>
    obtain ⟨N, hN, q2⟩ := q2
    rw [if_pos rfl]
    refine wpAny_passesOwn hp (thn (hb pins s2 σ1 H2 _ I2 q2) fun f s3 q3 => ?_)
    cases f with
    | next =>
      obtain ⟨σ3, H3, I3, n3⟩ := q3
      obtain ⟨m', hm, w3⟩ := hN σ3 H3 n3
      exact ⟨m', hm, σ3, H3, I3, w3⟩
    | cont =>
      obtain ⟨σ3, H3, I3, n3⟩ := q3
      obtain ⟨m', hm, w3⟩ := hN σ3 H3 n3
      exact ⟨m', hm, σ3, H3, I3, w3⟩
    | brk => exact q3
    | ret v => exact q3
  | false =>
    rw [if_neg Bool.false_ne_true]
    exact wpAny_execs_nil ⟨σ1, H2, I2, q2⟩
end

/-- at turn i: it yields x (the heap may grow), or it stops -/
structure It where
  go : Nat → Hp → Prop
  yld : Nat → Hp → V → Hp → Prop
  stop : Nat → Hp → Prop
/-- the iterator's own objects may turn: they are not the frame's, not pinned, younger than the entry (or a comprehension's own) -/
def FpOk (X : Cx) (pins : List (Addr × Obj)) (H : Hp) (b : Addr) : Prop :=
  H b = none ∧ b ≠ X.env.locals ∧ b ∉ X.fs ∧ (b ∈ X.ex ∨ X.s₀.heap.objs.size ≤ b) ∧ (∀ x c, X.env.cells.lookup x = some c → c ≠ b) ∧ ∀ p ∈ X.pn ++ pins, p.1 ≠ b
theorem Inv.fpOk {X : Cx} {pins : List (Addr × Obj)} {σ : St} {H H' : Hp} {s : Shared} {b : Addr} (I : Inv X pins σ H s) (hb : s.heap.objs.size ≤ b) (hn : H' b = none) : FpOk X pins H' b := by
  refine ⟨hn, Nat.ne_of_gt (Nat.lt_of_lt_of_le I.lt hb), I.nofs hb, .inr (Nat.le_trans I.sz hb), fun x c e z => ?_, fun p hp z => ?_⟩
  · obtain ⟨v, q⟩ := I.cell x c e
    exact absurd (Nat.lt_of_lt_of_le q.lt (by rw [z]; exact hb)) (Nat.lt_irrefl _)
  · exact absurd (Nat.lt_of_lt_of_le (Heap.lt_size (I.pin p hp).1) (by rw [z]; exact hb)) (Nat.lt_irrefl _)
structure Turn (P : Program) (w : World) (K : PySem.W.Frag) (tg : Expr) (J : It) (fp : List Addr) (it : Addr) (tn : Nat → Heap → Prop) : Prop where
  mem : it ∈ fp
  obj : ∀ i h, tn i h → ∀ b ∈ fp, ∃ o, h.get? b = some o ∧ ∀ v, o.data ≠ .cell v
  keep : ∀ i h h', tn i h → (∀ b ∈ fp, ∀ o, h.get? b = some o → h'.get? b = some o) → tn i h'
  item : ∀ (X : Cx), X.prog = P → X.w = w → X.K = K → X.calm = true → ∀ (i : Nat) (pins : List (Addr × Obj)) (s : Shared) (σ : St) (H : Hp) (E : Value → Shared → Prop), Inv X pins σ H s → (∀ b ∈ fp, FpOk X pins H b) → tn i s.heap → J.go i H →
    wpAny (model P w) X.A (pyNext (.ref it)) (fun r s1 => ∃ u, r = some u ∧
      wpAny (model P w) X.A (letOwnedTupleGo tg (.ref it) u) (fun _ s2 => ∃ x H', Inv X pins σ H' s2 ∧ RelV x u ∧ J.yld i H x H' ∧ tn (i + 1) s2.heap ∧ ∀ b ∈ fp, H' b = none) E s1) E s
  done : ∀ (X : Cx), X.prog = P → X.w = w → X.K = K → X.calm = true → ∀ (i : Nat) (pins : List (Addr × Obj)) (s : Shared) (σ : St) (H : Hp) (E : Value → Shared → Prop), Inv X pins σ H s → (∀ b ∈ fp, FpOk X pins H b) → tn i s.heap → J.stop i H →
    wpAny (model P w) X.A (pyNext (.ref it)) (fun r s1 => r = none ∧ Inv X pins σ H s1) E s
  self : ∀ (A : Around) (i : Nat) (s : Shared) (Q : Value → Shared → Prop) (E : Value → Shared → Prop), tn i s.heap → Q (.ref it) s → wpAny (model P w) A (pyIter (.ref it)) Q E s
abbrev TI := St → Hp → (It → Hp → Prop) → Prop
/-- an iterator has come -/
def PIE (X : Cx) (pins : List (Addr × Obj)) (σ : St) (tg : Expr) (R : It → Hp → Prop) (itv : Value) (s2 : Shared) : Prop :=
  ∃ (it : Addr) (fp : List Addr) (tn : Nat → Heap → Prop) (J : It) (H' : Hp), itv = .ref it ∧ Inv X pins σ H' s2 ∧ Turn X.prog X.w X.K tg J fp it tn ∧ tn 0 s2.heap ∧ (∀ b ∈ fp, FpOk X pins H' b) ∧ R J H'
def PI (X : Cx) (tg iter : Expr) (wi : TI) : Prop :=
  ∀ (pins : List (Addr × Obj)) (s : Shared) (σ : St) (H : Hp) (R : It → Hp → Prop), Inv X pins σ H s → wi σ H R →
    wpAny (model X.prog X.w) X.A (eval iter X.env) (fun v s1 => wpAny (model X.prog X.w) X.A (pyIter v) (PIE X pins σ tg R) X.xe s1) X.xe s

/-- the step ahead of the store is nothing for an iterator that keeps no tuple -/
theorem go_of {M : Model} {A : Around} {E : Value → Shared → Prop} {s : Shared} {tg : Expr} {it : Addr} {u : Value} {o : Obj} {n : String} {vs : Array Value} {Q : Unit → Shared → Prop} (ho : s.heap.get? it = some o) (hc : o.cls = .type n) (hd : o.data = .fields vs)
    (hn : ["enumerate", "zip", "dict_itemiterator", "dict_reverseitemiterator", "odict_iterator", "itertools.zip_longest", "itertools.pairwise"].contains n = false) (hQ : Q () s) : wpAny M A (letOwnedTupleGo tg (.ref it) u) Q E s := by
  unfold letOwnedTupleGo
  cases tg <;> first
    | exact wpAny_pure hQ
    | (cases u <;> first
        | exact wpAny_pure hQ
        | (refine wpAny_bind (wpAny_load ho ?_)
           rw [hc, hd]
           show wpAny M A (if (["enumerate", "zip", "dict_itemiterator", "dict_reverseitemiterator", "odict_iterator", "itertools.zip_longest", "itertools.pairwise"].contains n && vs[0]? == some (rawInt _)) = true then _ else _) Q E s
           rw [if_neg (by intro h; rw [hn, Bool.false_and] at h; cases h)]
           exact wpAny_pure hQ))

/-- the list at a, as it stands at each turn (a loop may append to it) -/
def Itl (K : PySem.W.Frag) (a : Addr) : It :=
  ⟨fun i H => ∃ xs x, SqL K H a xs ∧ xs[i]? = some x, fun i H x H' => H' = H ∧ ∀ xs, SqL K H a xs → xs[i]? = some x, fun i H => ∃ xs, SqL K H a xs ∧ xs.length ≤ i⟩
def Itt (K : PySem.W.Frag) (a : Addr) : It :=
  ⟨fun i H => ∃ xs x, SqT K H a xs ∧ xs[i]? = some x, fun i H x H' => H' = H ∧ ∀ xs, SqT K H a xs → xs[i]? = some x, fun i H => ∃ xs, SqT K H a xs ∧ xs.length ≤ i⟩
/-- lo, lo + 1, .. (n of them) -/
def Itr (lo : Int) (n : Nat) : It := ⟨fun i _ => i < n, fun i H x H' => H' = H ∧ x = .int (lo + i), fun i _ => n ≤ i⟩
theorem turn_list {P : Program} {w : World} {K : PySem.W.Frag} {tg : Expr} (a it : Addr) : Turn P w K tg (Itl K a) [it] it (fun i h => h.IsListIter it a i) where
  mem := by simp
  obj := fun i h st b hb => by
    have e : b = it := by simpa using hb
    subst e
    obtain ⟨o, e, c, d⟩ := st
    exact ⟨o, e, fun v z => by rw [d] at z; cases z⟩
  keep := fun i h h' st k => st.at fun o e => k it (by simp) o e
  item := by
    intro X hP hw hK hc i pins s σ H E I hf st hg
    subst hP hw hK
    obtain ⟨xs, x, hq, hx⟩ := hg
    obtain ⟨its, rv, p, hz⟩ := I.list hq
    obtain ⟨u, hu, ru⟩ := rv.get hx
    obtain ⟨f0, f1, f2, f3, f4, f5⟩ := hf it (by simp)
    refine wpAny_pyNext_list_item st p.isList (x := u) (by simpa using hu) fun h' st' sb => ?_
    have I1 : Inv X pins σ H { s with heap := h' } := I.turned (t' := s.toks) (fun b o hb e => (sb.2 b hb).trans e) f0 f1 f3 f4 f5
    obtain ⟨o, e, c, d⟩ := id st'
    exact ⟨u, rfl, go_of (s := { s with heap := h' }) e c d (by decide) ⟨x, H, I1, ru, ⟨rfl, fun ys hy => by rw [I.list_inj hy hq]; exact hx⟩, st', fun b hb => (hf b hb).1⟩⟩
  done := by
    intro X hP hw hK hc i pins s σ H E I hf st hg
    subst hP hw hK
    obtain ⟨xs, hq, hx⟩ := hg
    obtain ⟨its, rv, p, hz⟩ := I.list hq
    obtain ⟨f0, f1, f2, f3, f4, f5⟩ := hf it (by simp)
    have hl := rv.length
    exact wpAny_pyNext_list_end (I.ok.hd hc) st p.isList (by simp; omega) fun h' eb => ⟨rfl, I.turned (t' := s.toks) (fun b o hb e => eb b o hb e) f0 f1 f3 f4 f5⟩
  self := fun _ _ _ _ _ st h => wpAny_pyIter_listiter st h
theorem turn_tuple {P : Program} {w : World} {K : PySem.W.Frag} {tg : Expr} (a it : Addr) : Turn P w K tg (Itt K a) [it] it (fun i h => h.IsTupleIter it a i) where
  mem := by simp
  obj := fun i h st b hb => by
    have e : b = it := by simpa using hb
    subst e
    obtain ⟨o, e, c, d⟩ := st
    exact ⟨o, e, fun v z => by rw [d] at z; cases z⟩
  keep := fun i h h' st k => st.at fun o e => k it (by simp) o e
  item := by
    intro X hP hw hK hc i pins s σ H E I hf st hg
    subst hP hw hK
    obtain ⟨xs, x, hq, hx⟩ := hg
    obtain ⟨its, rv, p, hz⟩ := I.tuple hq
    obtain ⟨u, hu, ru⟩ := rv.get hx
    obtain ⟨f0, f1, f2, f3, f4, f5⟩ := hf it (by simp)
    refine wpAny_pyNext_tuple_item st (show s.heap.IsTuple a its.toArray from p) (x := u) (by simpa using hu) fun h' st' sb => ?_
    have I1 : Inv X pins σ H { s with heap := h' } := I.turned (t' := s.toks) (fun b o hb e => (sb.2 b hb).trans e) f0 f1 f3 f4 f5
    obtain ⟨o, e, c, d⟩ := id st'
    exact ⟨u, rfl, go_of (s := { s with heap := h' }) e c d (by decide) ⟨x, H, I1, ru, ⟨rfl, fun ys hy => by rw [I.tuple_inj hy hq]; exact hx⟩, st', fun b hb => (hf b hb).1⟩⟩
  done := by
    intro X hP hw hK hc i pins s σ H E I hf st hg
    subst hP hw hK
    obtain ⟨xs, hq, hx⟩ := hg
    obtain ⟨its, rv, p, hz⟩ := I.tuple hq
    obtain ⟨f0, f1, f2, f3, f4, f5⟩ := hf it (by simp)
    have hl := rv.length
    exact wpAny_pyNext_tuple_end (I.ok.hd hc) st (show s.heap.IsTuple a its.toArray from p) (by simp; omega) fun h' eb => ⟨rfl, I.turned (t' := s.toks) (fun b o hb e => eb b o hb e) f0 f1 f3 f4 f5⟩
  self := fun _ _ _ _ _ st h => wpAny_pyIter_tupleiter st h
theorem turn_range {P : Program} {w : World} {K : PySem.W.Frag} {tg : Expr} (it : Addr) (lo : Int) (n : Nat) : Turn P w K tg (Itr lo n) [it] it (fun i h => IsRangeIter h it (lo + (i : Nat) * 1) ((n : Int) - (i : Nat)) 1) where
  mem := by simp
  obj := fun i h st b hb => by
    have e : b = it := by simpa using hb
    subst e
    exact ⟨_, st, fun v z => by
      have z' : Data.fields _ = Data.cell v := z
      cases z'⟩
  keep := fun i h h' st k => k it (by simp) _ st
  item := by
    intro X hP hw hK hc i pins s σ H E I hf st hg
    subst hP hw hK
    obtain ⟨f0, f1, f2, f3, f4, f5⟩ := hf it (by simp)
    have W := Walks.range (prog := X.prog) (w := X.w) (I.ok.hd hc) it lo 1 n
    refine W.item i s _ _ hg st fun v h' tk hv st' kk => ?_
    obtain ⟨t, rfl⟩ := hv
    have I1 : Inv X pins σ H { s with heap := h', toks := tk } := I.turned (fun b o hb e => kk b o (by simpa using hb) e) f0 f1 f3 f4 f5
    refine ⟨_, rfl, go_of (s := { s with heap := h', toks := tk }) (n := "range_iterator") st' rfl rfl (by decide) ⟨.int (lo + i), H, I1, ⟨t, ?_⟩, ⟨rfl, rfl⟩, st', fun b hb => (hf b hb).1⟩⟩
    rw [Int.mul_one]
  done := by
    intro X hP hw hK hc i pins s σ H E I hf st hg
    subst hP hw hK
    obtain ⟨f0, f1, f2, f3, f4, f5⟩ := hf it (by simp)
    exact wpAny_pyNext_range_end (I.ok.hd hc) st (by have : n ≤ i := hg; omega) fun h' eb => ⟨rfl, I.turned (t' := s.toks) (fun b o hb e => eb b o hb e) f0 f1 f3 f4 f5⟩
  self := fun _ _ _ _ _ st h => wpAny_pyIter_rangeiter st h
end L2

namespace L2
open PySem PySem.Spec PyProof.Rows
section
variable {X : Cx} {tg : Expr}
/-- a range object just made, walked -/
theorem range_it {pins : List (Addr × Obj)} {σ : St} {H : Hp} {s : Shared} {R : It → Hp → Prop} {E : Value → Shared → Prop} {lo hi : Int} {t u v : Tok} {tk : Nat} (I : Inv X pins σ H s) (h1 : -(2 ^ 62) ≤ lo) (h2 : lo < 2 ^ 62) (h3 : -(2 ^ 62) ≤ hi) (h4 : hi < 2 ^ 62)
    (q : R (Itr lo (hi - lo).toNat) H) : wpAny (model X.prog X.w) X.A (pyIter (.ref s.heap.objs.size)) (PIE X pins σ tg R) E { s with heap := s.heap.push { cls := .type "range", data := .fields #[.int lo t, .int hi u, .int 1 v] }, toks := tk } := by
  refine wpAny_pyIter_range (IsRange.new ..) (small_one h1 h2 h3 h4) ?_
  have I1 : Inv X pins σ H { s with heap := s.heap.push { cls := .type "range", data := .fields #[.int lo t, .int hi u, .int 1 v] }, toks := tk } := I.kept fun b o e => Heap.get?_push_of_some _ e
  refine ⟨(s.heap.push { cls := .type "range", data := .fields #[.int lo t, .int hi u, .int 1 v] }).objs.size, [(s.heap.push { cls := .type "range", data := .fields #[.int lo t, .int hi u, .int 1 v] }).objs.size], _, _, H, rfl,
    I1.kept (t' := tk) fun b o e => Heap.get?_push_of_some _ e, turn_range _ lo (hi - lo).toNat, ?_, fun b hb => ?_, q⟩
  · have e1 : lo + ((0 : Nat) : Int) * 1 = lo := by simp
    have e2 : (((hi - lo).toNat : Nat) : Int) - ((0 : Nat) : Int) = Builtin.Range.rangeSize lo hi 1 := by rw [rangeSize_one]; split <;> omega
    show IsRangeIter _ _ (lo + ((0 : Nat) : Int) * 1) ((((hi - lo).toNat : Nat) : Int) - ((0 : Nat) : Int)) 1
    rw [e1, e2]
    exact Heap.get?_push_size _ rfl
  · have e : b = (s.heap.push { cls := .type "range", data := .fields #[.int lo t, .int hi u, .int 1 v] }).objs.size := by simpa using hb
    subst e
    exact I1.fpOk (Nat.le_refl _) (I1.hok.fresh (Nat.le_refl _))
def iRng1 (ta : TA) : TI := fun σ H R => ta σ H fun vs H1 => ∃ j : Int, vs = [.int j] ∧ -(2 ^ 62) ≤ j ∧ j < 2 ^ 62 ∧ R (Itr 0 j.toNat) H1
theorem pi_range1 {a : Expr} {ta : TA} {p pos : Pos} (hg : Gl X "range") (hm : X.mg "range" = none) (ha : PA X [a] ta) (hs : starEach [a] X.env = [(false, eval a X.env)] := by rfl) : PI X tg (.Call (.Name "range" p) [a] [] pos) (iRng1 ta) := by
  intro pins s σ H R I h
  refine Call_ (ld_blt I hg hm boot_range (PyProof.Rows.callWith_type1 (thn (ha pos pins s σ H _ I h) fun us s1 ⟨vs, H1, I1, r1, q1⟩ => ?_) hs rfl))
  obtain ⟨j, e, q1, q2, q⟩ := q1
  subst e
  cases r1 with
  | cons r rr =>
    cases rr
    obtain ⟨t, rfl⟩ := r
    exact call_range_1 (range_it I1 (by omega) (by omega) q1 q2 (by simpa using q))

/-- W: the invariant by the turn and a measure; N: what the body is to reach -/
def tFor (wi : TI) (g : TG) (tb : TS) : TS := fun D σ H => wi σ H fun J H1 => ∃ W : Nat → Nat → St → Hp → Prop, (∃ m, W 0 m σ H1) ∧ ∀ i m σ H, W i m σ H →
  (J.stop i H ∧ D.nx σ H) ∨ (J.go i H ∧ ∃ N : St → Hp → Prop, (∀ σ' H', N σ' H' → ∃ m', m' < m ∧ W (i + 1) m' σ' H') ∧ ∀ x H', J.yld i H x H' → g x σ H' fun σ2 H2 => tb { D with nx := N, ct := N, bk := D.nx } σ2 H2)
/-- the records at fp as they stand -/
def pinsAt (fp : List Addr) (h : Heap) : List (Addr × Obj) := fp.filterMap fun b => (h.get? b).map fun o => (b, o)
theorem mem_pinsAt {fp : List Addr} {h : Heap} {b : Addr} {o : Obj} (hb : b ∈ fp) (e : h.get? b = some o) : (b, o) ∈ pinsAt fp h := List.mem_filterMap.mpr ⟨b, hb, by rw [e]; rfl⟩
theorem of_pinsAt {fp : List Addr} {h : Heap} {p : Addr × Obj} (hp : p ∈ pinsAt fp h) : p.1 ∈ fp ∧ h.get? p.1 = some p.2 := by
  obtain ⟨b, hb, e⟩ := List.mem_filterMap.mp hp
  cases q : h.get? b with
  | none => rw [q] at e; cases e
  | some o =>
    rw [q] at e
    have e' : (b, o) = p := Option.some.inj e
    subst e'
    exact ⟨hb, q⟩
theorem Inv.pinned {pins : List (Addr × Obj)} {σ : St} {H : Hp} {s : Shared} {fp : List Addr} (I : Inv X pins σ H s) (hf : ∀ b ∈ fp, FpOk X pins H b) (ho : ∀ b ∈ fp, ∃ o, s.heap.get? b = some o ∧ ∀ v, o.data ≠ .cell v) : Inv X (pins ++ pinsAt fp s.heap) σ H s :=
  I.pins_of fun p hp => (List.mem_append.mp hp).elim (fun z => I.pin p (List.mem_append_right _ z)) fun z => by
    obtain ⟨hb, e⟩ := of_pinsAt z
    obtain ⟨f0, f1, f2, _⟩ := hf p.1 hb
    obtain ⟨o, e', d⟩ := ho p.1 hb
    rw [e] at e'; cases e'
    exact ⟨e, f0, f1, f2, d⟩
theorem Inv.unpinned {pins pl : List (Addr × Obj)} {σ : St} {H : Hp} {s : Shared} (I : Inv X (pins ++ pl) σ H s) : Inv X pins σ H s := I.pins_of fun p hp => I.pin p (List.mem_append_right _ (List.mem_append_left _ hp))
theorem ps_for {iter : Expr} {body : List Stmt} {wi : TI} {g : TG} {tb : TS} {pos : Pos} (hp : PassesOwn (model X.prog X.w) X.A X.env X.xe) (hc : X.calm = true) (hi : PI X tg iter wi) (hg : PG X tg g) (hb : PSs X body tb)
    (hs : ∀ x, foldedSetIterable iter X.env x = pure x := by intro _; rfl) : PS X (.For tg iter body [] pos) (tFor wi g tb) := by
  intro pins s σ H D I h
  refine wpAny_For (thn (hi pins s σ H _ I h) fun v s1 h1 => thn h1 fun itv s2 h2 => ?_) hs
  obtain ⟨it, fp, tn, J, H2, e, I2, T, st2, f2, W, ⟨m0, w0⟩, turn⟩ := h2
  subst e
  -- what stays true of the iterator's objects through the loop
  have stat : ∀ {H' : Hp}, (∀ b ∈ fp, H' b = none) → ∀ b ∈ fp, FpOk X pins H' b := fun hn b hb => ⟨hn b hb, (f2 b hb).2⟩
  refine codeAny_forLoop_any (fun n s' => ∃ i σ' H', Inv X pins σ' H' s' ∧ tn i s'.heap ∧ (∀ b ∈ fp, H' b = none) ∧ W i n σ' H') ?_ m0 ⟨0, σ, H2, I2, st2, fun b hb => (f2 b hb).1, w0⟩
  rintro n s3 ⟨i, σ3, H3, I3, st3, fr3, w3⟩
  rcases turn i n σ3 H3 w3 with ⟨stop, qn⟩ | ⟨go, N, hN, step⟩
  · refine wpAny_passesOwn hp (thn (T.done X rfl rfl rfl hc i pins s3 σ3 H3 X.xe I3 (stat fr3) st3 stop) fun r s4 ⟨hr, I4⟩ => ?_)
    subst hr
    exact wpAny_execs_nil ⟨σ3, H3, I4, qn⟩
  · refine wpAny_passesOwn hp (thn (T.item X rfl rfl rfl hc i pins s3 σ3 H3 X.xe I3 (stat fr3) st3 go) fun r s4 ⟨u, hr, h4⟩ => ?_)
    subst hr
    refine wpAny_passesOwn hp (thn h4 fun _ s5 ⟨x, H5, I5, r5, y5, st5, fr5⟩ => ?_)
    have I5' := I5.pinned (stat fr5) (T.obj _ _ st5)
    refine wpAny_passesOwn hp (thn (hg _ s5 σ3 H5 x u _ I5' r5 (step x H5 y5)) fun _ s6 ⟨σ6, H6, I6, q6⟩ => ?_)
    refine wpAny_passesOwn hp (thn (hb _ s6 σ6 H6 _ I6 q6) fun f s7 q7 => ?_)
    have again : ∀ {σ7 : St} {H7 : Hp}, Inv X (pins ++ pinsAt fp s5.heap) σ7 H7 s7 → N σ7 H7 → ∃ m, m < n ∧ ∃ i σ' H', Inv X pins σ' H' s7 ∧ tn i s7.heap ∧ (∀ b ∈ fp, H' b = none) ∧ W i m σ' H' := fun {σ7 H7} I7 n7 => by
      obtain ⟨m', hm, w7⟩ := hN σ7 H7 n7
      refine ⟨m', hm, i + 1, σ7, H7, I7.unpinned, T.keep _ _ _ st5 fun b hb o e => (I7.pin (b, o) (List.mem_append_right _ (List.mem_append_right _ (mem_pinsAt hb e)))).1, fun b hb => ?_, w7⟩
      obtain ⟨o, e, d⟩ := T.obj _ _ st5 b hb
      exact (I7.pin (b, o) (List.mem_append_right _ (List.mem_append_right _ (mem_pinsAt hb e)))).2.1
    cases f with
    | next => obtain ⟨σ7, H7, I7, n7⟩ := q7; exact again I7 n7
    | cont => obtain ⟨σ7, H7, I7, n7⟩ := q7; exact again I7 n7
    | brk => obtain ⟨σ7, H7, I7, q7⟩ := q7; exact ⟨σ7, H7, I7.unpinned, q7⟩
    | ret v => obtain ⟨x7, σ7, H7, I7, r7, q7⟩ := q7; exact ⟨x7, σ7, H7, I7.unpinned, r7, q7⟩
end

end L2

namespace L2
open PySem PySem.Spec PyProof.Rows

abbrev R2 := V → V → Hp → VK → Prop
/-- a two-place operation on values: f is binaryOp op, inplaceOp op or compareOp op -/
def OpR (X : Cx) (f : Value → Value → Sem Value) (r : R2) : Prop :=
  ∀ (pins : List (Addr × Obj)) (s : Shared) (σ : St) (H : Hp) (x y : V) (v u : Value) (Q : VK), Inv X pins σ H s → RelV x v → RelV y u → r x y H Q →
    wpAny (model X.prog X.w) X.A (f v u) (EP X pins σ Q) X.xe s
/-- a one-place operation -/
def UnR (X : Cx) (f : Value → Sem Value) (r : V → Hp → VK → Prop) : Prop :=
  ∀ (pins : List (Addr × Obj)) (s : Shared) (σ : St) (H : Hp) (x : V) (v : Value) (Q : VK), Inv X pins σ H s → RelV x v → r x H Q →
    wpAny (model X.prog X.w) X.A (f v) (EP X pins σ Q) X.xe s
/-- a call of a value that is known (a builtin, a type) with values -/
def CallR (X : Cx) (f : Value) (r : List V → Hp → VK → Prop) : Prop :=
  ∀ (pins : List (Addr × Obj)) (s : Shared) (σ : St) (H : Hp) (xs : List V) (us : List Value) (Q : VK), Inv X pins σ H s → Vals xs us → r xs H Q →
    wpAny (model X.prog X.w) X.A (call f us) (EP X pins σ Q) X.xe s

def tOp (r : R2) (ta tb : TE) : TE := fun σ H Q => ta σ H fun x H1 => tb σ H1 fun y H2 => r x y H2 Q
def tUn (r : V → Hp → VK → Prop) (ta : TE) : TE := fun σ H Q => ta σ H fun x H1 => r x H1 Q
/-- ints in, under C, and a value out -/
def rI (C : Int → Int → Prop) (g : Int → Int → V) : R2 := fun x y H Q => ∃ i j, x = .int i ∧ y = .int j ∧ C i j ∧ Q (g i j) H
def rI0 (g : Int → Int → V) : R2 := fun x y H Q => ∃ i j, x = .int i ∧ y = .int j ∧ Q (g i j) H
def rU (g : Int → V) : V → Hp → VK → Prop := fun x H Q => ∃ i, x = .int i ∧ Q (g i) H

section
variable {X : Cx} {a b c : Expr} {ta tb tc : TE} {pos : Pos}

theorem binT (ha : PE X a ta) (hb : PE X b tb) {pins : List (Addr × Obj)} {s : Shared} {σ : St} {H : Hp} {R : V → V → Hp → Prop} (I : Inv X pins σ H s)
    (h : ta σ H fun x H1 => tb σ H1 fun y H2 => R x y H2) {Q : Value → Shared → Prop} {f : Value → Value → Sem Value}
    (hf : ∀ v u s2 x y H2, Inv X pins σ H2 s2 → RelV x v → RelV y u → R x y H2 → wpAny (model X.prog X.w) X.A (f v u) Q X.xe s2) :
    wpAny (model X.prog X.w) X.A (eval a X.env) (fun v s₁ => wpAny (model X.prog X.w) X.A (eval b X.env) (fun u s₂ => wpAny (model X.prog X.w) X.A (f v u) Q X.xe s₂) X.xe s₁) X.xe s := by
  refine thn (ha pins s σ H _ I h) fun v s1 ⟨x, H1, I1, r1, q1⟩ => ?_
  refine thn (hb pins s1 σ H1 _ I1 q1) fun u s2 ⟨y, H2, I2, r2, q2⟩ => ?_
  exact hf v u s2 x y H2 I2 r1 r2 q2

theorem pe_op {op : Operator} {r : R2} (ho : OpR X (binaryOp op) r) (ha : PE X a ta) (hb : PE X b tb) : PE X (.BinOp a op b pos) (tOp r ta tb) := by
  intro pins s σ H Q I h
  exact wpAny_BinOp (binT ha hb I h fun v u s2 x y H2 I2 rx ry q => ho pins s2 σ H2 x y v u Q I2 rx ry q)
theorem pe_un {op : UnaryOp} {r : V → Hp → VK → Prop} (ho : UnR X (unaryOp op) r) (ha : PE X a ta) : PE X (.UnaryOp op a pos) (tUn r ta) := by
  intro pins s σ H Q I h
  exact UnaryOp_ (thn (ha pins s σ H _ I h) fun v s1 ⟨x, H1, I1, r1, q1⟩ => ho pins s1 σ H1 x v Q I1 r1 q1)

theorem opI {f : Value → Value → Sem Value} {C : Int → Int → Prop} {g : Int → Int → Int}
    (rule : ∀ (i j : Int) (t u : Tok) (s : Shared) (Q : Value → Shared → Prop) (E : Value → Shared → Prop), C i j → Q (.int (g i j) s.toks) { s with toks := s.toks + 1 } → wpAny (model X.prog X.w) X.A (f (.int i t) (.int j u)) Q E s) :
    OpR X f (rI C fun i j => .int (g i j)) := by
  intro pins s σ H x y v u Q I rx ry h
  obtain ⟨i, j, rfl, rfl, hc, q⟩ := h
  obtain ⟨t, rfl⟩ := rx
  obtain ⟨t', rfl⟩ := ry
  exact rule i j t t' s _ _ hc ⟨.int (g i j), H, I.tok _, ⟨_, rfl⟩, q⟩
theorem opI0 {f : Value → Value → Sem Value} {g : Int → Int → Int}
    (rule : ∀ (i j : Int) (t u : Tok) (s : Shared) (Q : Value → Shared → Prop) (E : Value → Shared → Prop), Q (.int (g i j) s.toks) { s with toks := s.toks + 1 } → wpAny (model X.prog X.w) X.A (f (.int i t) (.int j u)) Q E s) :
    OpR X f (rI0 fun i j => .int (g i j)) := by
  intro pins s σ H x y v u Q I rx ry h
  obtain ⟨i, j, rfl, rfl, q⟩ := h
  obtain ⟨t, rfl⟩ := rx
  obtain ⟨t', rfl⟩ := ry
  exact rule i j t t' s _ _ ⟨.int (g i j), H, I.tok _, ⟨_, rfl⟩, q⟩
theorem opB0 {f : Value → Value → Sem Value} {g : Int → Int → Bool}
    (rule : ∀ (i j : Int) (t u : Tok) (s : Shared) (Q : Value → Shared → Prop) (E : Value → Shared → Prop), Q (.bool (g i j)) s → wpAny (model X.prog X.w) X.A (f (.int i t) (.int j u)) Q E s) :
    OpR X f (rI0 fun i j => .bl (g i j)) := by
  intro pins s σ H x y v u Q I rx ry h
  obtain ⟨i, j, rfl, rfl, q⟩ := h
  obtain ⟨t, rfl⟩ := rx
  obtain ⟨t', rfl⟩ := ry
  exact rule i j t t' s _ _ ⟨.bl (g i j), H, I, rfl, q⟩

def CPow (i j : Int) : Prop := 0 ≤ j ∧ j ≤ 1000000 ∧ i.natAbs < 2 ^ 64
def CMul (i j : Int) : Prop := (-(2 ^ 64) < i ∧ i < 2 ^ 64) ∨ (-(2 ^ 64) < j ∧ j < 2 ^ 64)
theorem CMul.ok {i j : Int} (h : CMul i j) : IntMulOk i j := by
  rcases h with ⟨h1, h2⟩ | ⟨h1, h2⟩
  · exact .of_left (intBits_le_64 h1 h2)
  · exact .of_right (intBits_le_64 h1 h2)

theorem op_add : OpR X (binaryOp .Add) (rI0 fun i j => .int (i + j)) := opI0 fun _ _ _ _ _ _ _ q => add_int q
theorem op_sub : OpR X (binaryOp .Sub) (rI0 fun i j => .int (i - j)) := opI0 fun _ _ _ _ _ _ _ q => sub_int q
theorem op_mul : OpR X (binaryOp .Mult) (rI CMul fun i j => .int (i * j)) := opI fun _ _ _ _ _ _ _ hc q => mul_int q hc.ok
/-- % by a positive divisor of any size -/
theorem op_mod : OpR X (binaryOp .Mod) (rI (fun _ j => 0 < j) fun i j => .int (i % j)) := opI fun i j _ _ _ _ _ hc q => by
  have h1 : (0 : Int) < j := hc
  exact mod_int' (by omega) (by rw [Int.fmod_eq_emod_of_nonneg i (by omega)]; exact q)
theorem op_pow : OpR X (binaryOp .Pow) (rI CPow fun i j => .int (i ^ j.toNat)) := opI fun _ _ _ _ _ _ _ hc q => pow_int_small hc.1 hc.2.1 hc.2.2 q


theorem unI {f : Value → Sem Value} {g : Int → Int}
    (rule : ∀ (i : Int) (t : Tok) (s : Shared) (Q : Value → Shared → Prop) (E : Value → Shared → Prop), Q (.int (g i) s.toks) { s with toks := s.toks + 1 } → wpAny (model X.prog X.w) X.A (f (.int i t)) Q E s) :
    UnR X f (rU fun i => .int (g i)) := by
  intro pins s σ H x v Q I rx h
  obtain ⟨i, rfl, q⟩ := h
  obtain ⟨t, rfl⟩ := rx
  exact rule i t s _ _ ⟨.int (g i), H, I.tok _, ⟨_, rfl⟩, q⟩
theorem un_neg : UnR X (unaryOp .USub) (rU fun i => .int (-i)) := unI fun _ _ _ _ _ q => neg_int q

end



section
variable {X : Cx} {a b c : Expr} {ta tb tc : TE} {pos : Pos}
theorem fin_bl {pins : List (Addr × Obj)} {σ : St} {H : Hp} {s : Shared} {Q : VK} {k k' : Bool} (I : Inv X pins σ H s) (q : Q (.bl k) H) (e : k = k') : EP X pins σ Q (.bool k') s := by
  subst e
  exact ⟨.bl k, H, I, rfl, q⟩

theorem op_lt : OpR X (compareOp .Lt) (rI0 fun i j => .bl (decide (i < j))) := opB0 fun _ _ _ _ _ _ _ q => lt_int q
theorem op_le : OpR X (compareOp .LtE) (rI0 fun i j => .bl (decide (i ≤ j))) := opB0 fun _ _ _ _ _ _ _ q => le_int q
theorem op_gt : OpR X (compareOp .Gt) (rI0 fun i j => .bl (decide (j < i))) := opB0 fun _ _ _ _ _ _ _ q => gt_int q
theorem op_lt_str : OpR X (compareOp .Lt) (fun x y H Q => ∃ i j, x = .str i ∧ y = .str j ∧ Q (.bl (decide (i.cps.toList < j.cps.toList))) H) := by
  intro pins s σ H x y v u Q I rx ry h
  obtain ⟨i, j, rfl, rfl, q⟩ := h
  obtain ⟨t, rfl⟩ := rx
  obtain ⟨t', rfl⟩ := ry
  exact lt_str (fin_bl I q rfl)
/-- the one string within the other -/
theorem op_in_str : OpR X (compareOp .In) (fun x y H Q => ∃ i j, x = .str i ∧ y = .str j ∧ Q (.bl (!(Builtin.Str.occurrences j i 0 j.length 1).isEmpty)) H) := by
  intro pins s σ H x y v u Q I rx ry h
  obtain ⟨i, j, rfl, rfl, q⟩ := h
  obtain ⟨t, rfl⟩ := rx
  obtain ⟨t', rfl⟩ := ry
  exact in_str (fin_bl I q rfl)


/-- is, is not of two objects that are tracked lists or instances -/
def isObj : HO → Bool
  | .lst _ => true
  | .ins _ _ _ => true
  | _ => false


theorem nomark (b : Expr) {op : CmpOp} (h : op ≠ .In := by decide) (h2 : op ≠ .NotIn := by decide) : behindInMarks op b = false := by
  have e1 : (op == CmpOp.In) = false := by cases op <;> first | rfl | exact absurd rfl h
  have e2 : (op == CmpOp.NotIn) = false := by cases op <;> first | rfl | exact absurd rfl h2
  cases b <;> simp [behindInMarks, e1, e2]
/-- a comparison as a value; hm: nomark b, or (for in, not in) by with_unfolding_all rfl -/
theorem pe_cmpR {op : CmpOp} {r : R2} (ho : OpR X (compareOp op) r) (ha : PE X a ta) (hb : PE X b tb) (hm : behindInMarks op b = false) : PE X (.Compare a [op] [b] pos) (tOp r ta tb) := by
  intro pins s σ H Q I h
  exact wpAny_Compare1 (binT ha hb I h fun v u s2 x y H2 I2 rx ry q => ho pins s2 σ H2 x y v u Q I2 rx ry q) hm
/-- a reading of a value as a test -/
def tTest (t : TE) : TT := fun σ H Q => t σ H fun x H' => ∃ k, x = .bl k ∧ Q k H'
theorem pt_cmpR {op : CmpOp} {r : R2} (ho : OpR X (compareOp op) r) (ha : PE X a ta) (hb : PE X b tb) (hm : behindInMarks op b = false) : PT X (.Compare a [op] [b] pos) (tTest (tOp r ta tb)) := by
  intro pins s σ H Q I h
  refine wpAny_isTrue_Compare1 (thn (ha pins s σ H _ I h) fun v s1 ⟨x, H1, I1, r1, q1⟩ => thn (hb pins s1 σ H1 _ I1 q1) fun u s2 ⟨y, H2, I2, r2, q2⟩ =>
    thn (ho pins s2 σ H2 x y v u _ I2 r1 r2 q2) fun c s3 ⟨z, H3, I3, r3, k, e, q3⟩ => ?_) hm
  subst e
  cases r3
  exact wpAny_truthy_bool ⟨H3, I3, q3⟩
/-- a op1 b op2 c -/
def tChain (r r' : R2) (ta tb tc : TE) : TE := fun σ H Q => ta σ H fun x H1 => tb σ H1 fun y H2 => r x y H2 fun z H3 => ∃ k, z = .bl k ∧
  (if k = true then tc σ H3 fun w' H4 => r' y w' H4 Q else Q (.bl false) H3)
theorem pe_chain {op op' : CmpOp} {r r' : R2} (ho : OpR X (compareOp op) r) (ho' : OpR X (compareOp op') r') (ha : PE X a ta) (hb : PE X b tb) (hc : PE X c tc)
    (hm : lastMarks [op, op'] [b, c] = false := by with_unfolding_all rfl) : PE X (.Compare a [op, op'] [b, c] pos) (tChain r r' ta tb tc) := by
  intro pins s σ H Q I h
  refine Compare_chain (thn (ha pins s σ H _ I h) fun v s1 ⟨x, H1, I1, r1, q1⟩ => chain_link (thn (hb pins s1 σ H1 _ I1 q1) fun u s2 ⟨y, H2, I2, r2, q2⟩ =>
    thn (ho pins s2 σ H2 x y v u _ I2 r1 r2 q2) fun d s3 ⟨z, H3, I3, r3, k, e, q3⟩ => ?_)) hm
  subst e
  cases r3
  refine wpAny_truthy_bool ?_
  cases k with
  | false => exact ite_ff ⟨.bl false, H3, I3, rfl, q3⟩
  | true => exact ite_tt (chain_last (thn (hc pins s3 σ H3 _ I3 q3) fun w' s4 ⟨z', H4, I4, r4, q4⟩ => ho' pins s4 σ H4 y z' u w' Q I4 r2 r4 q4))
theorem pt_chain {op op' : CmpOp} {r r' : R2} (ho : OpR X (compareOp op) r) (ho' : OpR X (compareOp op') r') (ha : PE X a ta) (hb : PE X b tb) (hc : PE X c tc)
    (hm : lastMarks [op, op'] [b, c] = false := by with_unfolding_all rfl) : PT X (.Compare a [op, op'] [b, c] pos) (tTest (tChain r r' ta tb tc)) := by
  intro pins s σ H Q I h
  refine isTrue_chain (thn (ha pins s σ H _ I h) fun v s1 ⟨x, H1, I1, r1, q1⟩ => test_link (thn (hb pins s1 σ H1 _ I1 q1) fun u s2 ⟨y, H2, I2, r2, q2⟩ =>
    thn (ho pins s2 σ H2 x y v u _ I2 r1 r2 q2) fun d s3 ⟨z, H3, I3, r3, k, e, q3⟩ => ?_)) hm
  subst e
  cases r3
  refine wpAny_truthy_bool ?_
  cases k with
  | false =>
    obtain ⟨k', e', q'⟩ := q3
    cases e'
    exact ite_ff ⟨H3, I3, q'⟩
  | true =>
    refine ite_tt (test_last (thn (hc pins s3 σ H3 _ I3 q3) fun w' s4 ⟨z', H4, I4, r4, q4⟩ => thn (ho' pins s4 σ H4 y z' u w' _ I4 r2 r4 q4) fun d' s5 ⟨z2, H5, I5, r5, k2, e2, q5⟩ => ?_))
    subst e2
    cases r5
    exact wpAny_truthy_bool ⟨H5, I5, q5⟩

theorem line63 : (sizeLine : Nat) < 2 ^ 63 := by rw [sizeLine_eq]; decide

theorem op_add_str : OpR X (binaryOp .Add) (fun x y H Q => ∃ i j, x = .str i ∧ y = .str j ∧ i.length + j.length ≤ sizeLine ∧ Q (.str (i ++ j)) H) := by
  intro pins s σ H x y v u Q I rx ry h
  obtain ⟨i, j, rfl, rfl, hz, q⟩ := h
  obtain ⟨t, rfl⟩ := rx
  obtain ⟨t', rfl⟩ := ry
  exact add_str (fun t' tk => ⟨.str (i ++ j), H, I.tok _, ⟨_, rfl⟩, q⟩) hz


theorem vals1 {x : V} {us : List Value} (r : Vals [x] us) : ∃ u, us = [u] ∧ RelV x u := by
  cases r with
  | cons r1 r2 => cases r2; exact ⟨_, rfl, r1⟩
theorem vals2 {x y : V} {us : List Value} (r : Vals [x, y] us) : ∃ u w', us = [u, w'] ∧ RelV x u ∧ RelV y w' := by
  cases r with
  | cons r1 r2 =>
    cases r2 with
    | cons r3 r4 => cases r4; exact ⟨_, _, rfl, r1, r3⟩
theorem call_max2 (hc : X.calm = true) : CallR X (.builtin "max") (fun xs H Q => ∃ i j, xs = [.int i, .int j] ∧ Q (.int (if j > i then j else i)) H) := by
  intro pins s σ H xs us Q I r h
  obtain ⟨i, j, rfl, q⟩ := h
  obtain ⟨u, w', rfl, ⟨t, rfl⟩, ⟨t', rfl⟩⟩ := vals2 r
  refine max_two_ints (I.ok.hd hc) fun h' tk k => ⟨_, H, I.kept k, ?_, q⟩
  by_cases hj : j > i
  · rw [if_pos hj, if_pos hj]; exact ⟨_, rfl⟩
  · rw [if_neg hj, if_neg hj]; exact ⟨_, rfl⟩
end
end L2

namespace L2
open PySem PySem.Spec PyProof.Rows

structure ObjM (h : Heap) (x dx C : Addr) (mA : Str → Option Value) : Prop where
  obj : h.get? x = some (PySem.W.instObj C dx)
  ns : h.Ns1 dx mA
  ne : dx ≠ x

theorem lookIn_ns {h : Heap} {dx : Addr} {mA : Str → Option Value} (n : h.Ns1 dx mA) : ∃ od, h.get? dx = some od ∧ ∀ name, PySem.W.lookIn name od = some (mA name) := by
  obtain ⟨o, es, ep, ho, hd, hk, _, hm⟩ := n
  refine ⟨o, ho, fun name => ?_⟩
  have e := hm name
  unfold nsFind findBy at e
  rw [← Array.find?_toList] at e
  unfold PySem.W.lookIn
  rw [hd]
  dsimp only
  split
  · rename_i y q
    rw [q] at e
    exact congrArg some e
  · rename_i q
    rw [q] at e
    have a : es.toList.any (·.refKey) = false := by
      rw [List.any_eq_false]
      intro y hy
      obtain ⟨z, t, hkey⟩ := hk y (Array.mem_toList_iff.mp hy)
      simp [DictEntry.refKey, hkey]
    have a' : ¬ es.toList.any (·.refKey) = true := by rw [a]; exact Bool.false_ne_true
    rw [if_neg a']
    exact congrArg some e

theorem ObjM.look {h : Heap} {x dx C : Addr} {mA : Str → Option Value} (I : ObjM h x dx C mA) : ∃ od, PySem.W.InstAt h x (PySem.W.instObj C dx) C (some od) ∧ ∀ name, PySem.W.lookIn name od = some (mA name) :=
  let ⟨od, ho, hl⟩ := lookIn_ns I.ns
  ⟨od, ⟨I.obj, rfl, rfl, ho⟩, hl⟩

section
variable {prog : Program} {w : World} {A : Around} {E : Value → Shared → Prop} {s : Shared} {K : PySem.W.Frag} {x dx C f : Addr} {mA : Str → Option Value} {name : Str} {v : Value}



theorem get_meth {pl : Sem Bool} {Q : Value × List Value → Shared → Prop} (X : K.In s.heap) (I : ObjM s.heap x dx C mA) (hg : PySem.W.plainGet K C name = true)
    (hf : PySem.W.findIn K (.ref C) name = some (some (.ref f))) (ht : PySem.W.isFn K (.ref f) = true) (hv : mA name = none) (h : Q (.ref f, [.ref x]) s) :
    wpAny (model prog w) A (getMethod (.ref x) name pl) Q E s := by
  obtain ⟨od, J, hl⟩ := I.look
  exact PySem.W.method_fn X J (PySem.W.plainGet_of hg).1 (PySem.W.plainGet_of hg).2 hf (beq_iff_eq.mp ht) (by show (PySem.W.lookIn name od).map (·.isSome) = some false; rw [hl, hv]; rfl) h


/-- C(..): the dict at the heap's end, the instance behind it; then its __init__ -/
theorem make_map {R : Result → Shared → Prop} {vs : List Value} {kw : List (Str × Value)} (X : K.In s.heap) (hm : PySem.W.makesIn K C = true)
    (hi : PySem.W.findIn K (.ref C) "__init__" = some (some (.ref f))) (hf : PySem.W.typeIn K (.ref f) = some (.type "function"))
    (h : codeAny (model prog w) (A.under (.builtin "type.__call__" ⟨.ref C :: vs, kw⟩)) (.call (.ref f) ⟨.ref (s.heap.objs.size + 1) :: vs, kw⟩) (PySem.W.InitBack (s.heap.objs.size + 1) R)
      { s with heap := (s.heap.push PySem.W.emptyDict).push (PySem.W.instObj C s.heap.objs.size) }) :
    codeAny (model prog w) A (.call (.ref C) ⟨vs, kw⟩) R s := by
  obtain ⟨hh, g, d, t, os⟩ := s
  exact PySem.W.make_core (PySem.W.makes_of X hm) (PySem.W.looks_findIn X hi) (fun self => PySem.W.bind_fn X self hf) (.inl rfl) h
end


theorem RelO.none_of {o : Option Value} (r : RelO none o) : o = none := by
  cases o with
  | none => rfl
  | some u => exact (show False from r).elim

section
variable {P : Program} {w : World} {H H' : Hp} {h h' : Heap} {a C dx : Addr} {fs fs' : List (Str × V)}
theorem ins_get (hok : HOk P w H h) (e : H a = some (.ins C dx fs)) : ∃ mA, ObjM h a dx C mA ∧ (∀ f, RelO (fs.lookup f) (mA f)) ∧ PySem.Within mA (fs.map (·.1)) ∧ fs.length ≤ 1000 ∧ H dx = some (.own a) := by
  obtain ⟨d, z, ne, ob, mA, n, r, q⟩ := (show ObjOk P w H h a (.ins C dx fs) from hok a _ e)
  exact ⟨mA, ⟨ob, n, ne⟩, r, q, z, d⟩
end

structure Cls (K : PySem.W.Frag) (C : Addr) : Prop where
  pg : PySem.W.plainGet K C Str.empty = true
  hd : PySem.W.hasDictIn K C = true
  po : PySem.W.plainOver K C = true
  sa : PySem.W.findIn K (.ref C) "__setattr__" = some (some (.builtin "object.__setattr__"))
theorem Cls.get {K : PySem.W.Frag} {C : Addr} (c : Cls K C) (f : Str) : PySem.W.plainGet K C f = true := c.pg
/-- no class of it has the name -/
def NoAttr (K : PySem.W.Frag) (C : Addr) (f : Str) : Prop := PySem.W.findIn K (.ref C) f = some none
/-- a method: a plain def of the class or of one above it -/
structure Meth (K : PySem.W.Frag) (C : Addr) (m : Str) (f : Addr) : Prop where
  at_ : PySem.W.findIn K (.ref C) m = some (some (.ref f))
  fn : PySem.W.isFn K (.ref f) = true
  kp : PySem.W.keepIn K (.ref f) = true

section
variable {X : Cx} {pins : List (Addr × Obj)} {σ : St} {H : Hp} {s : Shared} {a C dx : Addr} {fs : List (Str × V)} {f : Str} {v : V} {A : Around} {E : Value → Shared → Prop}



theorem getmeth_ok {m : Str} {g : Addr} {pl : Sem Bool} {Q : Value × List Value → Shared → Prop} (I : Inv X pins σ H s) (e : H a = some (.ins C dx fs)) (c : Cls X.K C) (k : Meth X.K C m g) (l : fs.lookup m = none)
    (h : Q (.ref g, [.ref a]) s) : wpAny (model X.prog X.w) A (getMethod (.ref a) m pl) Q E s := by
  obtain ⟨mA, O, r, _, _, _⟩ := ins_get I.hok e
  have hn : mA m = none := RelO.none_of (by rw [← l]; exact r m)
  exact get_meth I.kIn O (c.get m) k.at_ k.fn hn h


/-- a new instance, tracked, without attributes -/
theorem Inv.made (I : Inv X pins σ H s) : Inv X pins σ (upd (upd H s.heap.objs.size (.own (s.heap.objs.size + 1))) (s.heap.objs.size + 1) (.ins C s.heap.objs.size []))
    { s with heap := (s.heap.push PySem.W.emptyDict).push (PySem.W.instObj C s.heap.objs.size) } := by
  have e1 : (s.heap.push PySem.W.emptyDict).get? s.heap.objs.size = some PySem.W.emptyDict := Heap.get?_push_size s.heap rfl
  have e2 : ((s.heap.push PySem.W.emptyDict).push (PySem.W.instObj C s.heap.objs.size)).get? (s.heap.objs.size + 1) = some (PySem.W.instObj C s.heap.objs.size) := by
    have := Heap.get?_push_size (s.heap.push PySem.W.emptyDict) (o := PySem.W.instObj C s.heap.objs.size) rfl
    rwa [Heap.size_push] at this
  have e3 : (s.heap.push PySem.W.emptyDict).Ns s.heap.objs.size (fun _ => none) := ⟨PySem.W.emptyDict, #[], _, e1, rfl, (fun e he => absurd he (by simp)), fun _ => rfl⟩
  have I1 := I.laid (a := s.heap.objs.size) (o := .own (s.heap.objs.size + 1)) (h' := s.heap.push PySem.W.emptyDict) (t' := s.toks) (fun b u q => Heap.get?_push_of_some _ q) (Nat.le_refl _) ⟨_, e1⟩
  refine I1.laid (a := s.heap.objs.size + 1) (o := .ins C s.heap.objs.size []) (t' := s.toks) (fun b u q => Heap.get?_push_of_some _ q) (Nat.le_of_eq (Heap.size_push _ _)) ?_
  have ne : s.heap.objs.size ≠ s.heap.objs.size + 1 := Nat.ne_of_lt (Nat.lt_succ_self _)
  refine ⟨by rw [upd_ne ne, upd_same], Nat.zero_le _, ne, e2, fun _ => none, (Heap.Ns1.of_empty e3).at fun o q => Heap.get?_push_of_some _ q, fun _ => True.intro, fun y hy => absurd rfl hy⟩

end

/-- e.f, an attribute of the instance -/
def tFld (K : PySem.W.Frag) (ta : TE) (f : Str) : TE := fun σ H Q => ta σ H fun x H1 => ∃ a C dx fs v, x = .ref a ∧ H1 a = some (.ins C dx fs) ∧ Cls K C ∧ NoAttr K C f ∧ fs.lookup f = some v ∧ Q v H1

section
variable {X : Cx} {o e value : Expr} {f : Str} {pos pos' tpos : Pos} {ta tv : TE}

/-- what is between an instance and its method: the tree of a method call -/
theorem methcall_of {pl : Sem Bool} {m : Str} {apos : Pos} {args : List Expr} {pins : List (Addr × Obj)} {s : Shared} {σ : St} {H : Hp} {Q : Value → Shared → Prop} {te : TE} (he : PE X e te) (I : Inv X pins σ H s)
    (h : te σ H fun x H1 => ∃ a C dx fs g, x = .ref a ∧ H1 a = some (.ins C dx fs) ∧ Cls X.K C ∧ Meth X.K C m g ∧ fs.lookup m = none ∧
      ∀ s1, Inv X pins σ H1 s1 → wpAny (model X.prog X.w) X.A (callWith pos (.ref g) [.ref a] (backTo pos (starEach args X.env)) (backToKw pos (keywordEach [] X.env))) Q X.xe s1)
    (ht : eval (.Call (.Attribute e m apos) args [] pos) X.env = (do
      let ov ← eval e X.env
      standAt apos.atName
      let (f, first) ← holding [ov] (getMethod ov m pl)
      callWith pos f first (backTo pos (starEach args X.env)) (backToKw pos (keywordEach [] X.env)))) :
    wpAny (model X.prog X.w) X.A (eval (.Call (.Attribute e m apos) args [] pos) X.env) Q X.xe s := by
  refine PySem.W.methodCall_KW (pl := pl) (thn (he pins s σ H _ I h) fun u s1 ⟨x, H1, I1, rx, a, C, dx, fs, g, ex, ea, c, k, l, q⟩ => ?_) ht
  subst ex
  obtain rfl : u = Value.ref a := rx
  exact getmeth_ok I1 ea c k l (q s1 I1)
end

section
variable {X : Cx} {pins : List (Addr × Obj)} {σ : St} {H : Hp} {s : Shared} {A : Around} {E : Value → Shared → Prop} {Q : Value → Shared → Prop} {c : Value} {b : Bool}
/-- the type of a value, as the fragment's deciders take it; for an instance its class -/
inductive TyOf (K : PySem.W.Frag) (H : Hp) : V → Value → Prop where
  | non : TyOf K H .non (.type "NoneType")
  | bl (x : Bool) : TyOf K H (.bl x) (.type "bool")
  | int (i : Int) : TyOf K H (.int i) (.type "int")
  | str (x : Str) : TyOf K H (.str x) (.type "str")
  | flt (x : UInt64) : TyOf K H (.flt x) (.type "float")
  | lst {a : Addr} {xs : List V} (e : H a = some (.lst xs)) : TyOf K H (.ref a) (.type "list")
  | frz {a : Addr} {o : Obj} {xs : List V} (e : H a = some (.frz o (.lst xs))) : TyOf K H (.ref a) (.type "list")
  | tup {a : Addr} {xs : List V} (e : H a = some (.tup xs)) : TyOf K H (.ref a) (.type "tuple")
  | dK {a : Addr} {kvs : List (Key × V)} (e : H a = some (.dK kvs)) : TyOf K H (.ref a) (.type "dict")
  | dT {a : Addr} {kvs : List (List Key × V)} (e : H a = some (.dT kvs)) : TyOf K H (.ref a) (.type "dict")
  | ins {a C dx : Addr} {fs : List (Str × V)} (e : H a = some (.ins C dx fs)) (cl : Cls K C) (ha : PySem.W.findIn K (.ref C) "__class__" = some (some (.builtin "object.__class__")))
      (hn : PySem.W.specialIn K (.builtin "object.__class__") "__get__" = some (some (.builtin "getset_descriptor.__get__"))) (htk : PySem.W.takesIn K (.builtin "object.__class__") = some true)
      (hm : PySem.W.mroIn K C (.type "object") = some true) : TyOf K H (.ref a) (.ref C)
/-- isinstance(x, c) for one class c, a built-in or an own one: kitOne's answer -/
theorem isinst_ok {x : V} {u t : Value} (I : Inv X pins σ H s) (rx : RelV x u) (ty : TyOf X.K H x t) (e : PySem.W.kitOne X.K t c = some b) (h : ∀ tk, Q (.bool b) { s with toks := tk }) :
    wpAny (model X.prog X.w) A (call (.builtin "isinstance") [u, c]) Q E s := by
  cases ty with
  | non => cases (show u = Value.none from rx); exact PySem.W.kia_one PySem.W.kitx_none I.kIn True.intro e (fun z => nomatch z) h
  | bl y => cases (show u = Value.bool y from rx); exact PySem.W.kia_one PySem.W.kitx_bool I.kIn True.intro e (fun z => nomatch z) h
  | int i => obtain ⟨t, q⟩ := (show ∃ t, u = Value.int i t from rx); cases q; exact PySem.W.kia_one PySem.W.kitx_int I.kIn True.intro e (fun z => nomatch z) h
  | str y => obtain ⟨t, q⟩ := (show ∃ t, u = Value.str y t from rx); cases q; exact PySem.W.kia_one PySem.W.kitx_str I.kIn True.intro e (fun z => nomatch z) h
  | flt y => obtain ⟨t, q⟩ := (show ∃ t, u = Value.float y t from rx); cases q; exact PySem.W.kia_one PySem.W.kitx_float I.kIn True.intro e (fun z => nomatch z) h
  | @lst a xs ea =>
    cases (show u = Value.ref a from rx)
    obtain ⟨_, _, n, _, h1⟩ := (show ObjOk X.prog X.w H s.heap a (.lst xs) from I.hok a _ ea)
    exact PySem.W.kia_one PySem.W.kitx_list I.kIn ⟨_, h1, rfl⟩ e (fun z => nomatch z) h
  | @frz a ob xs ea =>
    cases (show u = Value.ref a from rx)
    obtain ⟨_, _, _, n, _, h1⟩ := (show ObjOk X.prog X.w H s.heap a (.frz ob (.lst xs)) from I.hok a _ ea)
    exact PySem.W.kia_one PySem.W.kitx_list I.kIn ⟨_, h1, rfl⟩ e (fun z => nomatch z) h
  | @tup a xs ea =>
    cases (show u = Value.ref a from rx)
    obtain ⟨_, _, _, p⟩ := (show ObjOk X.prog X.w H s.heap a (.tup xs) from I.hok a _ ea)
    obtain ⟨o, h1, h2, _⟩ := p
    exact PySem.W.kia_one PySem.W.kitx_tuple I.kIn ⟨o, h1, h2⟩ e (fun z => nomatch z) h
  | @dK a kvs ea =>
    cases (show u = Value.ref a from rx)
    obtain ⟨_, _, vs, _, p⟩ := (show ObjOk X.prog X.w H s.heap a (.dK kvs) from I.hok a _ ea)
    obtain ⟨o, es, ep, h1, h2, _⟩ := p
    exact PySem.W.kia_one PySem.W.kitx_dict I.kIn ⟨o, h1, h2.1⟩ e (fun z => nomatch z) h
  | @dT a kvs ea =>
    cases (show u = Value.ref a from rx)
    obtain ⟨_, _, xs, _, o, es, ep, h1, h2, _⟩ := (show ObjOk X.prog X.w H s.heap a (.dT kvs) from I.hok a _ ea)
    exact PySem.W.kia_one PySem.W.kitx_dict I.kIn ⟨o, h1, h2.1⟩ e (fun z => nomatch z) h
  | @ins a C dx fs ea cl ha hn htk hm =>
    cases (show u = Value.ref a from rx)
    obtain ⟨mA, O, _⟩ := ins_get I.hok ea
    obtain ⟨od, J, _⟩ := O.look
    exact PySem.W.kia_one (PySem.W.kitx_own (cl.get _) cl.hd ha hn htk hm) I.kIn J e (fun z => nomatch z) h
end
end L2

namespace L2
open PySem PySem.Spec PyProof.Rows

structure Room (k : Nat) (A : Around) : Prop where
  hd : A.handled = none
  dp : A.depth + 3 * k + 5 < recursionLimit
  un : A.units + 16 * k + 200 < cLine
theorem Room.mono {j k : Nat} {A : Around} (r : Room k A) (h : j ≤ k) : Room j A := ⟨r.hd, by have := r.dp; omega, by have := r.un; omega⟩
theorem Room.deeper {k : Nat} {A : Around} (r : Room (k + 1) A) (env : Env) : Room k (A.deeper env) :=
  ⟨r.hd, by have := r.dp; show A.depth + 1 + 3 * k + 5 < _; omega, by have := r.un; show A.units + 3 + 16 * k + 200 < _; omega⟩
theorem Room.depth {k : Nat} {A : Around} (r : Room k A) : A.depth < recursionLimit := by have := r.dp; omega

def tNil : TA := fun _ H Q => Q [] H
def tCons (ta : TE) (tr : TA) : TA := fun σ H Q => ta σ H fun x H1 => tr σ H1 fun xs H2 => Q (x :: xs) H2
section
variable {X : Cx} {e : Expr} {es : List Expr} {te : TE} {t : TA} {pos : Pos}
theorem pa_nil : PA X [] tNil := fun _ _ _ _ H Q I h => Calls.spliced_nil ⟨[], H, I, .nil, h⟩
theorem pa_cons (ha : PE X e te) (hr : PA X es t) (hs : starEach (e :: es) X.env = (false, eval e X.env) :: starEach es X.env := by rfl) : PA X (e :: es) (tCons te t) := by
  intro pos pins s σ H Q I h
  rw [hs]
  show wpAny _ _ (spliced ((false, eval e X.env) :: backTo pos (starEach es X.env))) _ _ s
  refine Calls.spliced_cons (thn (ha pins s σ H _ I h) fun u s1 ⟨x, H1, I1, r1, q1⟩ => ?_)
  exact thn (hr pos pins s1 σ H1 _ I1 q1) fun us s2 ⟨xs, H2, I2, r2, q2⟩ => ⟨x :: xs, H2, I2, .cons r1 r2, q2⟩

/-- a tuple, a list of written items -/
def tTup (t : TA) : TE := fun σ H Q => t σ H fun xs H1 => xs.length ≤ sizeLine ∧ ∀ p, H1 p = none → Q (.ref p) (upd H1 p (.tup xs))
def tLst (t : TA) : TE := fun σ H Q => t σ H fun xs H1 => xs.length ≤ sizeLine ∧ ∀ p, H1 p = none → Q (.ref p) (upd H1 p (.lst xs))
theorem pe_tup {x1} (h : PA X es t) : PE X (.Tuple es x1 pos) (tTup t) := by
  intro pins s σ H Q I hq
  refine wpAny_Tuple_spliced (thn (h pos pins s σ H _ I hq) fun us s1 ⟨xs, H1, I1, r, z, q⟩ => ⟨by rw [← r.length]; exact z, ?_⟩)
  have hf : H1 s1.heap.objs.size = none := I1.hok.fresh (Nat.le_refl _)
  refine ⟨.ref s1.heap.objs.size, upd H1 s1.heap.objs.size (.tup xs), I1.laid (t' := s1.toks) (fun b u e => Heap.get?_push_of_some _ e) (Nat.le_refl _) ?_, rfl, q _ hf⟩
  exact ⟨z, us, r, ⟨_, Heap.get?_push_size _ rfl, rfl, _, rfl⟩⟩
theorem pe_lst (h : PA X es t) : PE X (.List es pos) (tLst t) := by
  intro pins s σ H Q I hq
  refine wpAny_List_spliced (thn (h pos pins s σ H _ I hq) fun us s1 ⟨xs, H1, I1, r, z, q⟩ => ⟨by rw [← r.length]; exact z, ?_⟩)
  have hf : H1 s1.heap.objs.size = none := I1.hok.fresh (Nat.le_refl _)
  refine ⟨.ref s1.heap.objs.size, upd H1 s1.heap.objs.size (.lst xs), I1.laid (t' := s1.toks) (fun b u e => Heap.get?_push_of_some _ e) (Nat.le_refl _) ?_, rfl, q _ hf⟩
  exact ⟨z, us, 0, r, Heap.get?_push_size _ rfl⟩
end

/-- a def's promise: the bound arguments in the parameters' order, the heap, the wanted end, the wanted exception -/
abbrev Sp := List V → Hp → VK → XK → Prop
/-- how an exception lies behind a call (file 08 gives it): the callers' frames, abstract heap and state ahead of the call, the wish, the exception, the state -/
abbrev CXT := List Env → Hp → Shared → XK → Value → Shared → Prop

/-- the state at a call -/
structure Env0 (P : Program) (w : World) (K : PySem.W.Frag) (mg : Str → Option Value) (base : Heap) (A : Around) (outer : List Env) (s : Shared) (H : Hp) : Prop where
  frames : A.frames = some outer
  mod : Mod K mg base
  bs : ∀ b o, base.get? b = some o → s.heap.get? b = some o ∧ H b = none
  bsz : base.objs.size ≤ s.heap.objs.size
  funs : s.heap.FunFrames base outer
  frf : ∀ b ∈ frs outer, H b = none
  hok : HOk P w H s.heap
  bare : AllBare s.gens
/-- a call's end -/
def CE (outer : List Env) (P : Program) (w : World) (H : Hp) (s : Shared) (Q : VK) (u : Value) (s' : Shared) : Prop :=
  ∃ v H', s'.os = s.os ∧ AllBare s'.gens ∧ Un (frs outer) [] H H' s.heap s'.heap ∧ HOk P w H' s'.heap ∧ RelV v u ∧ Q v H'
def CR (CX : CXT) (outer : List Env) (P : Program) (w : World) (H : Hp) (s : Shared) (Q : VK) (E : XK) (r : Result) (s' : Shared) : Prop :=
  match r with
  | .ok (.ret u) => CE outer P w H s Q u s'
  | .ok _ => False
  | .error e => CX outer H s E e s'
structure FnOk (P : Program) (w : World) (K : PySem.W.Frag) (mg : Str → Option Value) (base : Heap) (CX : CXT) (k : Nat) (f : Addr) (fd : FuncData) (ps : List Str) (sp : Sp) : Prop where
  len : ∀ vs H Q E, sp vs H Q E → vs.length = ps.length
  run : ∀ (A : Around) (outer : List Env) (s : Shared) (H : Hp) (args : Args) (us : List Value) (vs : List V) (Q : VK) (E : XK), Room k A → Env0 P w K mg base A outer s H → BindsTo s fd args (ps.zip us) → Vals vs us → sp vs H Q E →
    codeAny (model P w) A (.call (.ref f) args) (CR CX outer P w H s Q E) s
theorem FnOk.mono {P : Program} {w : World} {K : PySem.W.Frag} {mg : Str → Option Value} {base : Heap} {CX : CXT} {j k : Nat} {f : Addr} {fd : FuncData} {ps : List Str} {sp : Sp} (F : FnOk P w K mg base CX j f fd ps sp) (h : j ≤ k) :
    FnOk P w K mg base CX k f fd ps sp := ⟨F.len, fun A outer s H args us vs Q E hr => F.run A outer s H args us vs Q E (hr.mono h)⟩


section
variable {X : Cx} {pins : List (Addr × Obj)} {σ : St} {H : Hp} {s s' : Shared}
/-- from a body: what a callee wants -/
theorem Inv.env0 (I : Inv X pins σ H s) : Env0 X.prog X.w X.K X.mg X.base X.A X.stack s H :=
  ⟨I.ok.frames, I.ok.mod, I.bs, Nat.le_trans I.ok.bsz I.sz, I.stack, I.stkFree, I.hok, I.bare⟩
/-- behind a call -/
theorem Inv.after {Q : VK} {u : Value} (I : Inv X pins σ H s) (h : CE X.stack X.prog X.w H s Q u s') : EP X pins σ Q u s' := by
  obtain ⟨v, H', os, bare, un, hok, r, q⟩ := h
  obtain ⟨hh, g, d, t, os'⟩ := s'
  obtain rfl : os' = s.os := os
  exact ⟨v, H', I.call (h' := hh) (g' := g) (d' := d) (t' := t) (ch := []) un hok bare (fun b z => absurd z (by simp)), r, q⟩
end

/-- f(..): the written arguments, then the defaults dvs; E: what is wanted of an exception -/
def tCall (sp : Sp) (dvs : List V) (E : XK) (t : TA) : TE := fun σ H Q => t σ H fun vs H1 => sp (vs ++ dvs) H1 Q E
/-- o.m(..) of an instance of the class at C -/
def tMeth (C : Addr) (m : Str) (sp : Sp) (dvs : List V) (E : XK) (ta : TE) (t : TA) : TE := fun σ H Q => ta σ H fun x H1 => ∃ a dx fs, x = .ref a ∧ H1 a = some (.ins C dx fs) ∧ fs.lookup m = none ∧
  t σ H1 fun vs H2 => sp (x :: (vs ++ dvs)) H2 Q E
/-- C(..): a new instance and its dict, then __init__ -/
def tMake (C : Addr) (sp : Sp) (dvs : List V) (E : XK) (t : TA) : TE := fun σ H Q => t σ H fun vs H1 => ∀ x dx, H1 x = none → H1 dx = none → dx ≠ x →
  sp (.ref x :: (vs ++ dvs)) (upd (upd H1 dx (.own x)) x (.ins C dx [])) (fun v H2 => v = .non ∧ Q (.ref x) H2) E

/-- how the parameters are bound: us the positional arguments, kw the keywords' values by name, ds the defaults that fill up -/
def Binds (K : PySem.W.Frag) (fd : FuncData) (ps : List Str) (ds : List Value) : Prop :=
  ∀ (s : Shared) (us : List Value), K.In s.heap → (us ++ ds).length = ps.length → BindsTo s fd ⟨us, []⟩ (ps.zip (us ++ ds))
/-- every parameter is given -/
theorem Binds.all {K : PySem.W.Frag} {fd : FuncData} {ps : List Str} (h : ∀ us : List Value, us.length = ps.length → bindArgs fd ⟨us, []⟩ = pure (ps.zip us)) : Binds K fd ps [] := fun s us _ hl => by
  rw [List.append_nil] at hl ⊢
  exact .of_eq (h us hl)

/-- an exception of a callee reaches what this body wants of exceptions -/
def Passes (CX : CXT) (X : Cx) (E : XK) : Prop := ∀ (pins : List (Addr × Obj)) (σ : St) (H : Hp) (s : Shared) (e : Value) (s' : Shared), Inv X pins σ H s → CX X.stack H s E e s' → X.xe e s'

section
variable {X : Cx} {CX : CXT} {k : Nat} {f C : Addr} {fd : FuncData} {ps : List Str} {sp : Sp} {dvs : List V} {ds : List Value} {E : XK} {x m : Str} {p pos apos : Pos} {e o : Expr} {es : List Expr} {ta : TE} {t : TA}

/-- the callee runs -/
theorem run_fn {pins : List (Addr × Obj)} {σ : St} {H : Hp} {s : Shared} {Q : VK} {us : List Value} {vs : List V} (F : FnOk X.prog X.w X.K X.mg X.base CX k f fd ps sp) (hr : Room k X.A) (hb : Binds X.K fd ps ds) (hd : Vals dvs ds) (hx : Passes CX X E)
    (I : Inv X pins σ H s) (r : Vals vs us) (h : sp (vs ++ dvs) H Q E) : wpAny (model X.prog X.w) X.A (call (.ref f) us) (EP X pins σ Q) X.xe s := by
  have r2 : Vals (vs ++ dvs) (us ++ ds) := r.append hd
  have hl : (us ++ ds).length = ps.length := by rw [← r2.length]; exact F.len _ _ _ _ h
  refine wpAny_call (codeAny_mono (F.run X.A X.stack s H ⟨us, []⟩ (us ++ ds) (vs ++ dvs) Q E hr I.env0 (hb s us I.kIn hl) r2 h) fun r s' hq => ?_)
  cases r with
  | error e => exact hx pins σ H s e s' I hq
  | ok fl =>
    cases fl with
    | ret u => exact I.after hq
    | next => exact False.elim hq
    | brk => exact False.elim hq
    | cont => exact False.elim hq

theorem pe_call (F : FnOk X.prog X.w X.K X.mg X.base CX k f fd ps sp) (hr : Room k X.A) (hg : Gl X x) (hm : X.mg x = some (.ref f)) (hk : PySem.W.keepIn X.K (.ref f) = true) (hb : Binds X.K fd ps ds) (hd : Vals dvs ds) (hx : Passes CX X E)
    (ha : PA X (e :: es) t) (hdb : (x == ("__debug__" : Str)) = false := by decide) (he : starEach (e :: es) X.env = (false, eval e X.env) :: starEach es X.env := by rfl) (hpl : (backTo pos (starEach es X.env)).any (·.1) = false := by rfl) :
    PE X (.Call (.Name x p) (e :: es) [] pos) (tCall sp dvs E t) := by
  intro pins s σ H Q I h
  refine wpAny_Call_Name_kw (ld_glob I hg hm ?_ hdb)
  refine PySem.W.callWith_K (h₀ := X.base) I.ok.mod.kin hk (thn (ha pos pins s σ H _ I h) fun us s1 ⟨vs, H1, I1, r, q⟩ => ⟨I1.kIn, ?_⟩) he hpl
  exact run_fn F hr hb hd hx I1 r q



end

section
variable {X : Cx} {CX : CXT} {k : Nat} {f C : Addr} {fd : FuncData} {ps ks : List Str} {sp : Sp} {E : XK} {x m : Str} {p pos apos kpos : Pos} {e o : Expr} {es : List Expr} {kws : List Keyword} {te ta : TE} {t tk : TA} {nm : Option Str}

variable {g : List Value → List Value → List Value} {gV : List V → List V → List V}
end

/-- names: the parameters first -/
structure FnScope (N P : List Str) (sc : Scope) : Prop where
  kind : sc.kind = .function
  co : sc.isCoroutine = false
  gen : sc.isGenerator = false
  nd : N.Nodup
  pre : N.take P.length = P
  par : ∀ x ∈ P, sc.names.lookup x = some .local ∨ sc.names.lookup x = some .cell
  nofree : ∀ y ∈ sc.names, y.2 ≠ .free

theorem bindL_out {kindOf : Str → Option NameKind} {x : Str} : ∀ {binds : List (Str × Value)} {m : Str → Option Value}, (∀ v, (x, v) ∉ binds) → bindL kindOf binds m x = m x
  | [], _, _ => rfl
  | (n, v) :: r, m, h => by
    unfold bindL
    rw [bindL_out fun w hw => h w (List.mem_cons_of_mem _ hw)]
    split
    · have : x ≠ n := by rintro rfl; exact h v List.mem_cons_self
      simp [this]
    · rfl
theorem bindC_out {kindOf : Str → Option NameKind} {x : Str} : ∀ {binds : List (Str × Value)} {m : Str → Option Value}, (∀ v, (x, v) ∉ binds) → bindC kindOf binds m x = m x
  | [], _, _ => rfl
  | (n, v) :: r, m, h => by
    unfold bindC
    rw [bindC_out fun w hw => h w (List.mem_cons_of_mem _ hw)]
    split
    · rfl
    · have : x ≠ n := by rintro rfl; exact h v List.mem_cons_self
      simp [this]
theorem bindL_get {kindOf : Str → Option NameKind} {x : Str} {v : Value} : ∀ {P : List Str} {vs : List Value} {i : Nat} {m : Str → Option Value}, P.Nodup → P[i]? = some x → vs[i]? = some v → kindOf x = some .local →
    bindL kindOf (P.zip vs) m x = some v
  | [], _, _, _, _, h, _, _ => by simp at h
  | _ :: _, [], _, _, _, _, h, _ => by simp at h
  | p :: P, w :: vs, 0, m, nd, h1, h2, hk => by
    simp at h1 h2; subst h1; subst h2
    show bindL kindOf ((p, w) :: P.zip vs) m p = _
    unfold bindL
    rw [bindL_out fun v hv => (List.nodup_cons.mp nd).1 (List.of_mem_zip hv).1, if_pos hk]
    simp
  | p :: P, w :: vs, i + 1, m, nd, h1, h2, hk => by
    show bindL kindOf ((p, w) :: P.zip vs) m x = _
    unfold bindL
    exact bindL_get (i := i) (List.nodup_cons.mp nd).2 (by simpa using h1) (by simpa using h2) hk
theorem bindC_get {kindOf : Str → Option NameKind} {x : Str} {v : Value} : ∀ {P : List Str} {vs : List Value} {i : Nat} {m : Str → Option Value}, P.Nodup → P[i]? = some x → vs[i]? = some v → kindOf x ≠ some .local →
    bindC kindOf (P.zip vs) m x = some v
  | [], _, _, _, _, h, _, _ => by simp at h
  | _ :: _, [], _, _, _, _, h, _ => by simp at h
  | p :: P, w :: vs, 0, m, nd, h1, h2, hk => by
    simp at h1 h2; subst h1; subst h2
    show bindC kindOf ((p, w) :: P.zip vs) m p = _
    unfold bindC
    rw [bindC_out fun v hv => (List.nodup_cons.mp nd).1 (List.of_mem_zip hv).1, if_neg hk]
    simp
  | p :: P, w :: vs, i + 1, m, nd, h1, h2, hk => by
    show bindC kindOf ((p, w) :: P.zip vs) m x = _
    unfold bindC
    exact bindC_get (i := i) (List.nodup_cons.mp nd).2 (by simpa using h1) (by simpa using h2) hk

/-- the names' values at the entry -/
def start (N : List Str) (vs : List V) : St := vs.map some ++ List.replicate (N.length - vs.length) none

/-- the context of a def's body, at its entry; an exception leaves the frame, then lies as CX says -/
def cxOf (CX : CXT) (P : Program) (w : World) (K : PySem.W.Frag) (mg : Str → Option Value) (base : Heap) (N : List Str) (qual : Str) (scope : Scope) (f : Addr) (cd : Value) (A : Around) (outer : List Env) (s : Shared) (H : Hp) (E : XK) : Cx where
  prog := P
  w := w
  K := K
  mg := mg
  base := base
  A := A.deeper (envOfC qual scope s.heap.objs.size f cd)
  N := N
  s₀ := s
  H₀ := H
  env := envOfC qual scope s.heap.objs.size f cd
  outer := outer
  stack := envOfC qual scope s.heap.objs.size f cd :: outer
  ex := []
  calm := true
  fn := fun _ => true
  pn := []
  xe := fun e s' => wpAny (model P w) (A.deeper (envOfC qual scope s.heap.objs.size f cd)) (leaving (envOfC qual scope s.heap.objs.size f cd) e) (fun _ s'' => CX outer H s E e s'') (fun e' s'' => CX outer H s E e' s'') s'

theorem cell_has {sc : Scope} {n : Nat} {x : Str} (h : sc.names.lookup x = some .cell) : ∃ c, (cellsFrom n sc.names []).lookup x = some c := by
  have q := PySem.W.cellsFrom_some sc.names n [] (.inl h)
  exact Option.isSome_iff_exists.mp q

theorem inv_start {CX : CXT} {P : Program} {w : World} {K : PySem.W.Frag} {mg : Str → Option Value} {base : Heap} {N ps : List Str} {qual : Str} {scope : Scope} {f : Addr} {cd : Value} {A : Around} {outer : List Env} {s s1 : Shared} {H : Hp} {E : XK} {us : List Value} {vs : List V}
    (S : FnScope N ps scope) (hd : A.handled = none) (e0 : Env0 P w K mg base A outer s H) (hl : vs.length = ps.length) (r : Vals vs us)
    (x : InCallC s s.heap.objs.size (bindL (envOfC qual scope s.heap.objs.size f cd).kindOf (ps.zip us) fun _ => none) (cellsFrom (s.heap.objs.size + 1) scope.names []) (bindC (envOfC qual scope s.heap.objs.size f cd).kindOf (ps.zip us) fun _ => none) s1) :
    Inv (cxOf CX P w K mg base N qual scope f cd A outer s H E) [] (start N vs) H s1 := by
  have hpl : ps.length ≤ N.length := by have := congrArg List.length S.pre; rw [List.length_take] at this; omega
  obtain ⟨h1, tk, rfl, hk⟩ := x.done
  have noA : ∀ b : Addr, b ∉ (cxOf CX P w K mg base N qual scope f cd A outer s H E).ex := fun b z => absurd (show b ∈ ([] : List Addr) from z) (by simp)
  refine ⟨⟨e0.mod, S.kind, rfl, rfl, Nat.le_refl _, fun y z c h1 h2 => ?_, fun y hy => ?_, fun y c _ h => ?_, fun _ => hd, Around.frames_deeper e0.frames, .inr ⟨rfl, rfl⟩, fun b z => absurd z (noA b), e0.bs, e0.bsz, fun b _ _ => noA b, fun b z => absurd z (noA b), e0.funs, e0.frf⟩,
    rfl, e0.bare, Un.kept hk, ⟨_, x.toInCall.ns, fun i y v h1 h2 h3 => ?_⟩, fun y c h => ⟨_, x.cell y c h⟩, e0.hok.fresh (Nat.le_refl _), fun y c h => ?_, fun p hp => absurd (show p ∈ ([] : List (Addr × Obj)) from hp) (by simp), e0.hok.kept hk, ?_⟩
  · exact name_of_addr x.apart (PySem.mem_of_lookup h1) (PySem.mem_of_lookup h2)
  · have hy : scope.names.lookup y = some .cell ∨ scope.names.lookup y = some .free := hy
    rcases hy with hy | hy
    · exact cell_has hy
    · exact absurd rfl (S.nofree _ (PySem.mem_of_lookup hy))
  · exact Nat.le_of_lt (x.above y c (PySem.mem_of_lookup h))
  · have hi : i < vs.length := by
      unfold start at h2
      by_cases hi : i < vs.length
      · exact hi
      · rw [List.getElem?_append_right (by simpa using hi)] at h2
        rw [List.getElem?_replicate] at h2
        split at h2 <;> cases h2
    have ha : vs[i]? = some v := by
      unfold start at h2
      rw [List.getElem?_append_left (by simpa using hi), List.getElem?_map] at h2
      cases e : vs[i]? with
      | none => rw [e] at h2; cases h2
      | some a => rw [e] at h2; cases h2; rfl
    obtain ⟨u, hu, rv⟩ := r.get ha
    have hp : ps[i]? = some y := by
      rw [← S.pre, List.getElem?_take_of_lt (by omega)]; exact h1
    have ndP : ps.Nodup := by rw [← S.pre]; exact S.nd.sublist (List.take_sublist _ _)
    refine ⟨u, rv, ?_⟩
    rcases S.par y (List.mem_of_getElem? hp) with k | k
    · exact .inl ⟨k, bindL_get ndP hp hu k⟩
    · obtain ⟨c, e⟩ := cell_has (n := s.heap.objs.size + 1) k
      refine .inr ⟨.inl k, c, e, ?_⟩
      have q := x.cell y c e
      rw [bindC_get ndP hp hu (by show scope.names.lookup y ≠ _; rw [k]; decide)] at q
      exact q
  · exact e0.hok.fresh (Nat.le_of_lt (x.above y c (PySem.mem_of_lookup h)))
  · unfold start
    show _ = N.length
    rw [List.length_append, List.length_map, List.length_replicate]
    omega

/-- THE RULE: a def (or a method) of the text, by its body. The body's reading t is chosen for each entry; it is run at the parameters' values -/
theorem fn_of {CX : CXT} {P : Program} {w : World} {K : PySem.W.Frag} {mg : Str → Option Value} {base : Heap} {k : Nat} {f : Addr} {name qual : Str} {params : Arguments} {body : List Stmt} {scope : Scope} {dV kV doc pm cdv ct oc : Value} {an od : Option Addr}
    {osl : Array (Option Value)} {N ps : List Str} {sp : Sp} (lk : K.lookup f = some ⟨oc, od, .func (PySem.W.fnOf name qual params body scope dV kV doc pm an cdv ct), osl⟩) (hcd : PySem.W.codeIn K cdv qual = true) (S : FnScope N ps scope)
    (len : ∀ vs H Q E, sp vs H Q E → vs.length = ps.length)
    (hbody : ∀ (A : Around) (outer : List Env) (s : Shared) (H : Hp) (vs : List V) (Q : VK) (E : XK), Room k (A.deeper (envOfC qual scope s.heap.objs.size f cdv)) → sp vs H Q E →
      ∃ t, PSs (cxOf CX P w K mg base N qual scope f cdv A outer s H E) body t ∧ t { nx := fun _ H' => Q .non H', rt := Q } (start N vs) H) :
    FnOk P w K mg base CX (k + 1) f (PySem.W.fnOf name qual params body scope dV kV doc pm an cdv ct) ps sp := by
  refine ⟨len, fun A outer s H args us vs Q E hr e0 hb r hsp => ?_⟩
  have hl := len _ _ _ _ hsp
  have KX : K.In s.heap := e0.mod.kin.keeps fun b o e => (e0.bs b o e).1
  have lim : s.heap.NoLimit := e0.mod.nolimit.keeps fun b o e => (e0.bs b o e).1
  have hkind : ∀ y ∈ ps.zip us, scope.names.lookup y.1 = some .local ∨ (scope.names.lookup y.1 = some .cell ∧ ((cellsFrom (s.heap.objs.size + 1) scope.names []).lookup y.1).isSome = true) := fun ⟨n, v⟩ hy => by
    rcases S.par n (List.of_mem_zip hy).1 with q | q
    · exact .inl q
    · exact .inr ⟨q, PySem.W.cellsFrom_some _ _ _ (.inl q)⟩
  refine codeAny_call_function hr.depth (KX _ _ lk) rfl S.co S.gen rfl (PySem.W.codeRec_of KX hcd) (hb _ _ _ _ ?_)
  refine wpAny_newFunctionEnv_cells S.kind hkind fun env he s1 x => ?_
  subst he
  refine ⟨lim.keeps x.toInCall.keep, codeAny_func ?_⟩
  obtain ⟨t, ht, hq⟩ := hbody A outer s H vs Q E (hr.deeper _) hsp
  have I : Inv (cxOf CX P w K mg base N qual scope f cdv A outer s H E) [] (start N vs) H s1 := inv_start S hr.hd e0 hl r x
  refine wpAny_mono (ht [] s1 (start N vs) H _ I hq) (fun fl s' hs => ?_) fun e s' hs => hs
  have fin : ∀ {σ' : St} {H' : Hp} {v : V} {u : Value}, Inv (cxOf CX P w K mg base N qual scope f cdv A outer s H E) [] σ' H' s' → RelV v u → Q v H' → CE outer P w H s Q u s' :=
    fun {σ' H' v u} J rv q => ⟨v, H', J.os, J.bare, J.base, J.hok, rv, q⟩
  cases fl with
  | ret u =>
    obtain ⟨v, σ', H', J, rv, q⟩ := hs
    exact fin J rv q
  | next =>
    obtain ⟨σ', H', J, q⟩ := hs
    exact fin (v := V.non) (u := Value.none) J rfl q
  | brk =>
    obtain ⟨_, _, _, q⟩ := hs
    exact False.elim q
  | cont =>
    obtain ⟨_, _, _, q⟩ := hs
    exact False.elim q
end L2

namespace L2
open PySem PySem.Spec PyProof.Rows
section
variable {X : Cx} {x : Str} {p pos : Pos} {e : Expr} {es : List Expr} {t : TA} {id T : String} {r : List V → Hp → VK → Prop}

def tCB (r : List V → Hp → VK → Prop) (t : TA) : TE := fun σ H Q => t σ H fun vs H1 => r vs H1 Q
/-- f(e, ..), f a built-in function -/
theorem pe_callB (hc : CallR X (.builtin id) r) (hg : Gl X x) (hm : X.mg x = none) (hv : bootBuiltins x = some (.builtin id)) (ha : PA X (e :: es) t) (hn : x ≠ "__name__" := by decide) (hdb : (x == ("__debug__" : Str)) = false := by decide)
    (he : starEach (e :: es) X.env = (false, eval e X.env) :: starEach es X.env := by rfl) (hpl : (backTo pos (starEach es X.env)).any (·.1) = false := by rfl) : PE X (.Call (.Name x p) (e :: es) [] pos) (tCB r t) := by
  intro pins s σ H Q I h
  refine wpAny_Call_Name_kw (ld_blt I hg hm hv ?_ hn hdb)
  exact PyProof.Rows.callWith_builtin1 (thn (ha pos pins s σ H _ I h) fun us s1 ⟨vs, H1, I1, r1, q1⟩ => hc pins s1 σ H1 vs us Q I1 r1 q1) he hpl
/-- T(e, ..), T a built-in type -/
theorem pe_callTy (hc : CallR X (.type T) r) (hg : Gl X x) (hm : X.mg x = none) (hv : bootBuiltins x = some (.type T)) (ha : PA X (e :: es) t) (hn : x ≠ "__name__" := by decide) (hdb : (x == ("__debug__" : Str)) = false := by decide)
    (he : starEach (e :: es) X.env = (false, eval e X.env) :: starEach es X.env := by rfl) (hpl : (backTo pos (starEach es X.env)).any (·.1) = false := by rfl) : PE X (.Call (.Name x p) (e :: es) [] pos) (tCB r t) := by
  intro pins s σ H Q I h
  refine wpAny_Call_Name_kw (ld_blt I hg hm hv ?_ hn hdb)
  exact PyProof.Rows.callWith_type1 (thn (ha pos pins s σ H _ I h) fun us s1 ⟨vs, H1, I1, r1, q1⟩ => hc pins s1 σ H1 vs us Q I1 r1 q1) he hpl
end
end L2

namespace HT
open PySem PyProof.Rows



section
open PySem.SeqAt
open PySem.AutoSeq1 (wpAny_loadPart')
open PySem.MeetsSeq PySem.MeetsSeq2 PySem.MeetsSeq3

end

section
variable {prog : Program} {w : World} {A : Around} {E : Value → Shared → Prop} {s : Shared}


/-- t + u, t not empty -/
theorem cat_tup {t b : Addr} {vs ws : List Value} {Q : Value → Shared → Prop} (ht : IsTup s.heap t vs.toArray) (hb : IsTup s.heap b ws.toArray) (hv : vs ≠ [])
    (h1 : ws = [] → Q (.ref t) s) (h2 : ws ≠ [] → Q (.ref s.heap.objs.size) { s with heap := s.heap.push { cls := .type "tuple", data := .seq (vs ++ ws).toArray } })
    (hsz : vs.length + ws.length ≤ sizeLine) : wpAny (model prog w) A (binaryOp .Add (.ref t) (.ref b)) Q E s := by
  obtain ⟨⟨cls, dd, data, sl⟩, ho, hc, n, hd⟩ := id ht
  obtain ⟨⟨cls2, dd2, data2, sl2⟩, ho2, hc2, n2, hd2⟩ := id hb
  simp only at hc hd hc2 hd2
  subst hc hd hc2 hd2
  have e : vs.toArray ++ ws.toArray = (vs ++ ws).toArray := by simp
  by_cases hw : ws = []
  · exact concat_meets ⟨_, ho, rfl⟩ ⟨_, ho2, rfl⟩ noFill_tuple_add seq_tuple_add PySem.F.slot_tuple_add PySem.F.entry_tuple_add (PySem.F.args_tuple_add_2 _ _)
      (tuple_addW1 t b vs.toArray ws.toArray n n2 dd dd2 sl sl2 (by simpa using hv) (by simp [hw])) ⟨ho, ho2, h1 hw⟩
  · refine concat_meets ⟨_, ho, rfl⟩ ⟨_, ho2, rfl⟩ noFill_tuple_add seq_tuple_add PySem.F.slot_tuple_add PySem.F.entry_tuple_add (PySem.F.args_tuple_add_2 _ _)
      (tuple_addW2 t b vs.toArray ws.toArray n n2 dd dd2 sl sl2 (by simpa using hv) (by simpa using hw) (by rw [List.size_toArray, List.size_toArray]; exact hsz)) ⟨ho, ho2, ?_⟩
    rw [e]
    exact h2 hw

/-- a slice's bound as a place among n (d where it is left out) -/
def sIx (n d : Nat) : Option Int → Nat
  | none => d
  | some v => if v < 0 then (v + (n : Int)).toNat else min v.toNat n
theorem sIx_le (n d : Nat) (hd : d ≤ n) (o : Option Int) : sIx n d o ≤ n := by
  cases o with
  | none => exact hd
  | some v =>
    show (if v < 0 then (v + (n : Int)).toNat else min v.toNat n) ≤ n
    by_cases hv : v < 0
    · rw [if_pos hv]; omega
    · rw [if_neg hv]; exact Nat.min_le_right _ _
theorem clip_eq (v : Int) (n d : Nat) : (if v < 0 then max (v + (n : Int)) 0 else min v (n : Int)) = ((sIx n d (some v) : Nat) : Int) := by
  show (if v < 0 then max (v + (n : Int)) 0 else min v (n : Int)) = (((if v < 0 then (v + (n : Int)).toNat else min v.toNat n) : Nat) : Int)
  by_cases hv : v < 0
  · simp only [if_pos hv]; omega
  · simp only [if_neg hv]; omega
theorem adjust_gen (lo hi : Option Int) (n : Nat) : Builtin.Slice.sliceAdjust lo hi 1 (n : Int) = (((sIx n 0 lo : Nat) : Int), ((sIx n n hi : Nat) : Int)) := by
  have h1 : ¬ ((1 : Int) < 0) := by omega
  unfold Builtin.Slice.sliceAdjust
  simp only [h1, if_false]
  refine Prod.ext ?_ ?_
  · cases lo with
    | none => rfl
    | some v => exact clip_eq v n 0
  · cases hi with
    | none => rfl
    | some v => exact clip_eq v n n
theorem places_gen (i j : Nat) : Builtin.Slice.slicePlaces (i : Int) (j : Int) 1 = j - i := by
  unfold Builtin.Slice.slicePlaces
  have h1 : (1 : Int) > 0 := by omega
  simp only [h1, if_true, Int.ediv_one]
  split <;> omega
theorem slicePart_ {v : Value} {o : Option Int} {Q : Option Int → Shared → Prop} (p : IsPart v o) (h : Q o s) : wpAny (model prog w) A (Builtin.Slice.slicePartIndex v) Q E s := by
  cases p with
  | none => exact slicePart_none h
  | int i t => exact slicePart_int h
theorem sliceApplied_gen {sl : Addr} {vl vu : Value} {lo hi : Option Int} {n : Nat} {Q : Int × Int × Nat → Shared → Prop} (hs : s.heap.IsSliceOf sl vl vu .none) (pl : IsPart vl lo) (pu : IsPart vu hi)
    (h : Q (((sIx n 0 lo : Nat) : Int), 1, sIx n n hi - sIx n 0 lo) s) : wpAny (model prog w) A (Builtin.Slice.sliceApplied (.ref sl) (pure (n : Int))) Q E s := by
  obtain ⟨os, hos, hcs, hds⟩ := id hs
  unfold Builtin.Slice.sliceApplied Builtin.Slice.sliceFields
  refine wpAny_bind (wpAny_bind (wpAny_field hos hds (x := vl) rfl (wpAny_bind (wpAny_field hos hds (x := vu) rfl (wpAny_bind (wpAny_field hos hds (x := .none) rfl (wpAny_pure ?_)))))))
  refine wpAny_bind (slicePart_none ?_)
  show wpAny _ _ (if ((1 : Int) == 0) = true then _ else _) _ _ s
  rw [if_neg (by decide)]
  refine wpAny_bind (slicePart_ pl (wpAny_bind (slicePart_ pu (wpAny_bind (wpAny_pure ?_)))))
  show wpAny _ _ (match Builtin.Slice.sliceAdjust lo hi 1 (n : Int) with | (lo, hi) => pure (lo, (1 : Int), Builtin.Slice.slicePlaces lo hi 1)) _ _ s
  rw [adjust_gen lo hi n]
  show wpAny _ _ (pure (((sIx n 0 lo : Nat) : Int), (1 : Int), Builtin.Slice.slicePlaces ((sIx n 0 lo : Nat) : Int) ((sIx n n hi : Nat) : Int) 1)) _ _ s
  rw [places_gen]
  exact wpAny_pure h
theorem pick_gen (xs : Array Value) (i k : Nat) : ((List.range k).filterMap fun (m : Nat) => xs[((i : Int) + (m : Int) * 1).toNat]?).toArray = ((xs.toList.drop i).take k).toArray := by
  have e : (fun (m : Nat) => xs[((i : Int) + (m : Int) * 1).toNat]?) = fun m => xs[i + m]? := by
    funext m
    have : ((i : Int) + (m : Int) * 1).toNat = i + m := by omega
    rw [this]
  rw [e]
  have := pick_run xs i k
  rw [List.filterMap_map] at this
  have e2 : ((fun x => xs[x]?) ∘ fun x => i + x) = fun m => xs[i + m]? := rfl
  rw [e2] at this
  rw [this]

theorem getItem_tuple_cut {t sl : Addr} {items : Array Value} {vl vu : Value} {lo hi : Option Int} {Q : Value → Shared → Prop} (ht : IsTup s.heap t items) (hs : s.heap.IsSliceOf sl vl vu .none) (pl : IsPart vl lo) (pu : IsPart vu hi)
    (hw : ¬ (sIx items.size 0 lo = 0 ∧ sIx items.size items.size hi = items.size))
    (h : Q (.ref s.heap.objs.size) { s with heap := s.heap.push { cls := .type "tuple", data := .seq ((items.toList.drop (sIx items.size 0 lo)).take (sIx items.size items.size hi - sIx items.size 0 lo)).toArray } })
    (hsz : items.size ≤ sizeLine) : wpAny (model prog w) A (getItem (.ref t) (.ref sl)) Q E s := by
  have htake : sizeOk (.seq ((items.toList.drop (sIx items.size 0 lo)).take (sIx items.size items.size hi - sIx items.size 0 lo)).toArray) := by
    show ((items.toList.drop (sIx items.size 0 lo)).take (sIx items.size items.size hi - sIx items.size 0 lo)).toArray.size ≤ sizeLine
    rw [List.size_toArray, List.length_take, List.length_drop, Array.length_toList]
    omega
  have hj : sIx items.size items.size hi ≤ items.size := sIx_le _ _ (Nat.le_refl _) hi
  obtain ⟨os, hos, hcs, hds⟩ := id hs
  have hTs : s.TypeIs (.ref sl) "slice" := ⟨os, hos, hcs⟩
  unfold getItem
  try with_reducible refine wpAny_holding ?_
  first | refine wpAny_bind (wpAny_pure ?_) | skip
  refine wpAny_bind (wpAny_sequenceKey ht.typeIs (by decide) ?_)
  refine wpAny_bind (wpAny_callSpecial?_slot (name := Str.ofString "__getitem__") ht.typeIs PyProof.Rows.slot_tuple_getitem
    (wpAny_call_entry PyProof.Rows.slot_tuple_getitem ht.typeIs entry_tuple_getitem ?_ (args_tuple_getitem _ _)))
  show wpAny _ _ (Builtin.Tuple.tupleItemsOf (.ref t) >>= _) _ _ s
  refine wpAny_bind (tupleItemsOf_ ht ?_)
  refine wpAny_bind (wpAny_typeOf hTs ?_)
  rw [if_pos (by decide)]
  refine wpAny_bind (sliceApplied_gen hs pl pu ?_)
  have hno : ¬ ((((sIx items.size 0 lo : Nat) : Int) == 0 && (1 : Int) == 1 && (sIx items.size items.size hi - sIx items.size 0 lo) == items.size) = true) := by
    intro q
    rw [Bool.and_eq_true, Bool.and_eq_true] at q
    have q1 : ((sIx items.size 0 lo : Nat) : Int) = 0 := eq_of_beq q.1.1
    have q2 : sIx items.size items.size hi - sIx items.size 0 lo = items.size := eq_of_beq q.2
    exact hw ⟨by omega, by omega⟩
  show wpAny _ _ (if (((sIx items.size 0 lo : Nat) : Int) == 0 && (1 : Int) == 1 && (sIx items.size items.size hi - sIx items.size 0 lo) == items.size) = true then _ else _) _ _ s
  rw [if_neg hno, pick_gen]
  first
    | exact wpAny_bind (m := Builtin.Tuple.tupleExact _) (wpAny_newObj_type (wpAny_pure ⟨_, rfl, wpAny_pure h⟩) htake)
    | exact wpAny_bind (m := Builtin.Tuple.tupleExact _) (wpAny_newObj_type (wpAny_bind (wpAny_pure (wpAny_pure ⟨_, rfl, wpAny_pure h⟩))) htake)
    | exact wpAny_bind (wpAny_bind (m := Builtin.Tuple.tupleExact _) (wpAny_newObj_type (wpAny_pure (wpAny_pure ⟨_, rfl, wpAny_pure h⟩)) htake))
    | exact wpAny_bind (wpAny_bind (m := Builtin.Tuple.tupleExact _) (wpAny_newObj_type (wpAny_pure ⟨_, rfl, wpAny_pure h⟩) htake))
end
end HT

namespace L2
open PySem PySem.Spec PyProof.Rows

abbrev TO := St → Hp → (Option Int → Hp → Prop) → Prop
/-- a slice's part (left out, or an int) -/
def PO (X : Cx) (e : Option Expr) (t : TO) : Prop :=
  ∀ (pins : List (Addr × Obj)) (s : Shared) (σ : St) (H : Hp) (Q : Option Int → Hp → Prop), Inv X pins σ H s → t σ H Q →
    wpAny (model X.prog X.w) X.A (evalPart e X.env) (fun u s' => ∃ o H', Inv X pins σ H' s' ∧ IsPart u o ∧ Q o H') X.xe s
def tNoPart : TO := fun _ H Q => Q none H
def tPart (t : TE) : TO := fun σ H Q => t σ H fun x H1 => ∃ i, x = .int i ∧ Q (some i) H1

theorem intsAre_of {ns : List Int} : ∀ {us : List Value}, Vals (ns.map V.int) us → IntsAre us ns := by
  induction ns with
  | nil => intro us r; rw [List.map_nil] at r; cases r; exact .nil
  | cons n ns ih =>
    intro us r
    rw [List.map_cons] at r
    cases r with
    | cons r1 r2 =>
      obtain ⟨t, e⟩ := r1
      subst e
      exact .cons n t (ih r2)

section
variable {X : Cx} {e : Expr} {te : TE} {lo hi : Option Expr} {tl th : TO} {pos p2 : Pos}

theorem po_none : PO X none tNoPart := by
  intro pins s σ H Q I h
  rw [evalPart_none]
  exact wpAny_pure ⟨none, H, I, .none, h⟩
theorem po_some (h : PE X e te) : PO X (some e) (tPart te) := by
  intro pins s σ H Q I hw
  rw [evalPart_some]
  refine thn (h pins s σ H _ I hw) fun u s1 ⟨x, H1, I1, r1, q1⟩ => ?_
  obtain ⟨i, rfl, q⟩ := q1
  obtain ⟨t, rfl⟩ := r1
  exact ⟨some i, H1, I1, .int i t, q⟩

/-- what a slice of a value is, by values: the slice object stands at sl -/
def SlR (X : Cx) (r : V → Option Int → Option Int → Hp → VK → Prop) : Prop :=
  ∀ (pins : List (Addr × Obj)) (s : Shared) (σ : St) (H : Hp) (x : V) (v vl vu : Value) (lo hi : Option Int) (sl : Addr) (Q : VK), Inv X pins σ H s → RelV x v → s.heap.IsSliceOf sl vl vu .none → IsPart vl lo → IsPart vu hi → r x lo hi H Q →
    ∃ T id, typeLookup (.type T) "__getitem__" = pure (some (.builtin id)) ∧ s.TypeIs v T ∧ wpAny (model X.prog X.w) X.A (getItem v (.ref sl)) (EP X pins σ Q) X.xe s
def tSl (r : V → Option Int → Option Int → Hp → VK → Prop) (te : TE) (tl th : TO) : TE := fun σ H Q => te σ H fun x H1 => tl σ H1 fun l H2 => th σ H2 fun u H3 => r x l u H3 Q
/-- a[lo:hi], any a -/
theorem pe_slice {r : V → Option Int → Option Int → Hp → VK → Prop} (hr : SlR X r) (he : PE X e te) (hl : PO X lo tl) (hu : PO X hi th) : PE X (.Subscript e (.Slice lo hi none p2) pos) (tSl r te tl th) := by
  intro pins s σ H Q I h
  refine Subscript_ (thn (he pins s σ H _ I h) fun v s1 ⟨x, H1, I1, r1, q1⟩ => ?_)
  refine wpAny_Slice (thn (hl pins s1 σ H1 _ I1 q1) fun vl s2 ⟨l, H2, I2, pl, q2⟩ => thn (hu pins s2 σ H2 _ I2 q2) fun vu s3 ⟨u, H3, I3, pu, q3⟩ => ?_)
  rw [evalPart_none]
  refine wpAny_pure ?_
  have I4 : Inv X pins σ H3 { s3 with heap := s3.heap.push { cls := .type "slice", data := .fields #[vl, vu, .none] } } := I3.kept (t' := s3.toks) fun b ob q => Heap.get?_push_of_some _ q
  obtain ⟨T, id, hT, ht, hg⟩ := hr pins { s3 with heap := s3.heap.push { cls := .type "slice", data := .fields #[vl, vu, .none] } } σ H3 x v vl vu l u s3.heap.objs.size Q I4 r1 (Heap.IsSliceOf.new ..) pl pu q3
  show wpAny (model X.prog X.w) X.A (subscriptTail e (.Slice lo hi none p2) v (.ref s3.heap.objs.size)) (EP X pins σ Q) X.xe { s3 with heap := s3.heap.push { cls := .type "slice", data := .fields #[vl, vu, .none] } }
  exact tail_any (ops := [.ref s3.heap.objs.size, v]) ht hT hg (by with_unfolding_all rfl)

/-- the items of xs[lo:hi] -/
def cutV (xs : List V) (lo hi : Option Int) : List V := (xs.drop (HT.sIx xs.length 0 lo)).take (HT.sIx xs.length xs.length hi - HT.sIx xs.length 0 lo)
theorem cutV_length (xs : List V) (lo hi : Option Int) : (cutV xs lo hi).length ≤ xs.length := by
  unfold cutV
  rw [List.length_take, List.length_drop]
  omega
/-- t[lo:hi], not the whole of it (the whole would be t itself) -/
def rSlT (K : PySem.W.Frag) : V → Option Int → Option Int → Hp → VK → Prop := fun x lo hi H Q => ∃ a xs, x = .ref a ∧ SqT K H a xs ∧
  ¬ (HT.sIx xs.length 0 lo = 0 ∧ HT.sIx xs.length xs.length hi = xs.length) ∧ ∀ p, H p = none → Q (.ref p) (upd H p (.tup (cutV xs lo hi)))
theorem sl_tup : SlR X (rSlT X.K) := by
  intro pins s σ H x v vl vu lo hi sl Q I rx hs pl pu h
  obtain ⟨a, xs, rfl, hx, hw, q⟩ := h
  cases rx
  obtain ⟨its, r, ht, hz⟩ := I.tuple hx
  have hlen : its.toArray.size = xs.length := by rw [List.size_toArray]; exact r.length.symm
  refine ⟨"tuple", _, PyProof.Rows.slot_tuple_getitem.lookup, ht.typeIs, ?_⟩
  refine HT.getItem_tuple_cut ht hs pl pu (by rw [hlen]; exact hw) ?_ (by rw [hlen]; exact hz)
  rw [hlen]
  refine ⟨.ref s.heap.objs.size, _, I.laid (t' := s.toks) (o := .tup (cutV xs lo hi)) (fun b ob q => Heap.get?_push_of_some _ q) (Nat.le_refl _) ?_, rfl, q _ (I.hok.fresh (Nat.le_refl _))⟩
  exact ⟨Nat.le_trans (cutV_length xs lo hi) hz, _, (r.drop (HT.sIx xs.length 0 lo)).take (HT.sIx xs.length xs.length hi - HT.sIx xs.length 0 lo), IsTup.new _ _⟩

/-- t + u, t not empty: u empty gives t itself -/
def rCatT (K : PySem.W.Frag) : R2 := fun x y H Q => ∃ a b xs ys, x = .ref a ∧ y = .ref b ∧ SqT K H a xs ∧ SqT K H b ys ∧ xs ≠ [] ∧ xs.length + ys.length ≤ sizeLine ∧
  (ys = [] → Q (.ref a) H) ∧ (ys ≠ [] → ∀ p, H p = none → Q (.ref p) (upd H p (.tup (xs ++ ys))))
theorem Vals.nil_iff {xs : List V} {us : List Value} (r : Vals xs us) : us = [] ↔ xs = [] := by
  cases r with
  | nil => simp
  | cons _ _ => simp
theorem op_catT : OpR X (binaryOp .Add) (rCatT X.K) := by
  intro pins s σ H x y v u Q I rx ry h
  obtain ⟨a, b, xs, ys, rfl, rfl, ha, hb, hx, hz, q1, q2⟩ := h
  cases rx
  cases ry
  obtain ⟨its, r1, p1, _⟩ := I.tuple ha
  obtain ⟨its2, r2, p2, _⟩ := I.tuple hb
  refine HT.cat_tup p1 p2 (fun z => hx (r1.nil_iff.mp z)) (fun z => ⟨.ref a, H, I, rfl, q1 (r2.nil_iff.mp z)⟩) (fun z => ?_) (by rw [← r1.length, ← r2.length]; exact hz)
  refine ⟨.ref s.heap.objs.size, _, I.laid (t' := s.toks) (o := .tup (xs ++ ys)) (fun b ob q => Heap.get?_push_of_some _ q) (Nat.le_refl _) ?_, rfl, q2 (fun w => z (r2.nil_iff.mpr w)) _ (I.hok.fresh (Nat.le_refl _))⟩
  exact ⟨by rw [List.length_append]; exact hz, _, r1.append r2, IsTup.new _ _⟩
end
end L2

namespace L2
open PySem PySem.Spec PyProof.Rows

/-- the place that an index of any sign means -/
def ixN (n : Nat) (i : Int) : Option Nat := if 0 ≤ i then (if i < n then some i.toNat else none) else if -(n : Int) ≤ i then some (i + n).toNat else none
def atI {α : Type} (xs : List α) (i : Int) : Option α := (ixN xs.length i).bind fun j => xs[j]?
theorem ixN_seq {n : Nat} {i : Int} {j : Nat} (h : ixN n i = some j) : seqIndex? i n = some j ∧ j < n ∧ -(n : Int) ≤ i ∧ i < n := by
  unfold ixN at h
  by_cases h0 : 0 ≤ i
  · rw [if_pos h0] at h
    by_cases h1 : i < n
    · rw [if_pos h1] at h
      have e : i.toNat = j := Option.some.inj h
      exact ⟨by rw [seqIndex_of h0 h1, e], by omega, by omega, h1⟩
    · rw [if_neg h1] at h; cases h
  · rw [if_neg h0] at h
    by_cases h1 : -(n : Int) ≤ i
    · rw [if_pos h1] at h
      have e : (i + n).toNat = j := Option.some.inj h
      exact ⟨by rw [seqIndex_neg (by omega) h1, e], by omega, h1, by omega⟩
    · rw [if_neg h1] at h; cases h
theorem atI_get {α : Type} {xs : List α} {i : Int} {v : α} (h : atI xs i = some v) : ∃ j, seqIndex? i xs.length = some j ∧ xs[j]? = some v ∧ j < xs.length ∧ -(xs.length : Int) ≤ i ∧ i < xs.length := by
  unfold atI at h
  cases e : ixN xs.length i with
  | none => rw [e] at h; cases h
  | some j =>
    rw [e] at h
    obtain ⟨h1, h2, h3, h4⟩ := ixN_seq e
    exact ⟨j, h1, h, h2, h3, h4⟩
theorem atI_nat {α : Type} {xs : List α} {j : Nat} {v : α} (h : xs[j]? = some v) : atI xs (j : Int) = some v := by
  have hj : j < xs.length := (List.getElem?_eq_some_iff.mp h).1
  have e : ixN xs.length (j : Int) = some j := by
    unfold ixN
    rw [if_pos (by omega), if_pos (by omega)]; simp
  unfold atI; rw [e]; exact h

/-- what stands as an index of a plain subscript -/
def PlainIx (b : Expr) : Prop := ∀ o i, subscripted b false o i = operate [o, i] (getItem o i)
/-- a subscript by values -/
def IxR (X : Cx) (r : R2) : Prop :=
  ∀ (value slice : Expr) (pins : List (Addr × Obj)) (s : Shared) (σ : St) (H : Hp) (x y : V) (v u : Value) (Q : VK), Inv X pins σ H s → RelV x v → RelV y u → r x y H Q →
    subscripted slice false v u = operate [v, u] (getItem v u) → wpAny (model X.prog X.w) X.A (subscriptTail value slice v u) (EP X pins σ Q) X.xe s
/-- a call of a builtin's method by values: the receiver, the arguments -/
def MtR (X : Cx) (id : String) (r : V → List V → Hp → VK → Prop) : Prop :=
  ∀ (pins : List (Addr × Obj)) (s : Shared) (σ : St) (H : Hp) (x : V) (xs : List V) (v : Value) (us : List Value) (Q : VK), Inv X pins σ H s → RelV x v → Vals xs us → r x xs H Q →
    wpAny (model X.prog X.w) X.A (call (.builtin id) (v :: us)) (EP X pins σ Q) X.xe s
section
variable {X : Cx} {a b : Expr} {ta tb : TE} {pos : Pos}
/-- a[b] -/
theorem pe_ix {r : R2} (hr : IxR X r) (ha : PE X a ta) (hb : PE X b tb) (hs : PlainIx b) : PE X (.Subscript a b pos) (tOp r ta tb) := by
  intro pins s σ H Q I h
  exact Subscript_ (binT ha hb I h fun v u s2 x y H2 I2 rx ry q => hr a b pins s2 σ H2 x y v u Q I2 rx ry q (hs _ _))

def rIxL (K : PySem.W.Frag) : R2 := fun x y H Q => ∃ p xs i v, x = .ref p ∧ y = .int i ∧ SqL K H p xs ∧ atI xs i = some v ∧ Q v H
def rIxT (K : PySem.W.Frag) : R2 := fun x y H Q => ∃ p xs i v, x = .ref p ∧ y = .int i ∧ SqT K H p xs ∧ atI xs i = some v ∧ Q v H
def rIxS : R2 := fun x y H Q => ∃ z i c, x = .str z ∧ y = .int i ∧ z.length ≤ sizeLine ∧ atI z.cps.toList i = some c ∧ Q (.str ⟨#[c]⟩) H
theorem ix_list : IxR X (rIxL X.K) := by
  intro value slice pins s σ H x y v u Q I rx ry h hs
  obtain ⟨p, xs, i, z, rfl, rfl, hq, he, q⟩ := h
  cases rx
  obtain ⟨t, rfl⟩ := ry
  obtain ⟨its, r, pl, hz⟩ := I.list hq
  obtain ⟨j, h1, h2, h3, h4, h5⟩ := atI_get he
  obtain ⟨w, ew, rw'⟩ := r.get h2
  have hl := r.length
  have hn := line63
  have fin : EP X pins σ Q w s := ⟨z, H, I, rw', q⟩
  by_cases h0 : 0 ≤ i
  · have hj : i.toNat = j := by
      rw [seqIndex_of h0 h5] at h1
      exact Option.some.inj h1
    exact item_listR pl.isList h0 (by omega) (by rw [hj]; simpa using ew) fin hs
  · have hj : (i + (its.toArray.size : Int)).toNat = j := by
      rw [seqIndex_neg (by omega) h4] at h1
      rw [List.size_toArray, ← hl]
      exact Option.some.inj h1
    exact subscriptTail_builtinR (x := w) pl.isList.typeIs slot_list_getitem.lookup
      (wpAny_getItem_list_neg (Q := fun r s' => r = w ∧ EP X pins σ Q r s') pl.isList (by omega) (by rw [List.size_toArray] <;> omega) (by omega) (by rw [hj]; simpa using ew) ⟨rfl, fin⟩) hs
theorem ix_tup : IxR X (rIxT X.K) := by
  intro value slice pins s σ H x y v u Q I rx ry h hs
  obtain ⟨p, xs, i, z, rfl, rfl, hq, he, q⟩ := h
  cases rx
  obtain ⟨t, rfl⟩ := ry
  obtain ⟨its, r, pl, hz⟩ := I.tuple hq
  obtain ⟨j, h1, h2, h3, h4, h5⟩ := atI_get he
  obtain ⟨w, ew, rw'⟩ := r.get h2
  have hl := r.length
  have hn := line63
  have fin : EP X pins σ Q w s := ⟨z, H, I, rw', q⟩
  exact subscriptTail_builtinR (x := w) pl.typeIs slot_tuple_getitem.lookup
    (getItem_tuple (j := j) (Q := fun r s' => r = w ∧ EP X pins σ Q r s') pl (by omega) (by omega) (by rw [List.size_toArray, ← hl]; exact h1) (by simpa using ew) ⟨rfl, fin⟩) hs
theorem ix_str : IxR X rIxS := by
  intro value slice pins s σ H x y v u Q I rx ry h hs
  obtain ⟨z, i, c, rfl, rfl, hz, he, q⟩ := h
  obtain ⟨t, rfl⟩ := rx
  obtain ⟨t', rfl⟩ := ry
  obtain ⟨j, h1, h2, h3, h4, h5⟩ := atI_get he
  have hl : z.cps.toList.length = z.length := by simp [Str.length]
  rw [hl] at h1 h4 h5
  have hn := line63
  exact tail_any (typeIs_str s z t) slot_str_getitem.lookup (getItem_str (c := c) (by
    have e1 : decide (i < -(2 ^ 63 : Int)) = false := decide_eq_false (by omega)
    have e2 : decide (i ≥ 2 ^ 63) = false := decide_eq_false (by omega)
    rw [e1, e2, Bool.or_false]) (by rw [h1]; simpa using h2) ⟨.str ⟨#[c]⟩, H, I.tok _, ⟨_, rfl⟩, q⟩) hs

/-- the list's object behind a store -/
theorem mapSeq_set (its : List Value) (n j : Nat) (u : Value) : Obj.mapSeq (·.setIfInBounds j u) { cls := .type "list", data := .seq its.toArray n } = { cls := .type "list", data := .seq (its.set j u).toArray n } := by
  simp [Obj.mapSeq]
theorem Inv.lst {pins : List (Addr × Obj)} {σ : St} {H : Hp} {s : Shared} {p : Addr} {xs : List V} (I : Inv X pins σ H s) (h : H p = some (.lst xs)) :
    ∃ (its : List Value) (n : Nat), Vals xs its ∧ s.heap.get? p = some { cls := .type "list", data := .seq its.toArray n } ∧ xs.length ≤ sizeLine := by
  obtain ⟨z, its, n, r, e⟩ := I.hok p _ h
  exact ⟨its, n, r, e, z⟩
/-- the list at p is written by an update of its object -/
theorem Inv.lstUpd {pins : List (Addr × Obj)} {σ : St} {H : Hp} {s : Shared} {p : Addr} {xs ys : List V} {its its' : List Value} {n n' : Nat} {f : Obj → Obj} (I : Inv X pins σ H s) (h : H p = some (.lst xs))
    (ho : s.heap.get? p = some { cls := .type "list", data := .seq its.toArray n }) (hf : f { cls := .type "list", data := .seq its.toArray n } = { cls := .type "list", data := .seq its'.toArray n' }) (r : Vals ys its') (hz : ys.length ≤ sizeLine) (t : Nat) :
    Inv X pins σ (upd H p (.lst ys)) { s with heap := s.heap.update p f, toks := t } := by
  have e : (s.heap.update p f).get? p = some { cls := .type "list", data := .seq its'.toArray n' } := by
    rw [Heap.get?_update_self f ho (by rw [hf] <;> rfl), hf]
  refine I.write (x := p) (e := p) (by rw [h]; trivial) (.inl rfl) (fun b u hb q => (Heap.get?_update_other _ _ (Ne.symm hb)).trans q) ⟨_, e⟩ ?_
  exact ⟨hz, its', n', r, e⟩
def rSetL : V → V → V → Hp → (Hp → Prop) → Prop := fun o i v H Q => ∃ p xs k j, o = .ref p ∧ i = .int k ∧ H p = some (.lst xs) ∧ ixN xs.length k = some j ∧ Q (upd H p (.lst (xs.set j v)))
theorem set_list : PSet X rSetL := by
  intro pins s σ H o i v ov iv u Q I ro ri rv h
  obtain ⟨p, xs, k, j, rfl, rfl, hp, hj, q⟩ := h
  cases ro
  obtain ⟨t, rfl⟩ := ri
  obtain ⟨its, n, r, ho, hz⟩ := I.lst hp
  obtain ⟨h1, h2, h3, h4⟩ := ixN_seq hj
  have hl := r.length
  have hn := line63
  have I' : Inv X pins σ (upd H p (.lst (xs.set j v))) { s with heap := s.heap.update p (Obj.mapSeq (·.setIfInBounds j u)) } :=
    I.lstUpd hp ho (mapSeq_set its n j u) (r.set rv j) (by rw [List.length_set]; exact hz) s.toks
  by_cases h0 : 0 ≤ k
  · have hk : k.toNat = j := by
      rw [seqIndex_of h0 h4] at h1
      exact Option.some.inj h1
    exact PySem.W.ki_setAt ho h0 (by omega) (by rw [List.size_toArray, ← hl]; exact h4) (by rw [hk]; exact ⟨_, I', q⟩)
  · have hk : (k + (its.toArray.size : Int)).toNat = j := by
      rw [seqIndex_neg (by omega) h3] at h1
      rw [List.size_toArray, ← hl]
      exact Option.some.inj h1
    exact PySem.W.ki_setBack ho (by omega) (by rw [List.size_toArray, ← hl]; exact h3) (by omega) (by rw [hk]; exact ⟨_, I', q⟩)

theorem slice_bounds (lo hi : Option Int) (n : Nat) : (sliceBounds lo hi none n).1 = ((HT.sIx n 0 lo : Nat) : Int) ∧ (sliceBounds lo hi none n).2.1 = ((HT.sIx n n hi : Nat) : Int) ∧ (sliceBounds lo hi none n).2.2 = 1 := by
  refine ⟨?_, ?_, rfl⟩
  · cases lo with
    | none => simp [sliceBounds, HT.sIx]
    | some i =>
      simp only [sliceBounds, HT.sIx, Option.getD_none, show (1 : Int) > 0 by decide, if_true]
      by_cases h : i < 0
      · simp only [h, if_true] <;> omega
      · simp only [h, if_false] <;> omega
  · cases hi with
    | none => simp [sliceBounds, HT.sIx]
    | some i =>
      simp only [sliceBounds, HT.sIx, Option.getD_none, show (1 : Int) > 0 by decide, if_true]
      by_cases h : i < 0
      · simp only [h, if_true] <;> omega
      · simp only [h, if_false] <;> omega
theorem slicePick_cut (its : List Value) (lo hi : Option Int) : slicePick its.toArray lo hi none = ((its.drop (HT.sIx its.length 0 lo)).take (HT.sIx its.length its.length hi - HT.sIx its.length 0 lo)).toArray := by
  obtain ⟨h1, h2, h3⟩ := slice_bounds lo hi its.toArray.size
  unfold slicePick
  rw [h1, h2, h3]
  simp only [sliceRange_one, pick_run, List.size_toArray] <;> rfl
/-- xs[lo:hi] of a list: a new list -/
def rSlL (K : PySem.W.Frag) : V → Option Int → Option Int → Hp → VK → Prop := fun x lo hi H Q => ∃ a xs, x = .ref a ∧ SqL K H a xs ∧ ∀ p, H p = none → Q (.ref p) (upd H p (.lst (cutV xs lo hi)))
theorem sl_list : SlR X (rSlL X.K) := by
  intro pins s σ H x v vl vu lo hi sl Q I rx hs pl pu h
  obtain ⟨a, xs, rfl, hx, q⟩ := h
  cases rx
  obtain ⟨its, r, ht, hz⟩ := I.list hx
  have hlen := r.length
  refine ⟨"list", _, slot_list_getitem.lookup, ht.isList.typeIs, ?_⟩
  refine wpAny_getItem_list_slice ht.isList hs pl pu .none (by simp) ?_ (by rw [List.size_toArray] <;> omega)
  rw [slicePick_cut, ← hlen]
  refine ⟨.ref s.heap.objs.size, _, I.laid (t' := s.toks) (o := .lst (cutV xs lo hi)) (fun b ob q => Heap.get?_push_of_some _ q) (Nat.le_refl _) ?_, rfl, q _ (I.hok.fresh (Nat.le_refl _))⟩
  exact ⟨Nat.le_trans (cutV_length xs lo hi) hz, _, 0, (r.drop (HT.sIx xs.length 0 lo)).take (HT.sIx xs.length xs.length hi - HT.sIx xs.length 0 lo), Heap.get?_push_size _ rfl⟩

def flatV : V → Bool
  | .non => true
  | .bl _ => true
  | .int _ => true
  | .str _ => true
  | _ => false
/-- == of flat values -/
def eqV : V → V → Bool
  | .non, .non => true
  | .bl a, .bl b => a == b
  | .bl a, .int b => (if a then 1 else 0) == b
  | .int a, .bl b => a == (if b then 1 else 0)
  | .int a, .int b => a == b
  | .str a, .str b => a == b
  | _, _ => false
theorem eqAt_V {A : Around} {s : Shared} {y x : V} {u v : Value} (ry : RelV y u) (rx : RelV x v) (fy : flatV y = true) (fx : flatV x = true) : SeqAt.EqAt A s u v (eqV y x) := by
  cases y with
  | non =>
    cases ry
    cases x with
    | non => cases rx; exact SeqAt.EqAt.same _
    | bl b => cases rx; exact SeqAt.EqAt.none_bool b
    | int b => obtain ⟨t, rfl⟩ := rx; exact SeqAt.EqAt.none_int b t
    | str b => obtain ⟨t, rfl⟩ := rx; exact SeqAt.EqAt.none_str b t
    | _ => exact absurd (show false = true from fx) Bool.false_ne_true
  | bl a =>
    cases ry
    cases x with
    | non => cases rx; exact SeqAt.EqAt.bool_none a
    | bl b => cases rx; exact SeqAt.EqAt.bool_bool a b
    | int b => obtain ⟨t, rfl⟩ := rx; exact SeqAt.EqAt.bool_int a b t
    | str b => obtain ⟨t, rfl⟩ := rx; exact SeqAt.EqAt.bool_str a b t
    | _ => exact absurd (show false = true from fx) Bool.false_ne_true
  | int a =>
    obtain ⟨t', rfl⟩ := ry
    cases x with
    | non => cases rx; exact SeqAt.EqAt.int_none a t'
    | bl b => cases rx; exact SeqAt.EqAt.int_bool a t' b
    | int b => obtain ⟨t, rfl⟩ := rx; exact SeqAt.EqAt.int_int a t' b t
    | str b => obtain ⟨t, rfl⟩ := rx; exact SeqAt.EqAt.int_str a t' b t
    | _ => exact absurd (show false = true from fx) Bool.false_ne_true
  | str a =>
    obtain ⟨t', rfl⟩ := ry
    cases x with
    | non => cases rx; exact SeqAt.EqAt.str_none a t'
    | bl b => cases rx; exact SeqAt.EqAt.str_bool a t' b
    | int b => obtain ⟨t, rfl⟩ := rx; exact SeqAt.EqAt.str_int a t' b t
    | str b => obtain ⟨t, rfl⟩ := rx; exact SeqAt.EqAt.str_str a t' b t
    | _ => exact absurd (show false = true from fx) Bool.false_ne_true
  | _ => exact absurd (show false = true from fy) Bool.false_ne_true
/-- the items' answers, read off the values (a value's own answer does not lean on its token) -/
def eqU (x : V) (u : Value) : Bool := match u with
  | .none => eqV .non x
  | .bool b => eqV (.bl b) x
  | .int i _ => eqV (.int i) x
  | .str z _ => eqV (.str z) x
  | _ => false
theorem eqU_of {x y : V} {u : Value} (r : RelV y u) (f : flatV y = true) : eqU x u = eqV y x := by
  cases y with
  | non => cases r; rfl
  | bl b => cases r; rfl
  | int i => obtain ⟨t, rfl⟩ := r; rfl
  | str z => obtain ⟨t, rfl⟩ := r; rfl
  | _ => exact absurd (show false = true from f) Bool.false_ne_true
theorem any_eqU {x : V} : ∀ {xs : List V} {us : List Value}, Vals xs us → xs.all flatV = true → us.any (eqU x) = xs.any fun y => eqV y x
  | _, _, .nil, _ => rfl
  | y :: xs, u :: us, .cons r t, f => by
    rw [List.all_cons, Bool.and_eq_true] at f
    rw [List.any_cons, List.any_cons, eqU_of r f.1, any_eqU t f.2]
theorem mem_eqAt {A : Around} {s : Shared} {x : V} {v : Value} (rx : RelV x v) (fx : flatV x = true) : ∀ {xs : List V} {us : List Value}, Vals xs us → xs.all flatV = true → ∀ u ∈ us, SeqAt.EqAt A s u v (eqU x u)
  | _, _, .nil, _ => fun u hu => by cases hu
  | y :: xs, u :: us, .cons r t, f => fun u' hu => by
    rw [List.all_cons, Bool.and_eq_true] at f
    rcases List.mem_cons.mp hu with rfl | hu
    · rw [eqU_of r f.1]; exact eqAt_V r rx f.1 fx
    · exact mem_eqAt rx fx t f.2 u' hu
def inV (x : V) (xs : List V) : Bool := xs.any fun y => eqV y x
/-- x in a list or tuple of flat items -/
def rIn (K : PySem.W.Frag) (neg : Bool) : R2 := fun x y H Q => ∃ p xs, y = .ref p ∧ (SqL K H p xs ∨ SqT K H p xs) ∧ flatV x = true ∧ xs.all flatV = true ∧ Q (.bl (if neg then !inV x xs else inV x xs)) H
theorem op_in_seq : OpR X (compareOp .In) (rIn X.K false) := by
  intro pins s σ H x y v u Q I rx ry h
  obtain ⟨p, xs, rfl, hq, fx, fs, q⟩ := h
  cases ry
  rcases hq with hq | hq
  · obtain ⟨its, r, pl, hz⟩ := I.list hq
    refine SeqAt.in_listAt (eqU x) pl.isList (fun w hw => mem_eqAt rx fx r fs w (by simpa using hw)) ⟨.bl _, H, I, rfl, ?_⟩
    rw [show its.toArray.any (eqU x) = its.any (eqU x) by simp, any_eqU r fs]
    exact q
  · obtain ⟨its, r, pl, hz⟩ := I.tuple hq
    refine SeqAt.in_tupleAt (eqU x) pl (fun w hw => mem_eqAt rx fx r fs w (by simpa using hw)) ⟨.bl _, H, I, rfl, ?_⟩
    rw [show its.toArray.any (eqU x) = its.any (eqU x) by simp, any_eqU r fs]
    exact q

theorem call_len_seq : CallR X (.builtin "len") (fun xs H Q => ∃ p ys, xs = [.ref p] ∧ (SqL X.K H p ys ∨ SqT X.K H p ys) ∧ Q (.int ys.length) H) := by
  intro pins s σ H xs us Q I r h
  obtain ⟨p, ys, rfl, hq, q⟩ := h
  obtain ⟨u, rfl, rx⟩ := vals1 r
  cases rx
  have hn := line63
  rcases hq with hq | hq
  · obtain ⟨its, r', pl, hz⟩ := I.list hq
    have hlen := r'.length
    exact Calls.call_len_list pl.isList (by simp only [List.size_toArray] <;> omega) ⟨.int ys.length, H, I.tok _, ⟨s.toks + 1, by rw [List.size_toArray, hlen]⟩, q⟩
  · obtain ⟨its, r', pl, hz⟩ := I.tuple hq
    have hlen := r'.length
    exact len_tuple pl (by simp only [List.size_toArray] <;> omega) ⟨.int ys.length, H, I.tok _, ⟨s.toks + 1, by rw [List.size_toArray, hlen]⟩, q⟩
theorem call_len_str : CallR X (.builtin "len") (fun xs H Q => ∃ z, xs = [.str z] ∧ z.length ≤ sizeLine ∧ Q (.int z.length) H) := by
  intro pins s σ H xs us Q I r h
  obtain ⟨z, rfl, hz, q⟩ := h
  obtain ⟨u, rfl, t, rfl⟩ := vals1 r
  have hn := line63
  exact len_str (by omega) ⟨.int z.length, H, I.tok _, ⟨_, rfl⟩, q⟩
theorem call_tuple_of : CallR X (.type "tuple") (fun xs H Q => ∃ p ys, xs = [.ref p] ∧ ((SqL X.K H p ys ∧ ∀ l, H l = none → Q (.ref l) (upd H l (.tup ys))) ∨ (SqT X.K H p ys ∧ Q (.ref p) H))) := by
  intro pins s σ H xs us Q I r h
  obtain ⟨p, ys, rfl, h⟩ := h
  obtain ⟨u, rfl, rx⟩ := vals1 r
  cases rx
  rcases h with ⟨hq, q⟩ | ⟨hq, q⟩
  · obtain ⟨its, r', pl, hz⟩ := I.list hq
    have hlen := r'.length
    refine call_tuple_list pl.isList (fun h' kp => ?_) (by simp only [List.size_toArray] <;> omega)
    have I1 : Inv X pins σ H { s with heap := h' } := I.kept (t' := s.toks) kp
    have I2 : Inv X pins σ (upd H h'.objs.size (.tup ys)) { s with heap := h'.push { cls := .type "tuple", data := .seq its.toArray } } :=
      I1.laid (t' := s.toks) (fun b o e => Heap.get?_push_of_some _ e) (Nat.le_refl _) (show ObjOk X.prog X.w _ _ _ (.tup ys) from ⟨hz, its, r', IsTup.new _ _⟩)
    exact ⟨.ref h'.objs.size, _, I2, rfl, q _ (I1.hok.fresh (Nat.le_refl _))⟩
  · obtain ⟨its, r', pl, hz⟩ := I.tuple hq
    exact call_tuple_same pl ⟨.ref p, H, I, rfl, q⟩

/-- the value is of that builtin type -/
def tyV (K : PySem.W.Frag) (T : String) (x : V) (H : Hp) : Prop := match x with
  | .str _ => T = "str"
  | .int _ => T = "int"
  | .ref p => (T = "list" ∧ ∃ xs, SqL K H p xs) ∨ (T = "tuple" ∧ ∃ o, K.lookup p = some o ∧ o.cls = .type "tuple" ∧ o.dict = none) ∨
      (T = "dict" ∧ ((∃ kvs, H p = some (.dK kvs)) ∨ ∃ kvs, H p = some (.dT kvs))) ∨ (T = "set" ∧ ∃ S n, H p = some (.set S n))
  | _ => False
theorem tyV_is {pins : List (Addr × Obj)} {σ : St} {H : Hp} {s : Shared} {T : String} {x : V} {v : Value} (I : Inv X pins σ H s) (r : RelV x v) (ty : tyV X.K T x H) :
    s.TypeIs v T ∧ ∀ a, v = .ref a → ∃ ob, s.heap.get? a = some ob ∧ ob.dict = none := by
  cases x with
  | str z =>
    obtain ⟨t, rfl⟩ := r
    cases (show T = "str" from ty)
    exact ⟨typeIs_str s z t, fun _ e => nomatch e⟩
  | int i =>
    obtain ⟨t, rfl⟩ := r
    cases (show T = "int" from ty)
    exact ⟨typeIs_int s i t, fun _ e => nomatch e⟩
  | ref p =>
    cases r
    rcases ty with ⟨rfl, xs, hq⟩ | ⟨rfl, o, hk, hc, hd⟩ | ⟨rfl, hk⟩ | ⟨rfl, S, n, hk⟩
    · obtain ⟨its, _, pl, _⟩ := I.list hq
      refine ⟨pl.isList.typeIs, fun a e => ?_⟩
      cases e
      obtain ⟨o, n, e, c, hd, _⟩ := pl
      exact ⟨o, e, hd⟩
    · refine ⟨⟨o, I.kIn p o hk, hc⟩, fun a e => ?_⟩
      cases e
      exact ⟨o, I.kIn _ o hk, hd⟩
    · have z : ∃ o, s.heap.get? p = some o ∧ o.ExactDict := by
        rcases hk with ⟨kvs, hk⟩ | ⟨kvs, hk⟩
        · obtain ⟨_, _, _, _, o, _, _, e, ex, _⟩ := I.hok p _ hk
          exact ⟨o, e, ex⟩
        · obtain ⟨_, _, _, _, o, _, _, e, ex, _⟩ := I.hok p _ hk
          exact ⟨o, e, ex⟩
      obtain ⟨o, e, ex⟩ := z
      refine ⟨⟨o, e, ex.1⟩, fun a e2 => ?_⟩
      cases e2
      exact ⟨o, e, ex.2.1⟩
    · obtain ⟨o, _, _, _, e, ex, _⟩ := I.hok p _ hk
      refine ⟨⟨o, e, ex.1⟩, fun a e2 => ?_⟩
      cases e2
      exact ⟨o, e, ex.2.1⟩
  | _ => exact False.elim ty
def tBM0 (K : PySem.W.Frag) (T : String) (r : V → List V → Hp → VK → Prop) (to : TE) : TE := fun σ H Q => to σ H fun x H1 => tyV K T x H1 ∧ r x [] H1 Q
def tBM (K : PySem.W.Frag) (T : String) (r : V → List V → Hp → VK → Prop) (to : TE) (t : TA) : TE := fun σ H Q => to σ H fun x H1 => tyV K T x H1 ∧ t σ H1 fun xs H2 => r x xs H2 Q
variable {o e : Expr} {es : List Expr} {to : TE} {t : TA} {name : Str} {apos cpos : Pos} {T id : String} {r : V → List V → Hp → VK → Prop}
theorem pe_bm0 (pa : PlainAttrs T) (slot : Slot T name id) (hty : typeOf (.builtin id) = pure (.type "method_descriptor")) (hm : MtR X id r) (ho : PE X o to)
    (hbase : attributeBase o name X.env (eval o X.env) = eval o X.env := by rfl) (hline : (apos.endLine == cpos.line) = true := by rfl) : PE X (.Call (.Attribute o name apos) [] [] cpos) (tBM0 X.K T r to) := by
  intro pins s σ H Q I h
  refine wpAny_Call_method0_late hbase hline (thn (ho pins s σ H _ I h) fun v s1 ⟨x, H1, I1, r1, ty, q1⟩ => ?_)
  obtain ⟨h1, h2⟩ := tyV_is I1 r1 ty
  exact ⟨T, id, pa, slot, hty, h1, h2, Calls.callWith_builtin rfl (PySem.evalArgs_none (hm pins s1 σ H1 x [] v [] Q I1 r1 .nil q1))⟩
theorem pe_bm (pa : PlainAttrs T) (slot : Slot T name id) (hty : typeOf (.builtin id) = pure (.type "method_descriptor")) (hm : MtR X id r) (ho : PE X o to) (ha : PA X (e :: es) t)
    (hbase : attributeBase o name X.env (eval o X.env) = eval o X.env := by rfl)
    (hfew : ((backTo cpos (starEach (e :: es) X.env)).all (fun x => !x.1) && (backToKw cpos (keywordEach [] X.env)).all (fun x => x.1.isSome)
      && decide ((e :: es).length + ([] : List Keyword).length + (if ([] : List Keyword).isEmpty then 0 else 1) < 30)) = true := by rfl)
    (hline : (apos.endLine == cpos.line) = true := by rfl) (hs : starEach (e :: es) X.env = (false, eval e X.env) :: starEach es X.env := by rfl) (hplain : (backTo cpos (starEach es X.env)).any (·.1) = false := by rfl) :
    PE X (.Call (.Attribute o name apos) (e :: es) [] cpos) (tBM X.K T r to t) := by
  intro pins s σ H Q I h
  refine wpAny_Call_method_late hbase hfew hline rfl (thn (ho pins s σ H _ I h) fun v s1 ⟨x, H1, I1, r1, ty, q1⟩ => ?_)
  obtain ⟨h1, h2⟩ := tyV_is I1 r1 ty
  refine ⟨T, id, pa, slot, hty, h1, h2, ?_⟩
  have hA := ha cpos pins s1 σ H1 _ I1 q1
  rw [hs] at hA ⊢
  refine Calls.callWith_builtin (by show (false || (backTo cpos (starEach es X.env)).any (·.1)) = false; rw [hplain] <;> rfl) (Calls.evalArgs_plain ?_)
  exact thn hA fun us s2 ⟨vs, H2, I2, r2, q2⟩ => hm pins s2 σ H2 x vs v us Q I2 r1 r2 q2
/- xs.append(e), list.index on a module's tuple .. are MtR facts of 06m -/
end
end L2

namespace L2
open PySem PySem.Spec PyProof.Rows

def MtM (X : Cx) (id : String) (r : V → List V → Hp → VK → Prop) : Prop :=
  ∀ (pins : List (Addr × Obj)) (s : Shared) (σ : St) (H : Hp) (x : V) (xs : List V) (v : Value) (us : List Value) (Q : VK), Inv X pins σ H s → RelV x v → Vals xs us → r x xs H Q →
    wpAny (model X.prog X.w) X.A (call (.builtin id) (v :: us)) (EP X pins σ Q) X.xe s

theorem Vals.one : ∀ {x : V} {us : List Value}, Vals [x] us → ∃ u, us = [u] ∧ RelV x u
  | _, _, .cons r .nil => ⟨_, rfl, r⟩
theorem Vals.two : ∀ {x y : V} {us : List Value}, Vals [x, y] us → ∃ u v, us = [u, v] ∧ RelV x u ∧ RelV y v
  | _, _, _, .cons r (.cons q .nil) => ⟨_, _, rfl, r, q⟩
theorem Vals.zero : ∀ {us : List Value}, Vals [] us → us = []
  | _, .nil => rfl
theorem Vals.dropLast {xs : List V} {us : List Value} (h : Vals xs us) : Vals xs.dropLast us.dropLast := by
  induction h with
  | nil => exact .nil
  | cons r t ih =>
    cases t with
    | nil => exact .nil
    | cons q t' => exact .cons r ih
theorem Vals.reverse {xs : List V} {us : List Value} (h : Vals xs us) : Vals xs.reverse us.reverse := by
  induction h with
  | nil => exact .nil
  | cons r t ih => rw [List.reverse_cons, List.reverse_cons]; exact Vals.append ih (.cons r .nil)
theorem Vals.rep {xs : List V} {us : List Value} (h : Vals xs us) : ∀ k : Nat, Vals (List.replicate k xs).flatten (List.replicate k us).flatten
  | 0 => .nil
  | k + 1 => by
    rw [List.replicate_succ, List.replicate_succ, List.flatten_cons, List.flatten_cons]
    exact Vals.append h (Vals.rep h k)
theorem erase_last {α : Type} (l : List α) : l.eraseIdx (l.length - 1) = l.dropLast := by
  induction l with
  | nil => rfl
  | cons a r ih =>
    cases r with
    | nil => rfl
    | cons b r =>
      have e : (a :: b :: r).length - 1 = ((b :: r).length - 1) + 1 := by
        have h1 : (a :: b :: r).length = r.length + 2 := rfl
        have h2 : (b :: r).length = r.length + 1 := rfl
        omega
      rw [e, List.eraseIdx_cons_succ, ih]
      all_goals rfl
theorem foldl_rep (its : List Value) : ∀ (k : Nat) (acc : List Value),
    List.foldl (fun x1 x2 => x1 ++ x2) acc.toArray (List.replicate k its.toArray) = (acc ++ (List.replicate k its).flatten).toArray
  | 0, acc => by simp
  | k + 1, acc => by
    have e : acc.toArray ++ its.toArray = (acc ++ its).toArray := by simp
    have e2 : (acc ++ its) ++ (List.replicate k its).flatten = acc ++ (List.replicate (k + 1) its).flatten := by
      rw [List.replicate_succ, List.flatten_cons, List.append_assoc]
    rw [← e2, ← foldl_rep its k (acc ++ its), ← e, List.replicate_succ, List.foldl_cons]

section
variable {X : Cx} {pins : List (Addr × Obj)} {σ : St} {H : Hp} {s : Shared} {l b : Addr} {xs ys zs : List V}

theorem Inv.lset {its its' : List Value} {n : Nat} {f : Array Value → Array Value} {t' : Nat} (I : Inv X pins σ H s) (hH : H l = some (.lst xs))
    (e : s.heap.get? l = some { cls := .type "list", data := .seq its.toArray n }) (hf : f its.toArray = its'.toArray) (hv : Vals ys its') (hz : ys.length ≤ sizeLine) :
    Inv X pins σ (upd H l (.lst ys)) { s with heap := s.heap.update l (Obj.mapSeq f), toks := t' } := by
  have q := PySem.IsL.update e f
  rw [hf] at q
  refine I.write (x := l) (e := l) (by rw [hH]; exact trivial) (.inl rfl) (fun b' u hb hu => (Heap.get?_update_other s.heap (Obj.mapSeq f) (Ne.symm hb)).trans hu) ⟨_, q⟩ ?_
  exact ⟨hz, its', _, hv, q⟩
theorem Inv.lnew {its : List Value} {t' : Nat} (I : Inv X pins σ H s) (hv : Vals ys its) (hz : ys.length ≤ sizeLine) :
    Inv X pins σ (upd H s.heap.objs.size (.lst ys)) { s with heap := s.heap.push { cls := .type "list", data := .seq its.toArray }, toks := t' } :=
  I.laid (fun _ _ q => Heap.get?_push_of_some _ q) (Nat.le_refl _) ⟨hz, its, 0, hv, Heap.get?_push_size _ rfl⟩
theorem Inv.fresh (I : Inv X pins σ H s) : H s.heap.objs.size = none := I.hok.fresh (Nat.le_refl _)
theorem Inv.lstM (I : Inv X pins σ H s) (hH : H l = some (.lst xs)) : xs.length ≤ sizeLine ∧ ∃ (its : List Value) (n : Nat), Vals xs its ∧ xs.length = its.length ∧ s.heap.get? l = some { cls := .type "list", data := .seq its.toArray n } := by
  obtain ⟨z, its, n, r, e⟩ := I.hok l _ hH
  exact ⟨z, its, n, r, r.length, e⟩

theorem notLongL {n : Nat} (h : n ≤ sizeLine) : Builtin.List.listTooLong n = false := by
  unfold Builtin.List.listTooLong
  exact decide_eq_false (by omega)
end

section
variable {X : Cx}

def rAppend : V → List V → Hp → VK → Prop := fun x vs H Q => ∃ l xs y, x = .ref l ∧ vs = [y] ∧ H l = some (.lst xs) ∧ xs.length < sizeLine ∧ Q .non (upd H l (.lst (xs ++ [y])))
theorem mt_append : MtM X "list.append" rAppend := by
  intro pins s σ H x vs v us Q I rx rv h
  obtain ⟨l, xs, y, rfl, rfl, hH, hz, q⟩ := h
  cases rx
  obtain ⟨u, rfl, ru⟩ := rv.one
  obtain ⟨z, its, n, r, hl, e⟩ := I.lstM hH
  refine call_meets F.slot_list_append ⟨_, e, rfl⟩ F.entry_list_append (F.args_list_append_2 _ _) (PySem.list_append l its.toArray n u (by rw [List.size_toArray]; omega)) ⟨e, ?_⟩
  refine ⟨.non, _, I.lset (its' := its ++ [u]) hH e (by simp) (r.append (.cons ru .nil)) ?_, rfl, q⟩
  rw [List.length_append, List.length_singleton]
  omega

def rExtend : V → List V → Hp → VK → Prop := fun x vs H Q => ∃ l b xs zs, x = .ref l ∧ vs = [.ref b] ∧ H l = some (.lst xs) ∧ H b = some (.lst zs) ∧ xs.length + zs.length ≤ sizeLine ∧ Q .non (upd H l (.lst (xs ++ zs)))
theorem mt_extend : MtM X "list.extend" rExtend := by
  intro pins s σ H x vs v us Q I rx rv h
  obtain ⟨l, b, xs, zs, rfl, rfl, hH, hB, hz, q⟩ := h
  cases rx
  obtain ⟨u, rfl, ru⟩ := rv.one
  cases ru
  obtain ⟨z, its, n, r, hl, e⟩ := I.lstM hH
  obtain ⟨z2, its2, n2, r2, hl2, e2⟩ := I.lstM hB
  have hsz : its.toArray.size + its2.toArray.size ≤ sizeLine := by rw [List.size_toArray, List.size_toArray]; omega
  have hlong : ¬ (!its.toArray.isEmpty && Builtin.List.listTooLong (its.toArray.size + its2.toArray.size)) = true := by
    rw [notLongL hsz, Bool.and_false]
    exact Bool.false_ne_true
  refine call_meets F.slot_list_extend ⟨_, e, rfl⟩ F.entry_list_extend (F.args_list_extend_2 _ _)
    (AutoSeq1.list_extend_list_list_0 l its.toArray n b its2.toArray n2 hlong (by rw [List.size_toArray]; omega) (by omega)) ⟨e, e2, ?_⟩
  refine ⟨.non, _, I.lset (its' := its ++ its2) hH e (by simp) (r.append r2) ?_, rfl, q⟩
  rw [List.length_append]
  omega

def rPop : V → List V → Hp → VK → Prop := fun x vs H Q => ∃ l xs y, x = .ref l ∧ vs = [] ∧ H l = some (.lst xs) ∧ xs[xs.length - 1]? = some y ∧ Q y (upd H l (.lst xs.dropLast))
theorem mt_pop : MtM X "list.pop" rPop := by
  intro pins s σ H x vs v us Q I rx rv h
  obtain ⟨l, xs, y, rfl, rfl, hH, hy, q⟩ := h
  cases rx
  have hus := rv.zero
  subst hus
  obtain ⟨z, its, n, r, hl, e⟩ := I.lstM hH
  obtain ⟨u, hu, ru⟩ := r.get hy
  have hy' : its.toArray[its.toArray.size - 1]? = some u := by
    show its.toArray[its.length - 1]? = some u
    rw [← Array.getElem?_toList, ← hl]
    exact hu
  refine call_meets F.slot_list_pop ⟨_, e, rfl⟩ F.entry_list_pop (F.args_list_pop_1 _) (MeetsSeq.list_pop_last l its.toArray n u hy' (by rw [List.size_toArray]; omega)) ⟨e, ?_⟩
  refine ⟨y, _, I.lset (its' := its.dropLast) hH e ?_ r.dropLast ?_, ru, q⟩
  · show its.toArray.eraseIdxIfInBounds (its.toArray.size - 1) = its.dropLast.toArray
    rw [List.size_toArray, List.eraseIdxIfInBounds_toArray, erase_last]
  · rw [List.length_dropLast]
    omega




/-- a list times an int (a negative one is nothing) -/
def rRep : R2 := fun x y H Q => ∃ l k xs, x = .ref l ∧ y = .int k ∧ H l = some (.lst xs) ∧ -(2 ^ 63) ≤ k ∧ k < 2 ^ 63 ∧ xs.length * k.toNat ≤ sizeLine ∧
  ∀ p, H p = none → Q (.ref p) (upd H p (.lst (List.replicate k.toNat xs).flatten))
theorem len_rep {α : Type} (xs : List α) (k : Nat) : (List.replicate k xs).flatten.length = k * xs.length := by
  induction k with
  | zero => simp
  | succ k ih => rw [List.replicate_succ, List.flatten_cons, List.length_append, ih, Nat.succ_mul, Nat.add_comm]
theorem op_rep : OpR X (binaryOp .Mult) rRep := by
  intro pins s σ H x y v u Q I rx ry h
  obtain ⟨l, k, xs, rfl, rfl, hH, h1, h2, hz, q⟩ := h
  cases rx
  obtain ⟨t, rfl⟩ := ry
  obtain ⟨z, its, n, r, hl, e⟩ := I.lstM hH
  have hlen : its.toArray.size * k.toNat ≤ sizeLine := by rw [List.size_toArray, ← hl]; exact hz
  have hcap : ¬ its.toArray.size * k.toNat > (2 ^ 63 - 1) / 8 := by
    have : (sizeLine : Nat) ≤ (2 ^ 63 - 1) / 8 := by decide
    omega
  have hfit : ¬ (!Builtin.List.listFitsIndex k) = true := by
    rw [fitsIndex_both h1 h2]
    exact Bool.false_ne_true
  have hlong : ¬ Builtin.List.listTooLong (its.toArray.size * k.toNat) = true := by
    rw [notLongL hlen]
    exact Bool.false_ne_true
  have hnew : List.foldl (fun x1 x2 => x1 ++ x2) #[] (List.replicate (if its.toArray.isEmpty = true then 0 else k.toNat) its.toArray) = (List.replicate k.toNat its).flatten.toArray := by
    have f0 : ∀ m : Nat, List.foldl (fun x1 x2 => x1 ++ x2) #[] (List.replicate m its.toArray) = (List.replicate m its).flatten.toArray := fun m => by
      have := foldl_rep its m []
      rw [List.nil_append] at this
      exact this
    rw [f0]
    cases its with
    | nil => simp
    | cons a r' => rw [if_neg (by simp)]
  refine wpAny_binaryOp_repeat_ref (T := "list") (U := "int") (by decide) ⟨_, e, rfl⟩ (fun s' => typeIs_int s' k t) noFill_list_mul F.fills_int_mul F.slot_int_rmul repeat_list F.slot_int_index.lookup
    (call_meets F.slot_int_rmul (typeIs_int s k t) F.entry_int_rmul (F.args_int_rmul_2 _ _) (int___rmul___int_list k t l its.toArray n)
      ⟨e, rfl, ⟨_, e, rfl⟩, call_meets F.slot_list_mul ⟨_, e, rfl⟩ F.entry_list_mul (F.args_list_mul_2 _ _) (AutoListH.list___mul___list_int_3 l its.toArray n k t hfit hcap hlong) ⟨e, ?_⟩⟩)
  rw [hnew]
  exact ⟨.ref _, _, I.lnew (t' := s.toks) (r.rep k.toNat) (by rw [len_rep, Nat.mul_comm]; exact hz), rfl, q _ I.fresh⟩

end

section
variable {prog : Program} {w : World} {A : Around} {E : Value → Shared → Prop} {s : Shared}
end

section
variable {X : Cx}
end
end L2

namespace Att
open PySem PySem.W PySem.Calls PyProof.Rows

theorem ints_of_wellAll {P : Params} {h : Heap} : ∀ (ns : List Int) (vs : List Value), WellAll P h vs (ns.map WData.int) → IntsAre vs ns := by
  intro ns
  induction ns with
  | nil =>
    intro vs w
    rw [List.map_nil] at w
    cases w
    exact .nil
  | cons n ns ih =>
    intro vs w
    rw [List.map_cons] at w
    cases w with
    | cons a b =>
      cases a
      exact .cons _ _ (ih _ b)

theorem script_of {l : OpenLaw} {n : Nat} (hn : l.most = some n) {P : Params} {h : Heap} {args : List WData} {vals : List Value}
    (hpre : l.row.toRowW.claim.pre args = true) (hwl : WellAll P h vals args) :
    ∃ a vs ns, vals = [Value.ref a] ∧ args = [WData.list (ns.map WData.int)] ∧ h.get? a = some { cls := .type "list", data := .seq vs.toArray } ∧ IntsAre vs ns ∧ ns.length ≤ n := by
  have hsh : WShape.hasAll [] args [.list .int] = true := (pre_splitW hpre).1
  have hc : l.pre.holds [] { args := args } = true := (pre_splitW hpre).2
  obtain ⟨d, r, rfl, h1, h2⟩ := hasAllW_cons hsh
  obtain rfl := hasAllW_nil h2
  obtain ⟨xs, rfl, h3⟩ := hasW_list h1
  obtain ⟨ns, rfl⟩ := items_int h3
  have hlen : ns.length ≤ n := by
    unfold OpenLaw.pre at hc
    have h4 : (WTm.not (.lt (.lit (.int (n : Int))) (.len (.arg 0)))).holds [] { args := [.list (ns.map .int)] } = true := by
      have h4 := (holds_andW hc).1
      rw [hn] at h4
      exact h4
    have h5 := condW_of h4 (w_not (w_lt w_lit (w_len_list (w_arg rfl))))
    rw [List.length_map] at h5
    refine Nat.le_of_not_lt fun q => ?_
    have q' : (n : Int) < ((ns.length : Nat) : Int) := by omega
    first
      | (rw [decide_eq_true q'] at h5; exact absurd h5 (by decide))
      | (simp at h5; omega)
  cases hwl with
  | cons w1 w2 =>
    cases w2
    cases w1 with
    | list ho hall => exact ⟨_, _, ns, rfl, rfl, ho, ints_of_wellAll ns _ hall, hlen⟩

theorem post_true (l : OpenLaw) (args : List WData) : l.row.toRowW.claim.post args (.bool true) args = true :=
  postW_of (r := l.row.toRowW) (X := (true == true))
    (show WShape.has [] (.bool true) .bool = true by first | rfl | decide | simp [WShape.has, WShape.arms, WShape.armsAll])
    (show (WTm.eq .res (.lit (.bool true))).value [] { args := args, res := some (.bool true), after := args } = some (.bool (true == true)) from w_eq_bool (w_res rfl) w_lit) rfl


/-- the same from a codeAny of the CALL (for a layer whose function contracts speak of calls) -/
theorem attach_call {l : OpenLaw} {n : Nat} {q : Program} {loose : List Str} {XP : (Str → Option Value) → Heap → Prop} {YP : World → Heap → Prop} {d : DefRec}
    (hn : l.most = some n) (hdf : d.params.defaults = [])
    (call : ∀ (w : World) (s₀ s₁ : Shared) (mg mb : Str → Option Value) (fa : Addr) (o : Obj) (pm cd doc : Value) (a : Addr) (vs : List Value) (ns : List Int),
      Ground q loose [] XP w s₀ mg mb s₁.heap → YP w s₁.heap →
      s₁.heap.get? fa = some o → o.data = .func (docDef d.name d.params d.body d.scope pm cd doc) → s₁.heap.CodeRec cd d.name → mg d.name = some (.ref fa) →
      s₁.heap.get? a = some { cls := .type "list", data := .seq vs.toArray } → IntsAre vs ns → ns.length ≤ n → s₁.gens = #[] →
      codeAny (model l.prog w) callerA (.call (.ref fa) ⟨[.ref a], []⟩) (fun r s' => r = .ok (.ret (.bool true)) ∧ OldK s₁.heap s'.heap ∧ s'.os = s₁.os ∧ AllBare s'.gens) s₁) :
    WalkO q loose XP YP l.row.toRowW d [] (fun f vs => PySem.call f vs) := by
  intro w s₀ s₁ mg mb G Y fa o pm cd doc dV kV ho hd hcd hD hmg hg args vals as hpre hlay hrd hwl hlo
  obtain rfl : dV = .none := Dflts.none hD hdf
  obtain rfl : kV = .none := Dflts.noKw hD
  obtain ⟨a, vs, ns, rfl, rfl, hobj, hints, hlen⟩ := script_of hn hpre hwl
  refine enter_call (codeAny_mono (call w s₀ s₁ mg mb fa o pm cd doc a vs ns G Y ho (fd_plain hd) hcd hmg hobj hints hlen hg) fun r s' hq => ?_)
  obtain ⟨rfl, h2, h3, h4⟩ := hq
  exact ⟨.inl ⟨.bool true, .bool true, [], rfl, fun _ => rfl, .bool true, post_true l _, fun _ => ⟨List.Pairwise.nil, fun _ hm => (nomatch hm)⟩⟩, h2, h3, h4⟩


section
variable {prog : Program} {w : World} {A : Around} {E : Value → Shared → Prop} {s : Shared} {K : Frag}


/-- C(..): dict at size, instance at size + 1, then __init__ -/
theorem make_obj {R : Result → Shared → Prop} {C fI : Addr} {rest : List Value} {kw : List (Str × Value)}
    (X : K.In s.heap) (hm : makesIn K C = true) (hi : findIn K (.ref C) "__init__" = some (some (.ref fI))) (hf : isFn K (.ref fI) = true)
    (h : codeAny (model prog w) (A.under (.builtin "type.__call__" ⟨.ref C :: rest, kw⟩)) (.call (.ref fI) ⟨.ref (s.heap.objs.size + 1) :: rest, kw⟩) (InitBack (s.heap.objs.size + 1) R)
      { s with heap := (s.heap.push emptyDict).push (instObj C s.heap.objs.size) }) : codeAny (model prog w) A (.call (.ref C) ⟨rest, kw⟩) R s := by
  obtain ⟨hh, g, d, t, os⟩ := s
  exact make_core (makes_of X hm) (looks_findIn X hi) (fun self => bind_fn X self (beq_iff_eq.mp hf)) (.inl rfl) h

/-- x.name where the instance's dict holds the name and the class does not -/
theorem get_field {x C : Addr} {ox : Obj} {es : List DictEntry} {n : Nat} {name : Str} {expr : Bool} {v : Value} {Q : Value → Shared → Prop}
    (X : K.In s.heap) (I : PySem.W.InstAt s.heap x ox C (some (dictOf es n))) (hg : plainGet K C name = true) (hh : hasDictIn K C = true) (ha : findIn K (.ref C) name = some none)
    (hl : getL name es = some (some v)) (hv : handedIn v = true) (h : Q v { s with toks := s.toks + 1 }) : wpAny (model prog w) A (getAttr (.ref x) name expr) Q E s :=
  get_value X I (plainGet_of hg).1 (findObj_own hh ha rfl hl) hv h



end
end Att

namespace L2
open PySem PySem.Spec PyProof.Rows

theorem vals_ints : ∀ {vs : List Value} {ns : List Int}, IntsAre vs ns → Vals (ns.map V.int) vs
  | _, _, .nil => .nil
  | _, _, .cons n t h => .cons ⟨t, rfl⟩ (vals_ints h)

/-- nothing is tracked but the script, known to the object (or it is an object of the module) -/
def Only (H : Hp) : Prop := ∀ b, H b = none ∨ ∃ o xs, H b = some (.frz o (.lst xs))

/-- THE HEAD: the law's promise, at the heap behind the top. F, the promise of the law's def, may use that base is part of the heap (so K.In base, base.Ns mainGlobals mg stand in Mod) -/
theorem law_call {P : Program} {w : World} {K : PySem.W.Frag} {mg mb : Str → Option Value} {CX : CXT} {k : Nat} {fa a : Addr} {fd : FuncData} {x : Str} {sp : Sp} {s₁ : Shared} {vs : List Value} {ns : List Int}
    (KX : K.In s₁.heap) (hns : s₁.heap.Ns mainGlobals mg) (hb : s₁.heap.Ns builtinsNs mb) (hbb : ∀ x : Str, x ≠ "__name__" → mb x = bootBuiltins x) (hlim : s₁.heap.NoLimit) (hg : s₁.gens = #[])
    (ha : s₁.heap.get? a = some { cls := .type "list", data := .seq vs.toArray }) (hi : IntsAre vs ns) (hl : ns.length ≤ sizeLine) (hr : Room k callerA)
    (F : ∀ base : Heap, K.In base → base.Ns mainGlobals mg → FnOk P w K mg base CX k fa fd [x] sp) (hbind : ∀ (s : Shared) (u : Value), BindsTo s fd ⟨[u], []⟩ [(x, u)])
    (hsp : ∀ H : Hp, Only H → SqL K H a (ns.map V.int) → sp [.ref a] H (fun v _ => v = .bl true) fun _ _ _ => False)
    (hCX : ∀ H e s', CX [] H s₁ (fun _ _ _ => False) e s' → False) :
    codeAny (model P w) callerA (.call (.ref fa) ⟨[.ref a], []⟩) (fun r s' => r = .ok (.ret (.bool true)) ∧ OldK s₁.heap s'.heap ∧ s'.os = s₁.os ∧ AllBare s'.gens) s₁ := by
  have rv := vals_ints hi
  have lenV := hi.length
  -- from an abstract heap in which nothing but the script may be tracked
  have core : ∀ H : Hp, Only H → SqL K H a (ns.map V.int) → HOk P w H s₁.heap → (∀ b, H b ≠ none → b = a) → (H a ≠ none → K.lookup a = none) →
      codeAny (model P w) callerA (.call (.ref fa) ⟨[.ref a], []⟩) (fun r s' => r = .ok (.ret (.bool true)) ∧ OldK s₁.heap s'.heap ∧ s'.os = s₁.os ∧ AllBare s'.gens) s₁ := by
    intro H hO hS hok hA hK
    have base_of : ∀ {b : Addr} {o : Obj}, s₁.heap.get? b = some o → H b = none → (hidT s₁.heap H).get? b = some o := fun e n => hidT_get e n
    have noA : ∀ {b : Addr} {o : Obj} {es : Array DictEntry} {ep : Nat}, s₁.heap.get? b = some o → o.data = .dict es ep → H b = none := fun {b o es ep} e d => by
      cases q : H b with
      | none => rfl
      | some u =>
        have e' : b = a := hA b (by rw [q]; simp)
        subst e'
        rw [ha] at e; cases e
        have d' : Data.seq vs.toArray _ = Data.dict es ep := d
        cases d'
    have nsK : ∀ {b : Addr} {m : Str → Option Value}, s₁.heap.Ns b m → (hidT s₁.heap H).Ns b m := fun {b m} ⟨o, es, ep, e, d, r⟩ => ⟨o, es, ep, base_of e (noA e d), d, r⟩
    have hKb : K.In (hidT s₁.heap H) := fun b o e => base_of (KX b o e) (by
      cases q : H b with
      | none => rfl
      | some u =>
        have e' : b = a := hA b (by rw [q]; simp)
        subst e'
        rw [hK (by rw [q]; simp)] at e; cases e)
    have hM : Mod K mg (hidT s₁.heap H) := ⟨hKb, nsK hns, ⟨mb, nsK hb, hbb⟩, let ⟨mc, h1, h2⟩ := hlim; ⟨mc, nsK h1, h2⟩⟩
    have e0 : Env0 P w K mg (hidT s₁.heap H) callerA [] s₁ H := ⟨rfl, hM, fun b o e => of_hidT e, Nat.le_of_eq (hidT_size _ _), trivial, fun b hb => absurd (show b ∈ ([] : List Addr) from hb) (by simp), hok, .of_eq hg⟩
    refine codeAny_mono ((F _ hKb (nsK hns)).run callerA [] s₁ H ⟨[.ref a], []⟩ [.ref a] [.ref a] _ _ hr e0 (hbind s₁ (.ref a)) (.cons rfl .nil) (hsp H hO hS)) fun r s' h => ?_
    cases r with
    | error e => exact (hCX H e s' h).elim
    | ok fl =>
      cases fl with
      | next => exact False.elim h
      | brk => exact False.elim h
      | cont => exact False.elim h
      | ret u =>
        obtain ⟨v, H', os, bare, un, hok', r', q⟩ := h
        have q' : v = .bl true := q
        subst q'
        obtain rfl : u = Value.bool true := r'
        refine ⟨rfl, OldK.of_keep fun b o e => ?_, os, bare⟩
        cases q : H b with
        | none => exact un.keep b o e q (by intro z; exact absurd (show b ∈ ([] : List Addr) from z) (by simp)) (by simp)
        | some u =>
          rcases hO b with z | ⟨ob, xs, z⟩
          · rw [q] at z; cases z
          · have z2 := un.frzs b ob _ z
            obtain ⟨e1, _⟩ := hok b _ z
            obtain ⟨e2, _⟩ := hok' b _ z2
            rw [e] at e1; cases e1
            exact e2
  cases hk : K.lookup a with
  | some o =>
    -- the script is one of the module's own objects
    have e := KX a o hk
    rw [ha] at e
    cases e
    refine core (fun _ => none) (fun _ => .inl rfl) (.inr ⟨_, vs.toArray, _, hk, rfl, rfl, rfl, by rw [List.size_toArray, lenV]; exact hl, by simpa using rv⟩) (fun b u z => by have z' : (none : Option HO) = some u := z; cases z') (fun b z => absurd rfl z) fun z => absurd rfl z
  | none =>
    refine core (fun b => if b = a then some (.frz { cls := .type "list", data := .seq vs.toArray } (.lst (ns.map V.int))) else none) (fun b => ?_) (.inl (.inr ⟨{ cls := .type "list", data := .seq vs.toArray }, if_pos rfl⟩)) (fun b u z => ?_) (fun b z => ?_) fun _ => hk
    · by_cases hb : b = a
      · exact .inr ⟨_, _, if_pos hb⟩
      · exact .inl (if_neg hb)
    · by_cases hb : b = a
      · have z' := (if_pos hb).symm.trans z
        cases z'
        subst hb
        exact ⟨ha, by rw [List.length_map]; exact hl, vs, _, rv, ha⟩
      · have z' := (if_neg hb).symm.trans z
        cases z'
    · by_cases hb : b = a
      · exact hb
      · exact absurd (if_neg hb) z
end L2

namespace L2
open PySem PySem.Spec PyProof.Rows


/-- the goal that k_head leaves (case hc), from the law's promise. F gives the function object fd (K's own) once, then the promise over every base -/
theorem walk_of {l : PySem.W.OpenLaw} {n k : Nat} {q : Program} {loose : List Str} {XP : (Str → Option Value) → Heap → Prop} {YP : World → Heap → Prop} {d : DefRec} {K : Params → PySem.W.Frag} {CX : World → CXT} {sp : World → Sp} {x : Str}
    (hn : l.most = some n) (hn2 : n ≤ sizeLine) (hdf : d.params.defaults = []) (hr : Room k callerA)
    (hY : ∀ (w : World) (h : Heap), YP w h → (K w.params).In h)
    (F : ∀ (w : World) (mg : Str → Option Value) (fa : Addr) (h : Heap), (K w.params).In h → h.Ns mainGlobals mg → mg d.name = some (.ref fa) →
      ∃ fd : FuncData, (∀ (s : Shared) (u : Value), BindsTo s fd ⟨[u], []⟩ [(x, u)]) ∧
        ∀ base : Heap, (K w.params).In base → base.Ns mainGlobals mg → FnOk l.prog w (K w.params) mg base (CX w) k fa fd [x] (sp w))
    (hsp : ∀ (w : World) (H : Hp) (a : Addr) (ns : List Int), ns.length ≤ n → Only H → SqL (K w.params) H a (ns.map V.int) → sp w [.ref a] H (fun v _ => v = .bl true) fun _ _ _ => False)
    (hCX : ∀ (w : World) (H : Hp) (s : Shared) (e : Value) (s' : Shared), CX w [] H s (fun _ _ _ => False) e s' → False) :
    PySem.W.WalkO q loose XP YP l.row.toRowW d [] (fun f vs => PySem.call f vs) := by
  refine Att.attach_call hn hdf fun w s₀ s₁ mg mb fa o pm cd doc a vs ns G Y ho hd hcd hmg hobj hints hlen hg => ?_
  have KX := hY w _ Y
  obtain ⟨fd, hb, hF⟩ := F w mg fa _ KX G.T.g hmg
  exact law_call KX G.T.g G.T.b G.T.builtins G.T.nolimit hg hobj hints (Nat.le_trans hlen hn2) hr hF hb (fun H hO hS => hsp w H a ns hlen hO hS) fun H e s' => hCX w H s₁ e s'
end L2

/- THE LAST THEOREM (shape; LID, My.* are yours):
   My.Adr: a structure of the addresses that your layer names (classes, functions); My.Txt K t: a structure (Prop) of the equations over K;
   My.txt_mk : {K} {implicit addresses ..} (e1 : nsIn K mainGlobals "law" = some (some (.ref f))) (e2 : K.lookup f = some ⟨oc, od, .func (fnOf "law" "law" params body scope dV kV doc pm an cdv ct), sl⟩) (e3 : codeIn K cdv "law" = true) .. : ∃ t, My.Txt K t

set_option maxRecDepth 100000 in
set_option maxHeartbeats 0 in
theorem PySem.Challenge.cw_LID_holds : PySem.Challenge.rw_LID.Holds := by
  w_on; o_law; k_head; (case hw => w_witness2)
  k_fill
  refine L2.walk_of (l := PySem.Challenge.rw_LID) (n := 63) (k := 40) (x := "script") (CX := fun w => ..) (sp := fun _ => My.sp_law) rfl (by decide) rfl ⟨rfl, by decide, by decide⟩ (fun w h Y => PySem.W.kIn_of Y) ?F ?S ?C
  case F =>
    intro w mg fa h KX G hmg
    have T : ∃ t, My.Txt (L2.KOf KX) t := by
      dsimp only [L2.KOf]                          -- K must stand as «<heap const> w.params» for k_is
      refine' My.txt_mk ?e1 ?e2 ?e3 ..
      (case e1 => PySem.W.k_is)                    -- in the order: a name -> its address -> its object -> its parts
      (case e2 => PySem.W.k_is)
      ..
    obtain ⟨t, T⟩ := T
    have e0 := hmg.symm.trans (PySem.W.mg_of KX G T.law)
    cases e0                                       -- fa is the law's own address
    exact ⟨_, fun s u => .of_eq rfl, fun base kb nb => My.law_fn T kb nb⟩     -- if «.of_eq rfl» comes too early: refine' ⟨_, ?b, fun base kb nb => My.law_fn T kb nb⟩; exact fun s u => .of_eq rfl
  case S => exact fun w H a ns hl hO hS => ..
  case C => exact ..
(the tactic k_is has no namespace: write k_is) -/

namespace L2
open PySem PySem.Spec PyProof.Rows

def defArgs (s : Stmt) : Arguments := match s with
  | .FunctionDef _ a _ _ _ _ _ _ _ _ => a
  | _ => { posonlyargs := [], args := [], vararg := none, kwonlyargs := [], kw_defaults := [], kwarg := none, defaults := [] }
def defBody (s : Stmt) : List Stmt := match s with
  | .FunctionDef _ _ b _ _ _ _ _ _ _ => b
  | _ => []
def defScope (s : Stmt) : Scope := match s with
  | .FunctionDef _ _ _ _ _ _ sc _ _ _ => sc
  | _ => { kind := .function, names := [], isGenerator := false, isCoroutine := false }

abbrev CX0 : CXT := fun _ _ _ _ _ _ => False
abbrev E0 : XK := fun _ _ _ => False
theorem pass0 {X : Cx} : Passes CX0 X E0 := fun _ _ _ _ _ _ _ h => h.elim

structure Fun (K : PySem.W.Frag) (x qual : Str) (st : Stmt) (f : Addr) (fd : FuncData) : Prop where
  ex : ∃ (oc : Value) (od : Option Addr) (kV doc pm : Value) (an : Option Addr) (cdv ct : Value) (osl : Array (Option Value)),
    fd = PySem.W.fnOf x qual (defArgs st) (defBody st) (defScope st) .none kV doc pm an cdv ct ∧ K.lookup f = some ⟨oc, od, .func fd, osl⟩ ∧ PySem.W.codeIn K cdv qual = true
  kp : PySem.W.keepIn K (.ref f) = true
section
variable {P : Program} {w : World} {K : PySem.W.Frag} {mg : Str → Option Value} {base : Heap}
/-- THE RULE for a def: its body as a term of rules, and the reading of that term -/
theorem Fun.ok {x qual : Str} {st : Stmt} {f : Addr} {fd : FuncData} {N ps : List Str} {k : Nat} {sp : Sp} (F : Fun K x qual st f fd) (S : FnScope N ps (defScope st)) (len : ∀ vs H Q E, sp vs H Q E → vs.length = ps.length)
    (hbody : ∀ (cdv : Value) (A : Around) (outer : List Env) (s : Shared) (H : Hp) (vs : List V) (Q : VK) (E : XK), Room k (A.deeper (envOfC qual (defScope st) s.heap.objs.size f cdv)) → sp vs H Q E →
      ∃ t, PSs (cxOf CX0 P w K mg base N qual (defScope st) f cdv A outer s H E).nox (defBody st) t ∧ t { nx := fun _ H' => Q .non H', rt := Q } (start N vs) H) : FnOk P w K mg base CX0 (k + 1) f fd ps sp := by
  obtain ⟨oc, od, kV, doc, pm, an, cdv, ct, osl, rfl, lk, hcd⟩ := F.ex
  refine fn_of lk hcd S len fun A outer s H vs Q E hr hsp => ?_
  obtain ⟨t, h, q⟩ := hbody cdv A outer s H vs Q E hr hsp
  exact ⟨t, h.nox, q⟩
/-- how its arguments bind (no defaults): h is «fun _ _ _ _ _ _ us hl => match us, hl with | [_, _], _ => rfl», one _ a parameter -/
theorem Fun.binds {x qual : Str} {st : Stmt} {f : Addr} {fd : FuncData} {ps : List Str} (F : Fun K x qual st f fd)
    (h : ∀ (kV doc pm : Value) (an : Option Addr) (cdv ct : Value) (us : List Value), us.length = ps.length → bindArgs (PySem.W.fnOf x qual (defArgs st) (defBody st) (defScope st) .none kV doc pm an cdv ct) ⟨us, []⟩ = pure (ps.zip us)) : Binds K fd ps [] := by
  obtain ⟨oc, od, kV, doc, pm, an, cdv, ct, osl, rfl, lk, hcd⟩ := F.ex
  exact .all (h kV doc pm an cdv ct)
theorem fun_mk {x qual : Str} {st : Stmt} {f : Addr} {oc : Value} {od an : Option Addr} {osl : Array (Option Value)} {kV doc pm cdv ct : Value} (l : K.lookup f = some ⟨oc, od, .func (PySem.W.fnOf x qual (defArgs st) (defBody st) (defScope st) .none kV doc pm an cdv ct), osl⟩)
    (c : PySem.W.codeIn K cdv qual = true) (k : PySem.W.keepIn K (.ref f) = true) : Fun K x qual st f (PySem.W.fnOf x qual (defArgs st) (defBody st) (defScope st) .none kV doc pm an cdv ct) := ⟨⟨oc, od, kV, doc, pm, an, cdv, ct, osl, rfl, l, c⟩, k⟩
end

section
variable {X : Cx}
end

theorem iteF {A B : Prop} (h : B) : if false = true then A else B := by
  rw [if_neg Bool.false_ne_true]
  exact h
theorem iteT {A B : Prop} (h : A) : if true = true then A else B := by
  rw [if_pos rfl]
  exact h


end L2
namespace L2
open PySem PySem.Spec PyProof.Rows

theorem compLoop_own {prog : Program} {w : World} {A : Around} {R : Result → Shared → Prop} {s : Shared} {elt target iter : Expr} {ifs : List Expr} {scope : Scope} {pos : Pos} {it acc : Value} {env : Env} {N : Value → Shared → Prop}
    (hN : N = notedBy (model prog w) A env fun e s' => R (.error e) s') (J : Nat → Shared → Prop)
    (turn : ∀ n s, J n s → wpAny (model prog w) A (pyNext it) (fun r s₁ => match r with
      | none => R (.ok .next) s₁
      | some v => wpAny (model prog w) A (letOwnedTupleGo target it v) (fun _ s₀ => wpAny (model prog w) A (assign target env v) (fun _ s₂ =>
          wpAny (model prog w) A (forIn ifs true fun c r => if r = true then do let ok ← isTrue c env (eval c env); pure (ForInStep.yield ok) else pure (ForInStep.yield r)) (fun ok s₃ =>
            if ok = true then wpAny (model prog w) A (eval elt env) (fun x s₄ =>
              wpAny (model prog w) A (call (.builtin "list.append") [acc, x]) (fun _ s₅ => ∃ m, m < n ∧ J m s₅) N s₄) N s₃
            else ∃ m, m < n ∧ J m s₃) N s₂) N s₀) N s₁) N s)
    (n : Nat) (h : J n s) :
    codeAny (model prog w) A (.compLoop (.ListComp elt [⟨target, iter, ifs, 0⟩] scope pos) 0 it acc env) R s := by
  refine codeAny_loop rfl J (fun n s hI => ?_) n h
  show wpAny _ A ((compTurn (.ListComp elt [⟨target, iter, ifs, 0⟩] scope pos) 0 it acc env).onRaise (fun x => do noteFrame x env; theTreesLotGoes x)) _ _ s
  refine wpAny_noted ?_
  rw [compTurn_list]
  subst hN
  refine wpAny_bind (wpAny_standAt (wpAny_bind (wpAny_mono (turn n s hI) (fun r s₁ h₁ => ?_) fun _ _ h' => h')))
  cases r with
  | none => exact wpAny_pure h₁
  | some v =>
    refine wpAny_bind (wpAny_mono h₁ (fun _ s₀ h₀ => ?_) fun _ _ h' => h')
    refine wpAny_bind (wpAny_mono h₀ (fun _ s₂ h₂ => wpAny_bind (wpAny_mono h₂ (fun ok s₃ h₃ => ?_) fun _ _ h' => h')) fun _ _ h' => h')
    cases ok with
    | false => exact wpAny_pure ⟨rfl, h₃⟩
    | true =>
      exact wpAny_bind (wpAny_bind (wpAny_mono h₃ (fun x s₄ h₄ => wpAny_bind (wpAny_mono h₄ (fun _ s₅ h₅ => wpAny_pure (wpAny_pure ⟨rfl, h₅⟩)) fun _ _ h' => h')) fun _ _ h' => h'))

/-- the cells handed to the block -/
def clOf (cells : List (Str × Addr)) : List (Str × NameKind) → List (Str × Addr) → List (Str × Addr)
  | [], acc => acc
  | (n, k) :: r, acc => clOf cells r (if k = .free then (n, (cells.lookup n).getD 0) :: acc else acc)

theorem closure_eq {env : Env} : ∀ (names : List (Str × NameKind)) (acc : List (Str × Addr)), (∀ y ∈ names, y.2 = .free → ∃ c, env.cells.lookup y.1 = some c) →
    (forIn names acc (fun (y : Str × NameKind) (cs : List (Str × Addr)) => if (y.2 == .free) = true then (do let c ← cellOf env y.1; pure (ForInStep.yield ((y.1, c) :: cs))) else pure (ForInStep.yield cs)) : Sem (List (Str × Addr))) = pure (clOf env.cells names acc)
  | [], acc, _ => rfl
  | (n, k) :: r, acc, h => by
    rw [List.forIn_cons]
    have hr : ∀ y ∈ r, y.2 = .free → ∃ c, env.cells.lookup y.1 = some c := fun y hy => h y (List.mem_cons_of_mem _ hy)
    by_cases hk : k = .free
    · subst hk
      obtain ⟨c, hc⟩ := h (n, .free) List.mem_cons_self rfl
      have e : cellOf env n = pure c := by unfold cellOf; rw [hc]
      simp only [beq_self_eq_true, if_true, e, pure_bind]
      rw [closure_eq r _ hr]
      show _ = pure (clOf env.cells r _)
      rw [if_pos rfl, hc]
      rfl
    · have hb : (k == NameKind.free) = false := by simpa using hk
      simp only [hb, Bool.false_eq_true, if_false, pure_bind]
      rw [closure_eq r _ hr]
      show _ = pure (clOf env.cells r _)
      rw [if_neg hk]
theorem closureFor_cl {scope : Scope} {env : Env} (h : ∀ y ∈ scope.names, y.2 = .free → ∃ c, env.cells.lookup y.1 = some c) : closureFor scope env = pure (clOf env.cells scope.names []) := by
  have q := closure_eq scope.names [] h
  unfold closureFor
  simp only [bind_pure]
  exact q

theorem clOf_acc {cells : List (Str × Addr)} : ∀ (names : List (Str × NameKind)) (acc : List (Str × Addr)) (y : Str) (c : Addr), (∀ z ∈ names, z.2 = .free → ∃ c, cells.lookup z.1 = some c) → (∀ c, acc.lookup y = some c → cells.lookup y = some c) → (clOf cells names acc).lookup y = some c → cells.lookup y = some c
  | [], acc, y, c, _, ha, h => ha c h
  | (n, k) :: r, acc, y, c, hn, ha, h => by
    refine clOf_acc r _ y c (fun z hz => hn z (List.mem_cons_of_mem _ hz)) (fun c' hc' => ?_) h
    by_cases hk : k = .free
    · rw [if_pos hk] at hc'
      obtain ⟨c0, e0⟩ := hn (n, k) List.mem_cons_self hk
      rw [List.lookup_cons] at hc'
      cases hx : y == n with
      | true =>
        have hy : y = n := by simpa using hx
        subst hy
        rw [hx] at hc'
        have e0' : cells.lookup y = some c0 := e0
        simp only [e0', Option.getD_some] at hc'
        rw [e0', hc']
      | false => rw [hx] at hc'; exact ha c' hc'
    · rw [if_neg hk] at hc'
      exact ha c' hc'
theorem clOf_keep {cells : List (Str × Addr)} : ∀ (names : List (Str × NameKind)) (acc : List (Str × Addr)) (y : Str), (∃ c, acc.lookup y = some c) → ∃ c, (clOf cells names acc).lookup y = some c
  | [], acc, y, h => h
  | (n, k) :: r, acc, y, h => by
    refine clOf_keep r _ y ?_
    by_cases hk : k = .free
    · rw [if_pos hk, List.lookup_cons]
      cases hx : y == n with
      | true => exact ⟨_, rfl⟩
      | false => exact h
    · rw [if_neg hk]; exact h
theorem clOf_has {cells : List (Str × Addr)} : ∀ (names : List (Str × NameKind)) (acc : List (Str × Addr)) (y : Str), (y, NameKind.free) ∈ names → ∃ c, (clOf cells names acc).lookup y = some c
  | [], acc, y, h => by simp at h
  | (n, k) :: r, acc, y, h => by
    rcases List.mem_cons.mp h with e | e
    · have e1 : n = y := (Prod.mk.inj e).1.symm
      have e2 : k = .free := (Prod.mk.inj e).2.symm
      subst e1; subst e2
      refine clOf_keep r _ n ?_
      rw [if_pos rfl, List.lookup_cons]
      simp
    · exact clOf_has r _ y e

/-- the scopes fit: sc, N: the outer ones; scope, M: the block's; ix: which slot of the outer one each name is (none: the block's own); j: the target's slot -/
structure CompScope (sc : Scope) (N : List Str) (scope : Scope) (M : List Str) (ix : List (Option Nat)) (j : Nat) (x : Str) : Prop where
  kind : scope.kind = .function
  names : ∀ y ∈ scope.names, y.2 = .local → scope.names.lookup y.1 = some .local
  nocell : ∀ y ∈ scope.names, y.2 ≠ .cell
  nd : M.Nodup
  tgt : M[j]? = some x
  loc : scope.names.lookup x = some .local
  own : ix[j]? = some none
  len : ix.length = M.length
  free : ∀ y ∈ scope.names, y.2 = .free → sc.names.lookup y.1 = some .cell ∨ sc.names.lookup y.1 = some .free
  capt : ∀ (k : Nat) (y : Str) (i : Nat), M[k]? = some y → ix[k]? = some (some i) → N[i]? = some y ∧ (sc.names.lookup y = some .cell ∨ sc.names.lookup y = some .free) ∧ scope.names.lookup y = some .free

def cap (ix : List (Option Nat)) (σ : St) : St := ix.map fun o => match o with
  | some i => (σ[i]?).getD none
  | none => none

/-- the context of a comprehension's block -/
def cxComp (X : Cx) (M : List Str) (scope : Scope) (C : Addr) (s : Shared) (H : Hp) (fp : List Addr) : Cx where
  prog := X.prog
  w := X.w
  K := X.K
  mg := X.mg
  base := X.base
  A := X.A
  N := M
  s₀ := s
  H₀ := H
  env := compEnvC scope (clOf X.env.cells scope.names []) C X.env
  outer := X.stack
  stack := X.stack
  ex := fp
  fn := fun _ => false
  calm := X.calm
  pn := []
  xe := fun _ _ => False

/-- the tests of a comprehension -/
def PF (X : Cx) (ifs : List Expr) (t : TT) : Prop :=
  ∀ (pins : List (Addr × Obj)) (s : Shared) (σ : St) (H : Hp) (Q : Bool → Hp → Prop), Inv X pins σ H s → t σ H Q →
    wpAny (model X.prog X.w) X.A (forIn ifs true fun c r => if r = true then do let ok ← isTrue c X.env (eval c X.env); pure (ForInStep.yield ok) else pure (ForInStep.yield r)) (TP X pins σ Q) X.xe s
def tYes : TT := fun _ H Q => Q true H
theorem pf_nil {X : Cx} : PF X [] tYes := fun _ _ _ H _ I h => wpAny_tests_nil ⟨H, I, h⟩
theorem pf_one {X : Cx} {c : Expr} {t : TT} (h : PT X c t) : PF X [c] t := fun pins s σ H Q I q => wpAny_tests_one (h pins s σ H Q I q)

/-- a block's names as they are seen within it -/
def rlb (env : Env) (p : Str × NameKind) : Str × NameKind := if (p.2 == NameKind.free && env.scope.kind == .function && env.kindOf p.1 == some .cell) then (p.1, NameKind.cell) else (p.1, p.2)
theorem relabel_eq (scope : Scope) (env : Env) : (relabel scope env).names = scope.names.map (rlb env) := rfl
theorem rlb_fst (env : Env) (p : Str × NameKind) : (rlb env p).1 = p.1 := by unfold rlb; split <;> rfl
theorem rlb_lookup {env : Env} : ∀ (names : List (Str × NameKind)) (x : Str), (names.map (rlb env)).lookup x = ((names.lookup x).map fun k => (rlb env (x, k)).2)
  | [], x => rfl
  | (n, k) :: r, x => by
    have ih := rlb_lookup (env := env) r x
    have e1 := rlb_fst env (n, k)
    rw [List.map_cons]
    rw [show rlb env (n, k) = ((rlb env (n, k)).1, (rlb env (n, k)).2) from rfl, e1, List.lookup_cons, List.lookup_cons]
    cases hx : x == n with
    | true =>
      have : x = n := by simpa using hx
      subst this
      rfl
    | false => exact ih
theorem rlb_free {env : Env} {x : Str} {k : NameKind} (h : (rlb env (x, k)).2 = .cell ∨ (rlb env (x, k)).2 = .free) (hk : k ≠ .cell) : k = .free := by
  unfold rlb at h
  split at h
  · rename_i hc
    have := (Bool.and_eq_true_iff.mp (Bool.and_eq_true_iff.mp hc).1).1
    simpa using this
  · rcases h with h | h
    · exact absurd h hk
    · exact h
theorem rlb_of_free {env : Env} {x : Str} : (rlb env (x, .free)).2 = .cell ∨ (rlb env (x, .free)).2 = .free := by
  unfold rlb
  split
  · exact .inl rfl
  · exact .inr rfl
theorem lookup_relabel {env : Env} {names : List (Str × NameKind)} {x : Str} (h : (names.map (rlb env)).lookup x = some .cell ∨ (names.map (rlb env)).lookup x = some .free) (hc : ∀ y ∈ names, y.2 ≠ .cell) : (x, NameKind.free) ∈ names := by
  rw [rlb_lookup] at h
  cases q : names.lookup x with
  | none => rw [q] at h; simp at h
  | some k =>
    rw [q] at h
    have hm := PySem.mem_of_lookup q
    have hk : k ≠ .cell := hc _ hm
    have e : k = .free := rlb_free (env := env) (x := x) (by rcases h with h | h; exact .inl (Option.some.inj h); exact .inr (Option.some.inj h)) hk
    rw [e] at hm
    exact hm

theorem cap_own {ix : List (Option Nat)} {j : Nat} (h : ix[j]? = some none) (σ : St) : (cap ix σ)[j]? = some none := by
  unfold cap
  rw [List.getElem?_map, h]
  rfl

/-- the turns of a comprehension -/
def CompGo (J : It) (ix : List (Option Nat)) (j : Nat) (σ : St) (tf : TT) (te : TE) (Q : VK) (H1 : Hp) (acc : Addr) : Prop := ∃ W : Nat → Nat → Hp → Prop, (∃ m, W 0 m (upd H1 acc (.lst []))) ∧ ∀ i m H', W i m H' →
  (J.stop i H' ∧ Q (.ref acc) H') ∨ (J.go i H' ∧ ∀ x H2, J.yld i H' x H2 → tf ((cap ix σ).set j (some x)) H2 fun b H3 =>
    if b = true then te ((cap ix σ).set j (some x)) H3 fun y H4 => ∃ ys, H4 acc = some (.lst ys) ∧ ys.length < sizeLine ∧ ∃ m', m' < m ∧ W (i + 1) m' (upd H4 acc (.lst (ys ++ [y])))
    else ∃ m', m' < m ∧ W (i + 1) m' H3)
/-- the reading of a comprehension -/
def tComp (wi : TI) (ix : List (Option Nat)) (j : Nat) (tf : TT) (te : TE) : TE := fun σ H Q => wi σ H fun J H1 => ∀ acc, H1 acc = none → CompGo J ix j σ tf te Q H1 acc

section
variable {X : Cx} {scope : Scope} {M : List Str} {ix : List (Option Nat)} {j : Nat} {x : Str}

theorem comp_start {pins : List (Addr × Obj)} {σ : St} {H : Hp} {s : Shared} {fp : List Addr} {h1 : Heap} (S : CompScope X.env.scope X.N scope M ix j x) (I : Inv X pins σ H s)
    (hf : ∀ b ∈ fp, FpOk X pins H b) (hft : ∀ b ∈ fp, b < s.heap.objs.size) (old : ∀ b o, s.heap.get? b = some o → h1.get? b = some o)
    (hD : h1.get? s.heap.objs.size = some { cls := .type "list", data := .seq ([] : List Value).toArray 0 }) (hns : h1.Ns (s.heap.objs.size + 1) fun _ => none) :
    Inv (cxComp X M scope (s.heap.objs.size + 1) s H fp) [] (cap ix σ) (upd H s.heap.objs.size (.lst [])) { s with heap := h1 } := by
  have frees : ∀ y ∈ scope.names, y.2 = .free → ∃ c, X.env.cells.lookup y.1 = some c := fun y hy e => I.ok.has y.1 (S.free y hy e)
  have clin : ∀ y c, (clOf X.env.cells scope.names []).lookup y = some c → X.env.cells.lookup y = some c := fun y c h => clOf_acc scope.names [] y c frees (fun c hc => by simp at hc) h
  have hfr : H s.heap.objs.size = none := I.hok.fresh (Nat.le_refl _)
  have hclt : ∀ y c, (clOf X.env.cells scope.names []).lookup y = some c → c < s.heap.objs.size := fun y c h => by
    obtain ⟨v, q⟩ := I.cell y c (clin y c h)
    exact q.lt
  refine ⟨⟨I.ok.mod, S.kind, I.ok.glob, I.ok.blt, Nat.le_succ _, fun y z c e1 e2 => I.ok.inj y z c (clin y c e1) (clin z c e2), fun y hy => ?_, fun y c e _ => absurd (show false = true from e) (by simp), I.ok.hd, I.ok.frames, .inl rfl,
      fun b hb => ⟨Nat.ne_of_lt (Nat.lt_succ_of_lt (hft b hb)), fun y c e => (hf b hb).2.2.2.2.1 y c (clin y c e)⟩, I.bs, Nat.le_trans I.ok.bsz I.sz, fun b o e hb => ?_, fun b hb z => ?_, I.stack, I.stkFree⟩,
    rfl, I.bare, Un.laid old (Nat.le_refl _) hfr, ⟨fun _ => none, hns, fun k y v e1 e2 e3 => ?_⟩, fun y c e => ?_, ?_, fun y c e => ?_, fun p hp => absurd (show p ∈ ([] : List (Addr × Obj)) from hp) (by simp), ?_, ?_⟩
  · exact clOf_has scope.names [] y (lookup_relabel (env := X.env) hy S.nocell)
  · rcases (hf b hb).2.2.2.1 with z | z
    · exact I.ok.noex b o e z
    · exact absurd (Nat.lt_of_lt_of_le (Heap.lt_size e) (Nat.le_trans I.ok.bsz z)) (Nat.lt_irrefl _)
  · exact (List.mem_cons.mp (I.stkSub b z)).elim (hf b hb).2.1 (hf b hb).2.2.1
  · -- a captured name
    have hix : ∃ i, ix[k]? = some (some i) ∧ σ[i]? = some (some v) := by
      unfold cap at e2
      rw [List.getElem?_map] at e2
      cases q : ix[k]? with
      | none => rw [q] at e2; cases e2
      | some o =>
        cases o with
        | none => rw [q] at e2; cases e2
        | some i =>
          rw [q] at e2
          refine ⟨i, rfl, ?_⟩
          have e2' : some ((σ[i]?).getD none) = some (some v) := e2
          have e3' := Option.some.inj e2'
          cases q2 : σ[i]? with
          | none => rw [q2] at e3'; cases e3'
          | some z => rw [q2] at e3'; exact congrArg some e3'
    obtain ⟨i, hi, hv⟩ := hix
    obtain ⟨c1, c2, c3⟩ := S.capt k y i e1 hi
    obtain ⟨m, hn, hl⟩ := I.loc
    obtain ⟨u, r, l⟩ := hl i y v c1 hv (.inr c2)
    refine ⟨u, r, ?_⟩
    rcases l with ⟨l, _⟩ | ⟨_, c, hc, hcell⟩
    · exfalso
      have l' : X.env.scope.names.lookup y = some .local := l
      rcases c2 with c2 | c2 <;> (rw [l'] at c2; cases c2)
    · have hmem : (y, NameKind.free) ∈ scope.names := PySem.mem_of_lookup c3
      obtain ⟨c', hc'⟩ := clOf_has (cells := X.env.cells) scope.names [] y hmem
      have ecc : c' = c := Option.some.inj ((clin y c' hc').symm.trans hc)
      subst ecc
      have hk : (relabel scope X.env).names.lookup y = some .cell ∨ (relabel scope X.env).names.lookup y = some .free := by
        rw [relabel_eq, rlb_lookup, c3]
        rcases rlb_of_free (env := X.env) (x := y) with z | z
        · exact .inl (congrArg some z)
        · exact .inr (congrArg some z)
      obtain ⟨oc, ho, hd⟩ := hcell
      exact .inr ⟨hk, c', hc', oc, old c' oc ho, hd⟩
  · obtain ⟨v, oc, ho, hd⟩ := I.cell y c (clin y c e)
    exact ⟨v, oc, old c oc ho, hd⟩
  · show upd H s.heap.objs.size (.lst []) (s.heap.objs.size + 1) = none
    rw [upd_ne (Nat.succ_ne_self _)]
    exact I.hok.fresh (Nat.le_succ _)
  · show upd H s.heap.objs.size (.lst []) c = none
    rw [upd_ne (Nat.ne_of_lt (hclt y c e))]
    exact I.freeC y c (clin y c e)
  · exact I.hok.laid old (Nat.le_refl _) ⟨Nat.zero_le _, [], 0, .nil, hD⟩
  · show (cap ix σ).length = M.length
    unfold cap
    rw [List.length_map, S.len]

/-- behind the block: the outer state -/
theorem comp_end {pins : List (Addr × Obj)} {σ σ' : St} {H H' : Hp} {s s' : Shared} {fp : List Addr} {C : Addr} (I : Inv X pins σ H s) (hC : s.heap.objs.size ≤ C) (hf : ∀ b ∈ fp, FpOk X pins H b)
    (I' : Inv (cxComp X M scope C s H fp) [] σ' H' s') {h' : Heap} (hb : Heap.SameBut C s'.heap h') : Inv X pins σ H' { s' with heap := h' } := by
  have ne : ∀ b o, s.heap.get? b = some o → b ≠ C := fun b o e => Nat.ne_of_lt (Nat.lt_of_lt_of_le (Heap.lt_size e) hC)
  have k : ∀ b o, b ≠ C → s'.heap.get? b = some o → h'.get? b = some o := fun b o hn e => hb.extBut b o hn e
  have u : Un (frs X.stack) fp H H' s.heap s'.heap := I'.base
  have hHC : H' C = none := I'.free
  have u2 : Un (frs X.stack) fp H H' s.heap h' := by
    refine ⟨fun b o e n h1 h2 => k b o (ne b o e) (u.keep b o e n h1 h2), fun b o e n h1 h2 => ?_, fun b o e n h1 => u.free b o e n h1, fun b o e h1 => ?_, u.tups, u.frzs, u.tbls⟩
    · obtain ⟨sl, q⟩ := u.slot b o e n h1 h2
      exact ⟨sl, k b _ (ne b o e) q⟩
    · obtain ⟨o', q⟩ := u.there b o e h1
      exact ⟨o', k b o' (ne b o e) q⟩
  have hok : HOk X.prog X.w H' h' := fun b o e => (I'.hok b o e).stay (fun c v hc q => k c v (fun z => by
    subst z
    rcases hc with z | z
    · rw [← z, hHC] at e; cases e
    · rw [hHC] at z; cases z) q) (fun _ q => q) fun _ _ q => q
  exact I.call' (s' := { s' with heap := h' }) I'.os u2 hok I'.bare fun b hb => ⟨(hf b hb).2.2.2.1, (hf b hb).2.1, (hf b hb).2.2.2.2.1, (hf b hb).2.2.2.2.2⟩

theorem set_weak {c : St} {j : Nat} {v : V} (h : c[j]? = some none) : ∀ (i : Nat) (z : V), c[i]? = some (some z) → (c.set j (some v))[i]? = some (some z) := fun i z e => by
  by_cases hij : j = i
  · subst hij; rw [h] at e; cases e
  · rw [List.getElem?_set_ne hij]; exact e

/-- the block's run, from its first turn on -/
theorem comp_block {elt iter : Expr} {px : Pos} {ifs : List Expr} {pos : Pos} {tf : TT} {te : TE} {pins : List (Addr × Obj)} {σ : St} {H : Hp} {s : Shared} {fp : List Addr} {it : Addr} {tn : Nat → Heap → Prop} {J : It} {h1 : Heap} {tk : Nat} {Q : VK} {R : Result → Shared → Prop}
    (S : CompScope X.env.scope X.N scope M ix j x) (hc : X.calm = true) (I : Inv X pins σ H s)
    (hF : PF (cxComp X M scope (s.heap.objs.size + 1) s H fp) ifs tf) (hE : PE (cxComp X M scope (s.heap.objs.size + 1) s H fp) elt te)
    (T : Turn X.prog X.w X.K (.Name x px) J fp it tn) (st : tn 0 s.heap) (hf : ∀ b ∈ fp, FpOk X pins H b)
    (I0 : Inv (cxComp X M scope (s.heap.objs.size + 1) s H fp) [] (cap ix σ) (upd H s.heap.objs.size (.lst [])) { s with heap := h1, toks := tk }) (old : ∀ b o, s.heap.get? b = some o → h1.get? b = some o)
    (q : CompGo J ix j σ tf te Q H s.heap.objs.size)
    (hR : ∀ H' s', Inv (cxComp X M scope (s.heap.objs.size + 1) s H fp) [] (cap ix σ) H' s' → Q (.ref s.heap.objs.size) H' → R (.ok .next) s') :
    codeAny (model X.prog X.w) X.A (.compLoop (.ListComp elt [⟨.Name x px, iter, ifs, 0⟩] scope pos) 0 (.ref it) (.ref s.heap.objs.size) (compEnvC scope (clOf X.env.cells scope.names []) (s.heap.objs.size + 1) X.env)) R { s with heap := h1, toks := tk } := by
  obtain ⟨W, ⟨m0, w0⟩, turn⟩ := q
  have hD : s.heap.objs.size ∉ fp := fun z => by
    obtain ⟨o, e, _⟩ := T.obj 0 s.heap st _ z
    exact absurd (Heap.lt_size e) (Nat.lt_irrefl _)
  have hlt : ∀ b ∈ fp, b < s.heap.objs.size := fun b hb => by
    obtain ⟨o, e, _⟩ := T.obj 0 s.heap st b hb
    exact Heap.lt_size e
  have stat : ∀ {H' : Hp}, (∀ b ∈ fp, H' b = none) → ∀ b ∈ fp, FpOk (cxComp X M scope (s.heap.objs.size + 1) s H fp) [] H' b := fun hn b hb =>
    ⟨hn b hb, Nat.ne_of_lt (Nat.lt_succ_of_lt (hlt b hb)), I0.ok.exfs b hb, .inl hb, (I0.ok.exf b hb).2, fun p hp => absurd (show p ∈ ([] : List (Addr × Obj)) from hp) (by simp)⟩
  have own := cap_own S.own σ
  refine compLoop_own rfl (fun n s' => ∃ i H', Inv (cxComp X M scope (s.heap.objs.size + 1) s H fp) [] (cap ix σ) H' s' ∧ tn i s'.heap ∧ (∀ b ∈ fp, H' b = none) ∧ W i n H') ?_ m0
    ⟨0, _, I0, T.keep 0 _ _ st fun b _ o e => old b o e, fun b hb => by rw [upd_ne (Nat.ne_of_lt (hlt b hb))]; exact (hf b hb).1, w0⟩
  rintro n s3 ⟨i, H3, I3, st3, fr3, w3⟩
  rcases turn i n H3 w3 with ⟨stop, qn⟩ | ⟨go, step⟩
  · refine wpAny_mono (T.done (cxComp X M scope (s.heap.objs.size + 1) s H fp) rfl rfl rfl hc i [] s3 (cap ix σ) H3 (fun _ _ => False) I3 (stat fr3) st3 stop) (fun r s4 ⟨hr, I4⟩ => ?_) (fun _ _ z => z.elim)
    subst hr
    exact hR H3 s4 I4 qn
  · refine wpAny_mono (T.item (cxComp X M scope (s.heap.objs.size + 1) s H fp) rfl rfl rfl hc i [] s3 (cap ix σ) H3 (fun _ _ => False) I3 (stat fr3) st3 go) (fun r s4 ⟨u, hr, h4⟩ => ?_) (fun _ _ z => z.elim)
    subst hr
    refine wpAny_mono h4 (fun _ s5 ⟨y, H5, I5, r5, y5, st5, fr5⟩ => ?_) (fun _ _ z => z.elim)
    have I5' := I5.pinned (stat fr5) (T.obj _ _ st5)
    have pg : PG (cxComp X M scope (s.heap.objs.size + 1) s H fp) (.Name x px) (gName j) :=
      pg_name S.nd S.tgt (.inl (by show (relabel scope X.env).names.lookup x = some .local; exact lookup_relabel_local S.loc)) (.inr (by show (relabel scope X.env).names.lookup x = some .local; exact lookup_relabel_local S.loc))
    refine wpAny_mono (pg _ s5 (cap ix σ) H5 y u (fun σ2 H2 => σ2 = (cap ix σ).set j (some y) ∧ H2 = H5) I5' r5 ⟨rfl, rfl⟩) (fun _ s6 ⟨σ6, H6, I6, e6, eh6⟩ => ?_) (fun _ _ z => z.elim)
    subst e6; subst eh6
    have again : ∀ {H7 : Hp} {s7 : Shared}, Inv (cxComp X M scope (s.heap.objs.size + 1) s H fp) ([] ++ pinsAt fp s5.heap) ((cap ix σ).set j (some y)) H7 s7 → (∃ m', m' < n ∧ W (i + 1) m' H7) →
        ∃ m, m < n ∧ ∃ i H', Inv (cxComp X M scope (s.heap.objs.size + 1) s H fp) [] (cap ix σ) H' s7 ∧ tn i s7.heap ∧ (∀ b ∈ fp, H' b = none) ∧ W i m H' := fun {H7 s7} I7 ⟨m', hm, w7⟩ => by
      have Iw : Inv (cxComp X M scope (s.heap.objs.size + 1) s H fp) [] (cap ix σ) H7 s7 := (Inv.unpinned (pins := []) I7).weak (by simp) (set_weak own)
      refine ⟨m', hm, i + 1, H7, Iw, T.keep _ _ _ st5 fun b hb o e => (I7.pin (b, o) (List.mem_append_right _ (List.mem_append_right _ (mem_pinsAt hb e)))).1, fun b hb => ?_, w7⟩
      obtain ⟨o, e, d⟩ := T.obj _ _ st5 b hb
      exact (I7.pin (b, o) (List.mem_append_right _ (List.mem_append_right _ (mem_pinsAt hb e)))).2.1
    refine wpAny_mono (hF _ s6 _ _ _ I6 (step y _ y5)) (fun b s7 ⟨H7, I7, q7⟩ => ?_) (fun _ _ z => z.elim)
    cases b with
    | false =>
      simp only [Bool.false_eq_true, if_false] at q7 ⊢
      exact again I7 q7
    | true =>
      simp only [if_true] at q7 ⊢
      refine wpAny_mono (hE _ s7 _ H7 _ I7 q7) (fun v s8 ⟨z, H8, I8, r8, ys, hy, hz, q8⟩ => ?_) (fun _ _ z => z.elim)
      refine wpAny_mono (mt_append (X := cxComp X M scope (s.heap.objs.size + 1) s H fp) _ s8 _ H8 (.ref s.heap.objs.size) [z] (.ref s.heap.objs.size) [v] (fun _ H' => H' = upd H8 s.heap.objs.size (.lst (ys ++ [z]))) I8 rfl (.cons r8 .nil) ⟨s.heap.objs.size, ys, z, rfl, rfl, hy, hz, rfl⟩) (fun w s9 ⟨_, H9, I9, _, e9⟩ => ?_) (fun _ _ z => z.elim)
      subst e9
      exact again I9 q8

theorem pe_comp {elt iter : Expr} {px : Pos} {ifs : List Expr} {pos : Pos} {wi : TI} {tf : TT} {te : TE} (S : CompScope X.env.scope X.N scope M ix j x) (hc : X.calm = true) (hi : PI X (.Name x px) iter wi)
    (hb : ∀ C s H fp, PF (cxComp X M scope C s H fp) ifs tf ∧ PE (cxComp X M scope C s H fp) elt te) (hs : ∀ x, foldedSetIterable iter X.env x = pure x := by intro _; rfl) :
    PE X (.ListComp elt [⟨.Name x px, iter, ifs, 0⟩] scope pos) (tComp wi ix j tf te) := by
  intro pins s σ H Q I h
  rw [eval_ListComp]
  refine wpAny_comprehension_free (use := none) rfl hs (closureFor_cl fun y hy e => I.ok.has y.1 (S.free y hy e)) S.kind S.names (wpAny_mono (hi pins s σ H _ I h) (fun xv s₁ h₁ => wpAny_mono h₁ (fun it s₂ h₂ => ?_) fun _ _ e => e) fun _ _ e => e)
  obtain ⟨it, fp, tn, J, H2, rfl, I2, T, st2, f2, q⟩ := h₂
  refine wpAny_newObj_type (wpAny_newFunctionEnv S.nocell (by intro y hy; simp at hy) (fun h₁ hns₁ hsb₁ => ?_) S.kind)
  dsimp only at hns₁ hsb₁ ⊢
  have hC : (s₂.heap.push { cls := .type "list", dict := none, data := .seq ([] : List Value).toArray }).objs.size = s₂.heap.objs.size + 1 := Heap.size_push ..
  rw [hC] at hns₁ hsb₁ ⊢
  have below : ∀ b, b < s₂.heap.objs.size → b ≠ s₂.heap.objs.size + 1 := fun b hb => Nat.ne_of_lt (Nat.lt_succ_of_lt hb)
  have old : ∀ b o, s₂.heap.get? b = some o → h₁.get? b = some o := fun b o e => hsb₁.extBut b o (below b (Heap.lt_size e)) (Heap.get?_push_of_some _ (Heap.get?_push_of_some _ e))
  have hD : h₁.get? s₂.heap.objs.size = some { cls := .type "list", data := .seq ([] : List Value).toArray 0 } := hsb₁.extBut _ _ (Nat.ne_of_lt (Nat.lt_succ_self _)) (Heap.get?_push_of_some _ (Heap.get?_push_size _ rfl))
  have ns : h₁.Ns (s₂.heap.objs.size + 1) fun _ => none := hns₁
  have hft : ∀ b ∈ fp, b < s₂.heap.objs.size := fun b hb => by
    obtain ⟨o, e, _⟩ := T.obj 0 s₂.heap st2 b hb
    exact Heap.lt_size e
  have I0 := (comp_start (h1 := h₁) S I2 f2 hft old hD ns).tok s₂.toks
  have hfr : H2 s₂.heap.objs.size = none := I2.hok.fresh (Nat.le_refl _)
  have loop : codeAny (model X.prog X.w) X.A (.compLoop (.ListComp elt [⟨.Name x px, iter, ifs, 0⟩] scope pos) 0 (.ref it) (.ref s₂.heap.objs.size) (compEnvC scope (clOf X.env.cells scope.names []) (s₂.heap.objs.size + 1) X.env))
      (compPost (model X.prog X.w) X.A X.xe none (EP X pins σ Q) (.ref s₂.heap.objs.size) (s₂.heap.objs.size + 1)) { s₂ with heap := h₁, toks := s₂.toks } := by
    refine comp_block (Q := Q) S hc I2 (hb _ _ _ _).1 (hb _ _ _ _).2 T st2 f2 I0 old (q _ hfr) fun H' s' I' qq => ?_
    obtain ⟨m, hn, _⟩ := I'.loc
    exact ⟨m, hn, fun h' hb' => ⟨.ref s₂.heap.objs.size, H', comp_end I2 (Nat.le_succ _) f2 I' hb', rfl, qq⟩⟩
  exact codeAny_compStart_list loop (T.self _ 0 _ _ _ (T.keep 0 _ _ st2 fun b _ o e => old b o e) loop)
end
end L2
namespace L2
open PySem PySem.Spec PyProof.Rows

section
variable {X : Cx}
/-- the i-th sign as a text -/
def Its (z : Str) : It := ⟨fun i _ => i < z.cps.size, fun i H x H' => H' = H ∧ ∃ c, z.cps[i]? = some c ∧ x = .str ⟨#[c]⟩, fun i _ => z.cps.size ≤ i⟩
theorem turn_str {P : Program} {w : World} {K : PySem.W.Frag} {x : Str} {px : Pos} (it : Addr) (z : Str) (t : Tok) (ty : String) (hty : ty = "str_ascii_iterator" ∨ ty = "str_iterator") :
    Turn P w K (.Name x px) (Its z) [it] it (fun i h => h.IsStrIter it ty z t i ∧ i ≤ z.cps.size) where
  mem := by simp
  obj := fun i h st b hb => by
    have e : b = it := by simpa using hb
    subst e
    obtain ⟨⟨o, e, c, d⟩, _⟩ := st
    exact ⟨o, e, fun v z => by rw [d] at z; cases z⟩
  keep := fun i h h' st k => by
    obtain ⟨⟨o, e, c, d⟩, z⟩ := st
    exact ⟨⟨o, k it (by simp) o e, c, d⟩, z⟩
  item := by
    intro X hP hw hK hc i pins s σ H E I hf st hg
    subst hP hw hK
    obtain ⟨f0, f1, f2, f3, f4, f5⟩ := hf it (by simp)
    have hi : i < z.cps.size := hg
    have fin : ∀ h' : Heap, h'.IsStrIter it ty z t (i + 1) → Heap.SameBut it s.heap h' → ∃ u, some (Value.str ⟨#[z.cps[i]]⟩ s.toks) = some u ∧
        wpAny (model X.prog X.w) X.A (letOwnedTupleGo (.Name x px) (.ref it) u) (fun _ s2 => ∃ x H', Inv X pins σ H' s2 ∧ RelV x u ∧ (Its z).yld i H x H' ∧ (s2.heap.IsStrIter it ty z t (i + 1) ∧ i + 1 ≤ z.cps.size) ∧ ∀ b ∈ [it], H' b = none) E { s with heap := h', toks := s.toks + 1 } := fun h' st' sb => by
      have I1 : Inv X pins σ H { s with heap := h', toks := s.toks + 1 } := I.turned (fun b o hb e => sb.extBut b o hb e) f0 f1 f3 f4 f5
      exact ⟨_, rfl, wpAny_pure ⟨.str ⟨#[z.cps[i]]⟩, H, I1, ⟨_, rfl⟩, ⟨rfl, _, by simp [hi], rfl⟩, ⟨st', hi⟩, fun b hb => (hf b hb).1⟩⟩
    rcases hty with rfl | rfl
    · exact wpAny_pyNext_ascii_item st.1 (c := z.cps[i]) (by simp [hi]) fin
    · exact wpAny_pyNext_wide_item st.1 (c := z.cps[i]) (by simp [hi]) fin
  done := by
    intro X hP hw hK hc i pins s σ H E I hf st hg
    subst hP hw hK
    obtain ⟨f0, f1, f2, f3, f4, f5⟩ := hf it (by simp)
    have hi : z.cps.size ≤ i := hg
    rcases hty with rfl | rfl
    · exact wpAny_pyNext_ascii_end (I.ok.hd hc) st.1 (by simpa using hi) fun h' eb => ⟨rfl, I.turned (t' := s.toks) (fun b o hb e => eb b o hb e) f0 f1 f3 f4 f5⟩
    · exact wpAny_pyNext_wide_end (I.ok.hd hc) st.1 (by simpa using hi) fun h' eb => ⟨rfl, I.turned (t' := s.toks) (fun b o hb e => eb b o hb e) f0 f1 f3 f4 f5⟩
  self := fun _ _ _ _ _ st h => by
    rcases hty with rfl | rfl
    · exact wpAny_pyIter_striter_ascii st.1 h
    · exact wpAny_pyIter_striter_wide st.1 h

def rSlS : V → Option Int → Option Int → Hp → VK → Prop := fun x lo hi H Q => ∃ z, x = .str z ∧ z.length ≤ sizeLine ∧ Q (.str (Txt.slice z lo hi)) H
theorem sl_str : SlR X rSlS := by
  intro pins s σ H x v vl vu lo hi sl Q I rx hs pl pu h
  obtain ⟨z, rfl, hz, q⟩ := h
  obtain ⟨t, rfl⟩ := rx
  obtain ⟨l, el1, el2⟩ : ∃ l : Option (Int × Tok), vl = partValue l ∧ l.map (·.1) = lo := by
    cases pl with
    | none => exact ⟨none, rfl, rfl⟩
    | int i u => exact ⟨some (i, u), rfl, rfl⟩
  obtain ⟨u, eu1, eu2⟩ : ∃ u : Option (Int × Tok), vu = partValue u ∧ u.map (·.1) = hi := by
    cases pu with
    | none => exact ⟨none, rfl, rfl⟩
    | int i u => exact ⟨some (i, u), rfl, rfl⟩
  subst el1 eu1 el2 eu2
  refine ⟨"str", _, F.slot_str_getitem.lookup, typeIs_str _ _ _, ?_⟩
  refine wpAny_getItem_str_slice (l := l) (u := u) (st := none) hs rfl ?_
  exact post_val_or_str ⟨Nat.le_trans (Txt.slice_le z _ _) hz, fun t' k => ⟨.str (Txt.slice z (l.map (·.1)) (u.map (·.1))), H, I.tok k, ⟨_, rfl⟩, q⟩⟩

theorem strsAre_of : ∀ {ys : List Str} {us : List Value}, Vals (ys.map V.str) us → StrsAre us ys
  | [], us, h => by
    cases us with
    | nil => exact .nil
    | cons _ _ => cases h
  | y :: ys, us, h => by
    cases us with
    | nil => cases h
    | cons u us =>
      cases h with
      | cons r t =>
        obtain ⟨k, rfl⟩ := (show ∃ k, u = Value.str y k from r)
        exact .cons y k (strsAre_of t)
def rJoin (K : PySem.W.Frag) : V → List V → Hp → VK → Prop := fun x vs H Q => ∃ z p ys, x = .str z ∧ vs = [.ref p] ∧ SqL K H p (ys.map V.str) ∧ (ys.map (·.length)).sum + ys.length * z.length ≤ 16777216 ∧ Q (.str (Txt.join z ys)) H
theorem mt_join : MtR X "str.join" (rJoin X.K) := by
  intro pins s σ H x xs v us Q I rx rs h
  obtain ⟨z, p, ys, rfl, rfl, hq, hz, q⟩ := h
  obtain ⟨t, rfl⟩ := rx
  obtain ⟨u, rfl, ru⟩ := rs.one
  cases ru
  obtain ⟨its, r, pl, _⟩ := I.list hq
  exact join_list pl.isList (by simpa using strsAre_of r) hz fun t' k => ⟨.str (Txt.join z ys), H, I.tok k, ⟨_, rfl⟩, q⟩
theorem truth_bl {prog : Program} {w : World} {A : Around} {bs : List Bool} {us : List Value} (h : Vals (bs.map V.bl) us) : TruthOf prog w A (fun i v => us.toArray[i]? = some v) (fun i => (bs[i]?).getD true) := fun i v s Q E hv hq => by
  have hv' : us[i]? = some v := by simpa using hv
  have hi : i < us.length := (List.getElem?_eq_some_iff.mp hv').1
  have hl := h.length
  rw [List.length_map] at hl
  have hb : bs[i]? = some bs[i] := by simp
  obtain ⟨u, hu, ru⟩ := h.get (i := i) (x := .bl bs[i]) (by rw [List.getElem?_map, hb]; rfl)
  rw [hv'] at hu
  cases hu
  cases ru
  refine wpAny_truthy_bool ?_
  have hq' : Q ((bs[i]?).getD true) s := hq
  rw [hb] at hq'
  exact hq'
theorem all_range (bs : List Bool) : (List.range bs.length).all (fun i => (bs[i]?).getD true) = bs.all id := by
  rw [Bool.eq_iff_iff, List.all_eq_true, List.all_eq_true]
  constructor
  · intro h b hb
    obtain ⟨i, hi, rfl⟩ := List.mem_iff_getElem.mp hb
    have q := h i (by simpa using hi)
    simpa [hi] using q
  · intro h i hi
    have hi' : i < bs.length := by simpa using hi
    have q := h bs[i] (List.getElem_mem hi')
    simpa [hi'] using q
theorem any_range (bs : List Bool) : (List.range bs.length).any (fun i => (bs[i]?).getD true) = bs.any id := by
  rw [Bool.eq_iff_iff, List.any_eq_true, List.any_eq_true]
  constructor
  · rintro ⟨i, hi, h⟩
    have hi' : i < bs.length := by simpa using hi
    exact ⟨bs[i], List.getElem_mem hi', by simpa [hi'] using h⟩
  · rintro ⟨b, hb, h⟩
    obtain ⟨i, hi, rfl⟩ := List.mem_iff_getElem.mp hb
    exact ⟨i, by simpa using hi, by simpa [hi] using h⟩
theorem list_iter1 {A : Around} {p : Addr} {its : List Value} {pins : List (Addr × Obj)} {σ : St} {H : Hp} {s : Shared} (I : Inv X pins σ H s) (pl : PlainL s.heap p its.toArray) (hh : A.handled = none) (Q : Value → Shared → Prop) (E : Value → Shared → Prop)
    (h : ∀ J : Addr, H J = none → Walks X.prog X.w A J [J, p] [J] its.length (fun i v => its.toArray[i]? = some v) (fun i h => h.IsListIter J p i ∧ h.IsList p its.toArray) → ∀ s2 : Shared, s2.heap.IsListIter J p 0 ∧ s2.heap.IsList p its.toArray →
      (∀ h' tk, (∀ b o, b ∉ [J] → s2.heap.get? b = some o → h'.get? b = some o) → Inv X pins σ H { s2 with heap := h', toks := tk }) → Q (.ref J) s2) : wpAny (model X.prog X.w) A (pyIter (.ref p)) Q E s := by
  refine wpAny_pyIter_list pl.isList ?_
  have hne : p ≠ s.heap.objs.size := Nat.ne_of_lt (by obtain ⟨o, e, _⟩ := pl.isList; exact Heap.lt_size e)
  have hn : H s.heap.objs.size = none := I.hok.fresh (Nat.le_refl _)
  have W := Walks.list (prog := X.prog) (w := X.w) hh s.heap.objs.size p hne its.toArray
  rw [List.size_toArray] at W
  refine h s.heap.objs.size hn W _ ⟨⟨_, Heap.get?_push_size _ rfl, rfl, rfl⟩, ?_⟩ fun h' tk hk => ?_
  · obtain ⟨o, e, r⟩ := pl.isList
    exact ⟨o, Heap.get?_push_of_some _ e, r⟩
  · exact I.kept (t' := tk) fun b o e => hk b o (by
      intro z
      have : b = s.heap.objs.size := by simpa using z
      subst this
      exact absurd (Heap.lt_size e) (Nat.lt_irrefl _)) (Heap.get?_push_of_some _ e)
theorem call_all (hc : X.calm = true) : CallR X (.builtin "all") (fun xs H Q => ∃ (p : Addr) (bs : List Bool), xs = [.ref p] ∧ SqL X.K H p (bs.map V.bl) ∧ Q (.bl (bs.all id)) H) := by
  intro pins s σ H xs us Q I rs h
  obtain ⟨p, bs, rfl, hq, q⟩ := h
  obtain ⟨u, rfl, ru⟩ := rs.one
  cases ru
  obtain ⟨its, r, pl, _⟩ := I.list hq
  have hl : bs.length = its.length := by have := r.length; rwa [List.length_map] at this
  refine call_all_walk (list_iter1 I pl (show X.A.in1.handled = none from I.ok.hd hc) _ _ fun J hJ W s2 st k => ⟨J, _, _, _, _, _, _, rfl, W, st, truth_bl r, fun h' tk hk => ⟨.bl (bs.all id), H, k h' tk hk, ?_, q⟩⟩)
  rw [← hl, all_range]
  rfl
theorem call_any (hc : X.calm = true) : CallR X (.builtin "any") (fun xs H Q => ∃ (p : Addr) (bs : List Bool), xs = [.ref p] ∧ SqL X.K H p (bs.map V.bl) ∧ Q (.bl (bs.any id)) H) := by
  intro pins s σ H xs us Q I rs h
  obtain ⟨p, bs, rfl, hq, q⟩ := h
  obtain ⟨u, rfl, ru⟩ := rs.one
  cases ru
  obtain ⟨its, r, pl, _⟩ := I.list hq
  have hl : bs.length = its.length := by have := r.length; rwa [List.length_map] at this
  refine call_any_walk (list_iter1 I pl (show X.A.in1.handled = none from I.ok.hd hc) _ _ fun J hJ W s2 st k => ⟨J, _, _, _, _, _, _, rfl, W, st, truth_bl r, fun h' tk hk => ⟨.bl (bs.any id), H, k h' tk hk, ?_, q⟩⟩)
  rw [← hl, any_range]
  rfl
theorem call_isinst : CallR X (.builtin "isinstance") (fun xs H Q => ∃ x t T b, xs = [x, .ty T] ∧ TyOf X.K H x t ∧ PySem.W.kitOne X.K t (.type T) = some b ∧ Q (.bl b) H) := by
  intro pins s σ H xs us Q I rs h
  obtain ⟨x, t, T, b, rfl, ty, e, q⟩ := h
  obtain ⟨u, v, rfl, ru, rv⟩ := rs.two
  cases rv
  exact isinst_ok I ru ty e fun tk => ⟨.bl b, H, I.tok tk, rfl, q⟩
def rCatS (K : PySem.W.Frag) : R2 := fun x y H Q => ∃ l b xs zs, x = .ref l ∧ y = .ref b ∧ SqL K H l xs ∧ SqL K H b zs ∧ xs.length + zs.length ≤ sizeLine ∧ ∀ p, H p = none → Q (.ref p) (upd H p (.lst (xs ++ zs)))
theorem op_catS : OpR X (binaryOp .Add) (rCatS X.K) := by
  intro pins s σ H x y v u Q I rx ry h
  obtain ⟨l, b, xs, zs, rfl, rfl, hH, hB, hz, q⟩ := h
  cases rx
  cases ry
  obtain ⟨its, r, pl, _⟩ := I.list hH
  obtain ⟨its2, r2, pl2, _⟩ := I.list hB
  have l1 := r.length
  have l2 := r2.length
  obtain ⟨⟨cls, dd, data, sl⟩, n, ho, hc, hd0, hd⟩ := pl
  obtain ⟨⟨cls2, dd2, data2, sl2⟩, n2, ho2, hc2, hd02, hd2⟩ := pl2
  simp only at hc hd hc2 hd2
  subst hc hd hc2 hd2
  refine concat_meets ⟨_, ho, rfl⟩ ⟨_, ho2, rfl⟩ noFill_list_add seq_list_add PySem.F.slot_list_add PySem.F.entry_list_add (PySem.F.args_list_add_2 _ _)
    (list_addW l b its.toArray its2.toArray n n2 dd dd2 sl sl2 (by rw [List.size_toArray, List.size_toArray]; omega)) ⟨ho, ho2, ?_⟩
  have ea : its.toArray ++ its2.toArray = (its ++ its2).toArray := by simp
  rw [ea]
  exact ⟨.ref _, _, I.lnew (t' := s.toks) (r.append r2) (by rw [List.length_append]; omega), rfl, q _ I.fresh⟩
theorem op_le_str : OpR X (compareOp .LtE) (fun x y H Q => ∃ i j, x = .str i ∧ y = .str j ∧ Q (.bl (!(decide (j.cps.toList < i.cps.toList)))) H) := by
  intro pins s σ H x y v u Q I rx ry h
  obtain ⟨i, j, rfl, rfl, q⟩ := h
  obtain ⟨t, rfl⟩ := rx
  obtain ⟨t', rfl⟩ := ry
  exact P.le_str (fin_bl I q rfl)
def CDivB (i j : Int) : Prop := 0 < j ∧ j ≤ 10 ^ 30
theorem op_fdivB : OpR X (binaryOp .FloorDiv) (rI CDivB fun i j => .int (i / j)) := opI fun i j _ _ _ _ _ hc q => by
  have h0 : j ≠ 0 := by have := hc.1; omega
  refine floordiv_int h0 ?_ (.inl (PyProof.noPylong_of_log2 ?_))
  · rw [Int.fdiv_eq_ediv_of_nonneg _ (Int.le_of_lt hc.1)]; exact q
  · have h1 : j.natAbs ≠ 0 := by omega
    have h2 : j.natAbs < 2 ^ 100 := by
      have h3 := hc.2
      have h4 := hc.1
      have e : (10 : Int) ^ 30 < 2 ^ 100 := by decide
      have h5 : ((j.natAbs : Nat) : Int) = j := by omega
      omega
    have := (Nat.log2_lt h1).mpr h2
    omega
end
end L2
namespace L2
open PySem PySem.Spec PyProof.Rows

section
variable {P : Program} {w : World} {H : Hp} {h h' : Heap} {a : Addr} {o : HO}
theorem ObjOk.stands (x : ObjOk P w H h a o) : ∃ u, h.get? a = some u := by
  cases o with
  | lst xs => obtain ⟨_, _, _, _, e⟩ := x; exact ⟨_, e⟩
  | tup xs => obtain ⟨_, _, _, p⟩ := x; obtain ⟨u, e, _⟩ := p; exact ⟨u, e⟩
  | dK kvs => obtain ⟨_, _, _, _, u, _, _, e, _⟩ := x; exact ⟨u, e⟩
  | dT kvs => obtain ⟨_, _, _, _, u, _, _, e, _⟩ := x; exact ⟨u, e⟩
  | set S n => obtain ⟨u, _, _, _, e, _⟩ := x; exact ⟨u, e⟩
  | ins C dx fs => obtain ⟨_, _, _, e, _⟩ := x; exact ⟨_, e⟩
  | own y => exact x
  | xd fs => obtain ⟨_, ⟨u, _, _, e, _⟩, _⟩ := x; exact ⟨u, e⟩
  | rng lo hi => obtain ⟨_, _, _, e⟩ := x; exact ⟨_, e⟩
  | frz ob u => obtain ⟨e, _⟩ := x; exact ⟨ob, e⟩
  | tbl ps => exact ⟨_, x⟩
  | met f y => exact ⟨_, x⟩
  | ext φ => exact x.2.1
theorem HOk.none_of (x : HOk P w H h) (e : h.get? a = none) : H a = none := by
  cases q : H a with
  | none => rfl
  | some u =>
    obtain ⟨o, z⟩ := (x a u q).stands
    rw [e] at z; cases z
theorem HOk.laidN (x : HOk P w H h) (k : ∀ b u, h.get? b = some u → h'.get? b = some u) (hn : H a = none) (new : ObjOk P w (upd H a o) h' a o) : HOk P w (upd H a o) h' := fun b u e => by
  by_cases hb : b = a
  · subst hb; rw [upd_same] at e; cases e; exact new
  · rw [upd_ne hb] at e
    exact (x b u e).stay (fun c v _ q => k c v q) (fun c q => by rw [upd_ne (ne_of_none q hn)]; exact q) fun c xs q => by rw [upd_ne (ne_of_none q hn)]; exact q
theorem Un.laidN {fs ex : List Addr} (k : ∀ b u, h.get? b = some u → h'.get? b = some u) (hp : h.get? a = none) (hn : H a = none) : Un fs ex H (upd H a o) h h' where
  keep := fun b u q _ _ _ => k b u q
  slot := fun b u q _ _ _ => ⟨u.slots, k b u q⟩
  free := fun b u q n _ => by rw [upd_ne (fun z => by subst z; rw [hp] at q; cases q)]; exact n
  there := fun b u q _ => ⟨u, k b u q⟩
  tups := fun b xs q => by rw [upd_ne (ne_of_none q hn)]; exact q
  frzs := fun b u xs q => by rw [upd_ne (ne_of_none q hn)]; exact q
  tbls := fun b ps q => ⟨#[], by rw [upd_ne (ne_of_none q hn), q]; simp⟩
end

section
variable {X : Cx}
def XAt (e C : Addr) (h : Heap) : Prop := ∃ ob, h.get? e = some ob ∧ ob.cls = .ref C ∧ ob.dict = none ∧ PySem.W.notCls ob = true
def excO (e C : Addr) : HO := .ext (XAt e C)



theorem exc_class {K : PySem.W.Frag} {prog : Program} {w : World} {A : Around} {E : Value → Shared → Prop} {Q : Option Value → Shared → Prop} {s : Shared} {e C : Addr} {ob : Obj}
    (pg : PySem.W.findIn K (.ref C) "__getattribute__" = some (some (.builtin "BaseException.__getattribute__"))) (pt : PySem.W.findIn K (.ref C) "__getattr__" = some none)
    (hf : PySem.W.findObj K C none "__class__" = some (.bind (.builtin "getset_descriptor.__get__") (.builtin "object.__class__")))
    (hm : PySem.W.mroIn K C (.type "object") = some true) (hb : PySem.W.mroIn K C (.type "BaseException") = some true)
    (XK : K.In s.heap) (I : PySem.W.InstAt s.heap e ob C none) (k : Q (some (.ref C)) { s with toks := s.toks + 1 }) : wpAny (model prog w) A (getAttr? (.ref e) "__class__") Q E s := by
  obtain ⟨h, g, d, t, os⟩ := s
  have L0 := I.type (M := model prog w)
  have L1 := PySem.W.looks_findIn (M := model prog w) XK pg
  have L2 := PySem.W.looks_findIn (M := model prog w) XK pt
  have L3 := PySem.W.looks_find (M := model prog w) XK I hf
  have L4 := PySem.W.looks_mroIn (M := model prog w) XK hb
  have hx2 : (Value.builtin "BaseException.__getattribute__" == Value.builtin "object.__getattribute__") = false := by decide +kernel
  have f3 := F.excAttr_ValueError.ga.bind (.ref e)
  unfold getAttr? getAttrBy? getAttrBy
  refine wpAny_bind (wpAny_mkText (wpAny_bind (wpAny_attempt (wpAny_holding (wpAny_bind (L0.at (wpAny_bind (L1.at ?_))))))))
  show wpAny _ _ (if (onTheHeap (.ref C) && Value.builtin "BaseException.__getattribute__" == Value.builtin "object.__getattribute__") = true then _ else _) _ _ _
  rw [hx2, Bool.and_false, if_neg Bool.false_ne_true]
  unfold getAttrByItsOwn
  refine wpAny_bind ?_
  show wpAny _ _ (typeLookup (.ref C) "__getattr__") _ _ _
  refine L2.at ?_
  refine wpAny_bind (wpAny_attempt (wpAny_holding ?_))
  show wpAny _ _ (boundAndCalled _ _ _) _ _ _
  unfold boundAndCalled
  rw [f3]
  refine wpAny_bind (wpAny_pure ?_)
  refine wpAny_call (codeAny_call_builtin F.excAttr_ValueError.ga.plain F.entry_bexc_ga ?_)
  have hk : builtinKind "BaseException.__getattribute__" = some .slot := by decide +kernel
  have hsplit : splitId "BaseException.__getattribute__" = some ("BaseException", "__getattribute__") := by decide +kernel
  have ha := F.args_bexc_ga (.ref e) (.str "__class__" t)
  simp only [checkBuiltinCall, hk, hsplit]
  refine wpAny_bind ?_
  unfold isInstance
  refine wpAny_bind (L0.at (L4.at ?_))
  rw [if_neg (by decide)]
  refine wpAny_of_eq ha ?_
  show wpAny _ _ (Builtin.«object.__getattribute__» ⟨[.ref e, .str "__class__" t], []⟩) _ _ _
  unfold Builtin.«object.__getattribute__»
  refine wpAny_bind (wpAny_of_eq (a := (Value.ref e, [Value.str "__class__" t])) rfl ?_)
  refine wpAny_bind (wpAny_pure ?_)
  refine wpAny_bind (L0.at (wpAny_bind (L3.at ?_)))
  show wpAny _ _ (holding [Value.builtin "object.__class__"] (call (.builtin "getset_descriptor.__get__") [.builtin "object.__class__", .ref e, .ref C]) >>= ret) _ _ _
  refine wpAny_bind (wpAny_holding (wpAny_call (PySem.W.class_get (ox := ob) (od := none) XK I hm ?_)))
  exact wpAny_pure (PySem.W.handed_on rfl (wpAny_pure k))
structure ExcK (K : PySem.W.Frag) (C : Addr) : Prop where
  pg : PySem.W.findIn K (.ref C) "__getattribute__" = some (some (.builtin "BaseException.__getattribute__"))
  pt : PySem.W.findIn K (.ref C) "__getattr__" = some none
  hb : PySem.W.mroIn K C (.type "BaseException") = some true
  ci : (PySem.W.clsIn K C).isSome = true
  ha : PySem.W.findIn K (.ref C) "__class__" = some (some (.builtin "object.__class__"))
  hn : PySem.W.specialIn K (.builtin "object.__class__") "__get__" = some (some (.builtin "getset_descriptor.__get__"))
  htk : PySem.W.takesIn K (.builtin "object.__class__") = some true
  hm : PySem.W.mroIn K C (.type "object") = some true
theorem kitx_exc {K : PySem.W.Frag} {e C : Addr} (Z : ExcK K C) : PySem.W.KitX K (.ref e) (.ref C) (XAt e C) where
  ty := fun _ _ _ ⟨ob, h1, h2, h3, h4⟩ => (PySem.W.InstAt.type (od := none) ⟨h1, h2, h4, by rw [h3]; trivial⟩)
  it := fun _ _ XK _ => by
    obtain ⟨cd, hc⟩ := Option.isSome_iff_exists.mp Z.ci
    unfold PySem.W.clsIn at hc
    split at hc
    · rename_i ho
      intro A' Q' E' s' k q
      unfold isType loadHead
      exact wpAny_bind (wpAny_loadPart (k _ _ (XK _ _ ho)) (wpAny_pure q))
    · cases hc
  ne := fun h tp dd its n sl XK htp => by
    obtain ⟨cd, hc⟩ := Option.isSome_iff_exists.mp Z.ci
    refine Bool.eq_false_iff.mpr fun q => ?_
    have ee : C = tp := Value.ref.inj (beq_iff_eq.mp q)
    subst ee
    unfold PySem.W.clsIn at hc
    split at hc
    · rename_i ho
      have z := (XK _ _ ho).symm.trans htp
      cases z
    · cases hc
  ca := fun {prog w A E Q s} XK ⟨ob, h1, h2, h3, h4⟩ k => by
    have I : PySem.W.InstAt s.heap e ob C none := ⟨h1, h2, h4, by rw [h3]; trivial⟩
    have hf : PySem.W.findObj K C none "__class__" = some (.bind (.builtin "getset_descriptor.__get__") (.builtin "object.__class__")) := by
      obtain ⟨cd, hc⟩ := Option.isSome_iff_exists.mp Z.ci
      unfold PySem.W.findObj
      rw [hc, Option.bind_some, Z.ha, Option.bind_some]
      simp [Z.hn, Z.htk]
    exact exc_class Z.pg Z.pt hf Z.hm Z.hb XK I k
def vVal : V → Option Value
  | .ref a => some (.ref a)
  | .ty n => some (.type n)
  | _ => none
theorem call_isinstX : CallR X (.builtin "isinstance") (fun xs H Q => ∃ e C c cv b, xs = [.ref e, c] ∧ H e = some (excO e C) ∧ ExcK X.K C ∧ vVal c = some cv ∧ PySem.W.kitOne X.K (.ref C) cv = some b ∧ Q (.bl b) H) := by
  intro pins s σ H xs us Q I rs h
  obtain ⟨e, C, c, cv, b, rfl, he, Z, hv, hk, q⟩ := h
  obtain ⟨u, v, rfl, ru, rv⟩ := rs.two
  cases ru
  have ev : v = cv := by
    cases c <;> first
      | (cases hv; exact rv)
      | (exact absurd hv (by simp [vVal]))
  subst ev
  have p : XAt e C s.heap := (I.hok e _ he).1
  exact PySem.W.kia_one (kitx_exc Z) I.kIn p hk (fun z => nomatch z) fun tk => ⟨.bl b, H, I.tok tk, rfl, q⟩

end
end L2
namespace L2
open PySem PySem.Spec PyProof.Rows

/-- the scopes' fit, reckoned -/
def compOkB (sc : Scope) (N : List Str) (scope : Scope) (M : List Str) (ix : List (Option Nat)) (j : Nat) (x : Str) : Bool :=
  scope.kind == .function
  && scope.names.all (fun y => if y.2 == .local then scope.names.lookup y.1 == some .local else true)
  && scope.names.all (fun y => y.2 != .cell)
  && decide M.Nodup
  && M[j]? == some x
  && scope.names.lookup x == some .local
  && ix[j]? == some none
  && ix.length == M.length
  && scope.names.all (fun y => if y.2 == .free then (sc.names.lookup y.1 == some .cell || sc.names.lookup y.1 == some .free) else true)
  && (List.range M.length).all (fun k => match M[k]?, ix[k]? with
    | some y, some (some i) => N[i]? == some y && (sc.names.lookup y == some .cell || sc.names.lookup y == some .free) && scope.names.lookup y == some .free
    | _, _ => true)
theorem compS {sc : Scope} {N : List Str} {scope : Scope} {M : List Str} {ix : List (Option Nat)} {j : Nat} {x : Str} (h : compOkB sc N scope M ix j x = true) : CompScope sc N scope M ix j x := by
  unfold compOkB at h
  simp only [Bool.and_eq_true] at h
  obtain ⟨⟨⟨⟨⟨⟨⟨⟨⟨h1, h2⟩, h3⟩, h4⟩, h5⟩, h6⟩, h7⟩, h8⟩, h9⟩, h10⟩ := h
  refine ⟨beq_iff_eq.mp h1, fun y hy e => ?_, fun y hy e => ?_, of_decide_eq_true h4, beq_iff_eq.mp h5, beq_iff_eq.mp h6, beq_iff_eq.mp h7, beq_iff_eq.mp h8, fun y hy e => ?_, fun k y i e1 e2 => ?_⟩
  · have q := List.all_eq_true.mp h2 y hy
    rw [e] at q
    exact beq_iff_eq.mp q
  · have q := List.all_eq_true.mp h3 y hy
    rw [e] at q
    cases q
  · have q := List.all_eq_true.mp h9 y hy
    rw [e] at q
    rcases Bool.or_eq_true_iff.mp q with z | z
    · exact .inl (beq_iff_eq.mp z)
    · exact .inr (beq_iff_eq.mp z)
  · have hk : k < M.length := (List.getElem?_eq_some_iff.mp e1).1
    have q := List.all_eq_true.mp h10 k (List.mem_range.mpr hk)
    rw [e1, e2] at q
    simp only [Bool.and_eq_true, Bool.or_eq_true] at q
    obtain ⟨⟨q1, q2⟩, q3⟩ := q
    refine ⟨beq_iff_eq.mp q1, ?_, beq_iff_eq.mp q3⟩
    rcases q2 with z | z
    · exact .inl (beq_iff_eq.mp z)
    · exact .inr (beq_iff_eq.mp z)

end L2
namespace L2
open PySem PySem.Spec PyProof.Rows
section
variable {X : Cx} {a b c e : Expr} {es : List Expr} {ta tb tc te : TE} {t : TA} {pos p : Pos} {x : Str}
end
end L2
namespace L2
open PySem PySem.Spec PyProof.Rows
section
variable {X : Cx} {scope : Scope} {M : List Str} {ix : List (Option Nat)} {j : Nat} {x : Str}
/-- y = [..], y a plain name of the frame: the list is stored ahead of the block's names being let go -/
theorem ps_comp {elt iter : Expr} {px py pos spos : Pos} {ifs : List Expr} {wi : TI} {tf : TT} {te : TE} {i : Nat} {y : Str} (hN : X.N.Nodup) (hi : X.N[i]? = some y) (hy : X.env.scope.names.lookup y = some .local)
    (S : CompScope X.env.scope X.N scope M ix j x) (hc : X.calm = true) (hit : PI X (.Name x px) iter wi)
    (hb : ∀ C s H fp, PF (cxComp X M scope C s H fp) ifs tf ∧ PE (cxComp X M scope C s H fp) elt te)
    (hsw : swapsWith (.ListComp elt [⟨.Name x px, iter, ifs, 0⟩] scope pos) (some (.Name y py)) spos.line X.env = pure true := by rfl) (hs : ∀ x, foldedSetIterable iter X.env x = pure x := by intro _; rfl) :
    PS X (.Assign [.Name y py] (.ListComp elt [⟨.Name x px, iter, ifs, 0⟩] scope pos) spos) (tAsg (tComp wi ix j tf te) (gName i)) := by
  intro pins s σ H D I h
  rw [exec_Assign_Name_used _ _ _ _ hsw]
  refine wpAny_bind (wpAny_standAt (wpAny_bind ?_))
  show wpAny _ X.A (do let _ ← comprehension (.ListComp elt [⟨.Name x px, iter, ifs, 0⟩] scope pos) scope X.env _ (newList []) false (eval iter X.env) (some (assign (.Name y py) X.env))) _ _ s
  refine wpAny_bind (wpAny_mono (wpAny_comprehension_free (use := some (assign (.Name y py) X.env)) (Q := fun _ s' => SP X pins D .next s') rfl hs (closureFor_cl fun y hy e => I.ok.has y.1 (S.free y hy e)) S.kind S.names
    (wpAny_mono (hit pins s σ H _ I h) (fun xv s₁ h₁ => wpAny_mono h₁ (fun it s₂ h₂ => ?_) fun _ _ e => e) fun _ _ e => e)) (fun _ s' hq => wpAny_pure (wpAny_pure hq)) fun _ _ e => e)
  obtain ⟨it, fp, tn, J, H2, rfl, I2, T, st2, f2, q⟩ := h₂
  refine wpAny_newObj_type (wpAny_newFunctionEnv S.nocell (by intro y hy; simp at hy) (fun h₁ hns₁ hsb₁ => ?_) S.kind)
  dsimp only at hns₁ hsb₁ ⊢
  have hC : (s₂.heap.push { cls := .type "list", dict := none, data := .seq ([] : List Value).toArray }).objs.size = s₂.heap.objs.size + 1 := Heap.size_push ..
  rw [hC] at hns₁ hsb₁ ⊢
  have below : ∀ b, b < s₂.heap.objs.size → b ≠ s₂.heap.objs.size + 1 := fun b hb => Nat.ne_of_lt (Nat.lt_succ_of_lt hb)
  have old : ∀ b o, s₂.heap.get? b = some o → h₁.get? b = some o := fun b o e => hsb₁.extBut b o (below b (Heap.lt_size e)) (Heap.get?_push_of_some _ (Heap.get?_push_of_some _ e))
  have hD : h₁.get? s₂.heap.objs.size = some { cls := .type "list", data := .seq ([] : List Value).toArray 0 } := hsb₁.extBut _ _ (Nat.ne_of_lt (Nat.lt_succ_self _)) (Heap.get?_push_of_some _ (Heap.get?_push_size _ rfl))
  have hft : ∀ b ∈ fp, b < s₂.heap.objs.size := fun b hb => by
    obtain ⟨o, e, _⟩ := T.obj 0 s₂.heap st2 b hb
    exact Heap.lt_size e
  have I0 := (comp_start (h1 := h₁) S I2 f2 hft old hD hns₁).tok s₂.toks
  have hfr : H2 s₂.heap.objs.size = none := I2.hok.fresh (Nat.le_refl _)
  have loop : codeAny (model X.prog X.w) X.A (.compLoop (.ListComp elt [⟨.Name x px, iter, ifs, 0⟩] scope pos) 0 (.ref it) (.ref s₂.heap.objs.size) (compEnvC scope (clOf X.env.cells scope.names []) (s₂.heap.objs.size + 1) X.env))
      (compPost (model X.prog X.w) X.A X.xe (some (assign (.Name y py) X.env)) (fun _ s' => SP X pins D .next s') (.ref s₂.heap.objs.size) (s₂.heap.objs.size + 1)) { s₂ with heap := h₁, toks := s₂.toks } := by
    refine comp_block (Q := fun v H' => gName i v σ H' D.nx) S hc I2 (hb _ _ _ _).1 (hb _ _ _ _).2 T st2 f2 I0 old (q _ hfr) fun H' s' I' qq => ?_
    show wpAny _ X.A (assign (.Name y py) X.env (.ref s₂.heap.objs.size)) _ _ s'
    have J1 : Inv X pins σ H' s' := comp_end (h' := s'.heap) I2 (Nat.le_succ _) f2 I' (.refl ..)
    obtain ⟨m, hn, _⟩ := I'.loc
    obtain ⟨oC, es, ep, hoC, hd, hrest⟩ := id hn
    have nL : s₂.heap.objs.size + 1 ≠ X.env.locals := Nat.ne_of_gt (Nat.lt_succ_of_lt I2.lt)
    have nF : s₂.heap.objs.size + 1 ∉ X.fs := I2.nofs (Nat.le_succ _)
    have hHC : H' (s₂.heap.objs.size + 1) = none := I'.free
    have J2 : Inv X (pins ++ [(s₂.heap.objs.size + 1, oC)]) σ H' s' := J1.pins_of fun p hp => (List.mem_append.mp hp).elim (fun z => J1.pin p (List.mem_append_right _ z)) fun z => by
      have e : p = (s₂.heap.objs.size + 1, oC) := List.mem_singleton.mp z
      subst e
      exact ⟨hoC, hHC, nL, nF, fun v z => by rw [hd] at z; cases z⟩
    refine wpAny_assign_Name (store_ok (v := .ref s₂.heap.objs.size) J2 hN hi (.inl hy) rfl (fun s'' J3 => ?_) (.inr hy))
    have hoC2 : s''.heap.get? (s₂.heap.objs.size + 1) = some oC := (J3.pin (s₂.heap.objs.size + 1, oC) (List.mem_append_right _ (List.mem_append_right _ (List.mem_singleton.mpr rfl)))).1
    refine ⟨m, ⟨oC, es, ep, hoC2, hd, hrest⟩, fun h' hb' => ?_⟩
    have J4 : Inv X pins (σ.set i (some (.ref s₂.heap.objs.size))) H' s'' := J3.unpinned
    refine ⟨_, H', J4.turned (t' := s''.toks) (it := s₂.heap.objs.size + 1) (fun b o hne e => hb'.extBut b o hne e) hHC nL (.inr (Nat.le_trans I2.sz (Nat.le_succ _))) (fun z c e1 e2 => ?_) (fun p hp e2 => ?_), qq⟩
    · obtain ⟨v, qc⟩ := I2.cell z c e1
      have := qc.lt
      rw [e2] at this
      exact absurd (Nat.lt_of_succ_lt this) (Nat.lt_irrefl _)
    · have := Heap.lt_size (I2.pin p hp).1
      rw [e2] at this
      exact absurd (Nat.lt_of_succ_lt this) (Nat.lt_irrefl _)
  exact codeAny_compStart_list loop (T.self _ 0 _ _ _ (T.keep 0 _ _ st2 fun b _ o e => old b o e) loop)
end
end L2
namespace HT
open PySem PyProof.Rows
section
variable {prog : Program} {w : World} {A : Around} {E : Value → Shared → Prop} {s : Shared}
theorem adjust_rev (n : Nat) : Builtin.Slice.sliceAdjust none none (-1) (n : Int) = ((n : Int) - 1, -1) := rfl
theorem places_rev (n : Nat) : Builtin.Slice.slicePlaces ((n : Int) - 1) (-1) (-1) = n := by
  unfold Builtin.Slice.slicePlaces
  rw [if_neg (by decide)]
  by_cases h : ((n : Int) - 1 > -1)
  · rw [if_pos h, show (-(-1 : Int)) = 1 from rfl, Int.ediv_one]
    omega
  · rw [if_neg h]
    omega
theorem sliceApplied_rev {sl : Addr} {t : Tok} {n : Nat} {Q : Int × Int × Nat → Shared → Prop} (hs : s.heap.IsSliceOf sl .none .none (.int (-1) t)) (h : Q ((n : Int) - 1, -1, n) s) :
    wpAny (model prog w) A (Builtin.Slice.sliceApplied (.ref sl) (pure (n : Int))) Q E s := by
  obtain ⟨os, hos, hcs, hds⟩ := id hs
  unfold Builtin.Slice.sliceApplied Builtin.Slice.sliceFields
  refine wpAny_bind (wpAny_bind (wpAny_field hos hds (x := .none) rfl (wpAny_bind (wpAny_field hos hds (x := .none) rfl (wpAny_bind (wpAny_field hos hds (x := .int (-1) t) rfl (wpAny_pure ?_)))))))
  refine wpAny_bind (slicePart_ (.int (-1) t) ?_)
  show wpAny _ _ (if ((-1 : Int) == 0) = true then _ else _) _ _ s
  rw [if_neg (by decide)]
  refine wpAny_bind (slicePart_ .none (wpAny_bind (slicePart_ .none (wpAny_bind (wpAny_pure ?_)))))
  show wpAny _ _ (match Builtin.Slice.sliceAdjust none none (-1) (n : Int) with | (lo, hi) => pure (lo, (-1 : Int), Builtin.Slice.slicePlaces lo hi (-1))) _ _ s
  rw [adjust_rev n]
  show wpAny _ _ (pure ((n : Int) - 1, (-1 : Int), Builtin.Slice.slicePlaces ((n : Int) - 1) (-1) (-1))) _ _ s
  rw [places_rev]
  exact wpAny_pure h
theorem pick_rev (xs : Array Value) : ((List.range xs.size).filterMap fun (m : Nat) => xs[(((xs.size : Nat) : Int) - 1 + (m : Int) * (-1)).toNat]?).toArray = xs.toList.reverse.toArray := by
  congr 1
  have e : ∀ k, k ≤ xs.size → ((List.range k).filterMap fun (m : Nat) => xs[(((xs.size : Nat) : Int) - 1 + (m : Int) * (-1)).toNat]?) = xs.toList.reverse.take k := by
    intro k
    induction k with
    | zero => intro _; rfl
    | succ k ih =>
      intro hk
      have hlt : xs.size - 1 - k < xs.size := by omega
      have e1 : (((xs.size : Nat) : Int) - 1 + (k : Int) * (-1)).toNat = xs.size - 1 - k := by omega
      rw [List.range_succ, List.filterMap_append, ih (by omega), List.take_add_one]
      congr 1
      have hl : k < xs.toList.reverse.length := by simp; omega
      have g : xs.toList.reverse[k]? = some xs[xs.size - 1 - k] := by
        rw [List.getElem?_reverse (by simpa using (show k < xs.size by omega))]
        simp [hlt]
      rw [g]
      have gg : xs[(((xs.size : Nat) : Int) - 1 + (k : Int) * (-1)).toNat]? = some xs[xs.size - 1 - k] := by rw [e1]; simp [hlt]
      rw [List.filterMap_cons, gg]
      rfl
  have := e xs.size (Nat.le_refl _)
  rw [this, List.take_of_length_le (by simp)]
theorem getItem_tuple_rev {t sl : Addr} {items : Array Value} {k : Tok} {Q : Value → Shared → Prop} (ht : IsTup s.heap t items) (hs : s.heap.IsSliceOf sl .none .none (.int (-1) k))
    (h : Q (.ref s.heap.objs.size) { s with heap := s.heap.push { cls := .type "tuple", data := .seq items.toList.reverse.toArray } })
    (hsz : items.size ≤ sizeLine) : wpAny (model prog w) A (getItem (.ref t) (.ref sl)) Q E s := by
  have hsize : sizeOk (.seq items.toList.reverse.toArray) := by
    show items.toList.reverse.toArray.size ≤ sizeLine
    rw [List.size_toArray, List.length_reverse, Array.length_toList]
    exact hsz
  obtain ⟨os, hos, hcs, hds⟩ := id hs
  have hTs : s.TypeIs (.ref sl) "slice" := ⟨os, hos, hcs⟩
  unfold getItem
  try with_reducible refine wpAny_holding ?_
  first | refine wpAny_bind (wpAny_pure ?_) | skip
  refine wpAny_bind (wpAny_sequenceKey ht.typeIs (by decide) ?_)
  refine wpAny_bind (wpAny_callSpecial?_slot (name := Str.ofString "__getitem__") ht.typeIs PyProof.Rows.slot_tuple_getitem
    (wpAny_call_entry PyProof.Rows.slot_tuple_getitem ht.typeIs entry_tuple_getitem ?_ (args_tuple_getitem _ _)))
  show wpAny _ _ (Builtin.Tuple.tupleItemsOf (.ref t) >>= _) _ _ s
  refine wpAny_bind (tupleItemsOf_ ht ?_)
  refine wpAny_bind (wpAny_typeOf hTs ?_)
  rw [if_pos (by decide)]
  refine wpAny_bind (sliceApplied_rev hs ?_)
  show wpAny _ _ (if ((((items.size : Nat) : Int) - 1) == 0 && (-1 : Int) == 1 && items.size == items.size) = true then _ else _) _ _ s
  rw [if_neg (by intro q; rw [Bool.and_eq_true, Bool.and_eq_true] at q; exact absurd q.1.2 (by decide)), pick_rev]
  first
    | exact wpAny_bind (m := Builtin.Tuple.tupleExact _) (wpAny_newObj_type (wpAny_pure ⟨_, rfl, wpAny_pure h⟩) hsize)
    | exact wpAny_bind (m := Builtin.Tuple.tupleExact _) (wpAny_newObj_type (wpAny_bind (wpAny_pure (wpAny_pure ⟨_, rfl, wpAny_pure h⟩))) hsize)
    | exact wpAny_bind (wpAny_bind (m := Builtin.Tuple.tupleExact _) (wpAny_newObj_type (wpAny_pure (wpAny_pure ⟨_, rfl, wpAny_pure h⟩)) hsize))
    | exact wpAny_bind (wpAny_bind (m := Builtin.Tuple.tupleExact _) (wpAny_newObj_type (wpAny_pure ⟨_, rfl, wpAny_pure h⟩) hsize))
end
end HT
namespace L2
open PySem PySem.Spec PyProof.Rows
section
variable {X : Cx}
end
end L2
namespace PySem
open Sem (wp)
open Builtin Builtin.List Builtin.Tuple
namespace AutoSeq1
set_option maxRecDepth 8000 in
theorem extend_tup (l : Addr) (items : Array Value) (n : Nat) (b : Addr) (items2 : Array Value) (n2 : Nat) (dd : Option Addr) (sl : Array (Option Value)) (c0 : ¬(!items.isEmpty && Builtin.List.listTooLong (items.size + items2.size)) = true) (c1 : items.size ≤ sizeLine) (c2 : items.size + items2.size ≤ sizeLine + 1) :
    Meets (Builtin.«list.extend» ⟨[.ref l, .ref b], []⟩) (fun _ R s => s.heap.get? l = some { cls := .type "list", dict := none, data := .seq items n, slots := #[] } ∧ s.heap.get? b = some ⟨.type "tuple", dd, .seq items2 n2, sl⟩ ∧ R (.ok (.ret Value.none)) { s with heap := s.heap.update l (Obj.mapSeq fun x => x ++ items2) }) :=
  .of_wp fun prog w A R s h => by
    obtain ⟨hp, g, d, tk, os⟩ := s
    obtain ⟨hl, hb, h⟩ := h
    have f1 := idx_int
    have f2 := sub_tuple_tuple
    have f3 := sub_list_list
    have f4 := sub_tuple_list
    have f5 := sub_list_tuple
    have big : (items ++ items2).size ≤ sizeLine + 1 := by rw [Array.size_append]; exact c2
    wp_walk using (wpAny_updateSeq hl rfl (hz := c1) (_hz' := big)), wpAny_loadPart' hl, wpAny_loadPart' hb
    exact ⟨_, rfl, h⟩
end AutoSeq1
end PySem
namespace L2
open PySem PySem.Spec PyProof.Rows
section
variable {X : Cx}
/-- xs.extend(t), t a tuple -/
def rExtendT (K : PySem.W.Frag) : V → List V → Hp → VK → Prop := fun x vs H Q => ∃ l b xs zs, x = .ref l ∧ vs = [.ref b] ∧ H l = some (.lst xs) ∧ SqT K H b zs ∧ xs.length + zs.length ≤ sizeLine ∧ Q .non (upd H l (.lst (xs ++ zs)))
theorem mt_extendT : MtM X "list.extend" (rExtendT X.K) := by
  intro pins s σ H x vs v us Q I rx rv h
  obtain ⟨l, b, xs, zs, rfl, rfl, hH, hB, hz, q⟩ := h
  cases rx
  obtain ⟨u, rfl, ru⟩ := rv.one
  cases ru
  obtain ⟨z, its, n, r, hl, e⟩ := I.lstM hH
  obtain ⟨its2, r2, tp, hz2⟩ := I.tuple hB
  have hl2 := r2.length
  obtain ⟨⟨cls, dd, data, sl⟩, ho, hc, n2, hd⟩ := tp
  simp only at hc hd
  subst hc hd
  have hsz : its.toArray.size + its2.toArray.size ≤ sizeLine := by rw [List.size_toArray, List.size_toArray]; omega
  have hlong : ¬ (!its.toArray.isEmpty && Builtin.List.listTooLong (its.toArray.size + its2.toArray.size)) = true := by
    rw [notLongL hsz, Bool.and_false]
    exact Bool.false_ne_true
  refine call_meets F.slot_list_extend ⟨_, e, rfl⟩ F.entry_list_extend (F.args_list_extend_2 _ _) (AutoSeq1.extend_tup l its.toArray n b its2.toArray n2 dd sl hlong (by rw [List.size_toArray]; omega) (by omega)) ⟨e, ho, ?_⟩
  refine ⟨.non, _, I.lset (t' := s.toks) (its' := its ++ its2) hH e (by simp) (r.append r2) ?_, rfl, q⟩
  rw [List.length_append]
  omega
end
end L2
namespace L2
open PySem PySem.Spec PyProof.Rows
section
variable {κ : Type} [DecidableEq κ]



end




section
variable {P : Program} {w : World} {H : Hp} {h : Heap} {a : Addr}
end



section
variable {X : Cx} {pins : List (Addr × Obj)} {σ : St} {H : Hp} {s : Shared} {a : Addr} {y v : V} {u r : Value} {o : Option V} {A : Around} {E : Value → Shared → Prop}


end

section
variable {X : Cx} {pins : List (Addr × Obj)} {σ : St} {H : Hp} {s : Shared} {a : Addr} {kvs : List (Key × V)} {k : Key} {u : Value} {A : Around} {E : Value → Shared → Prop}
end





section
variable {X : Cx} {o i e value : Expr} {pos pos' tpos : Pos} {td ty tv : TE}
end


section
variable {X : Cx} {pos : Pos}
end






section
variable {X : Cx} {pins : List (Addr × Obj)} {σ : St} {H : Hp} {s : Shared} {a : Addr} {y d : V} {u r : Value} {o : Option V} {A : Around} {E : Value → Shared → Prop}
end

section
variable {X : Cx} {o e f : Expr} {apos cpos : Pos} {td ty tx : TE}
end

section
variable {X : Cx} {pins : List (Addr × Obj)} {σ : St} {H : Hp} {s : Shared} {a : Addr} {kvs : List (Key × V)} {A : Around} {E : Value → Shared → Prop}
end


section
variable {X : Cx} {pins : List (Addr × Obj)} {σ : St} {H : Hp} {s : Shared} {a : Addr} {y : V} {u : Value} {A : Around} {E : Value → Shared → Prop}
end
end L2
namespace L2
open PySem
section
variable {X : Cx}
end
section
variable {κ : Type} [DecidableEq κ]
end
end L2
namespace L3
open PySem L2

/-- a value: a tuple is its items; ref: a thing that can change -/
inductive PV where
  | non | bl (b : Bool) | int (i : Int) | str (x : Str) | tup (xs : List PV) | ref (a : Addr) | ty (n : String) | ro (xs : List PV)
/-- a thing that can change: a list of ours, a list that is read alone, a dict -/
inductive MO where
  | lst (xs : List PV) | rl (xs : List PV) | dK (kvs : List (Key × PV)) | rng (lo hi : Int)
abbrev Gp := Addr → Option MO
def up (G : Gp) (a : Addr) (o : MO) : Gp := fun b => if b = a then some o else G b
theorem up_same {G : Gp} {a : Addr} {o : MO} : up G a o a = some o := by unfold up; rw [if_pos rfl]
theorem up_ne {G : Gp} {a b : Addr} {o : MO} (h : b ≠ a) : up G a o b = G b := by unfold up; rw [if_neg h]
theorem up_up {G : Gp} {a : Addr} {o u : MO} : up (up G a o) a u = up G a u := by
  funext b; unfold up; split <;> rfl

/-- a list that never changes: frozen, or the module's -/
def FzL (K : PySem.W.Frag) (H : Hp) (a : Addr) (xs : List V) : Prop :=
  (∃ o, H a = some (.frz o (.lst xs))) ∨ ∃ (o : Obj) (its : Array Value) (n : Nat), K.lookup a = some o ∧ o.cls = .type "list" ∧ o.dict = none ∧ o.data = .seq its n ∧ its.size ≤ sizeLine ∧ Vals xs its.toList
theorem FzL.sq {K : PySem.W.Frag} {H : Hp} {a : Addr} {xs : List V} (h : FzL K H a xs) : SqL K H a xs := by
  rcases h with ⟨o, h⟩ | h
  · exact .inl (.inr ⟨o, h⟩)
  · exact .inr h
mutual
/-- v bears p -/
def Dv (K : PySem.W.Frag) (H : Hp) : PV → V → Prop
  | .non, v => v = .non
  | .bl b, v => v = .bl b
  | .int i, v => v = .int i
  | .str x, v => v = .str x
  | .tup ps, v => ∃ a vs, v = .ref a ∧ SqT K H a vs ∧ Dvs K H ps vs
  | .ref a, v => v = .ref a
  | .ty n, v => v = .ty n
  | .ro ps, v => ∃ a vs, v = .ref a ∧ FzL K H a vs ∧ Dvs K H ps vs
def Dvs (K : PySem.W.Frag) (H : Hp) : List PV → List V → Prop
  | [], vs => vs = []
  | p :: ps, vs => ∃ v r, vs = v :: r ∧ Dv K H p v ∧ Dvs K H ps r
end
/-- tuples stay -/
def Keep (K : PySem.W.Frag) (H H' : Hp) : Prop := (∀ a xs, SqT K H a xs → SqT K H' a xs) ∧ ∀ a o u, H a = some (.frz o u) → H' a = some (.frz o u)
section
variable {K : PySem.W.Frag} {H H' H1 H2 : Hp}
theorem Keep.refl : Keep K H H := ⟨fun _ _ h => h, fun _ _ _ h => h⟩
theorem Keep.trans (a : Keep K H H1) (b : Keep K H1 H2) : Keep K H H2 := ⟨fun c xs h => b.1 c xs (a.1 c xs h), fun c o u h => b.2 c o u (a.2 c o u h)⟩
theorem keep_mut {p : Addr} {o : HO} (h : ∀ xs, ¬ Rd H p (.tup xs)) (hf : ∀ o u, H p ≠ some (.frz o u)) : Keep K H (upd H p o) := ⟨fun a xs q => by
  rcases q with q | q
  · have ne : a ≠ p := fun z => by subst z; exact h xs q
    refine .inl ?_
    rcases q with q | ⟨o', q⟩
    · exact .inl (by rw [upd_ne ne]; exact q)
    · exact .inr ⟨o', by rw [upd_ne ne]; exact q⟩
  · exact .inr q, fun a o' u q => by
  have ne : a ≠ p := fun z => by subst z; exact hf o' u q
  rw [upd_ne ne]; exact q⟩
theorem FzL.keep {a : Addr} {xs : List V} (k : Keep K H H') (h : FzL K H a xs) : FzL K H' a xs := by
  rcases h with ⟨o, h⟩ | h
  · exact .inl ⟨o, k.2 _ _ _ h⟩
  · exact .inr h
theorem keep_new {p : Addr} {o : HO} (h : H p = none) : Keep K H (upd H p o) := keep_mut (fun xs q => by
  rcases q with q | ⟨o', q⟩ <;> (rw [h] at q; cases q)) fun o u q => by rw [h] at q; cases q
theorem keep_lst {p : Addr} {o : HO} {ys : List V} (h : H p = some (.lst ys)) : Keep K H (upd H p o) := keep_mut (fun xs q => by
  rcases q with q | ⟨o', q⟩ <;> (rw [h] at q; cases q)) fun o u q => by rw [h] at q; cases q
mutual
theorem Dv.keep (k : Keep K H H') : ∀ (p : PV) {v : V}, Dv K H p v → Dv K H' p v
  | .non, _, h => h
  | .bl _, _, h => h
  | .int _, _, h => h
  | .str _, _, h => h
  | .tup ps, _, h => by
    obtain ⟨a, vs, e, q, r⟩ := h
    exact ⟨a, vs, e, k.1 a vs q, Dvs.keep k ps r⟩
  | .ref _, _, h => h
  | .ty _, _, h => h
  | .ro ps, _, h => by
    obtain ⟨a, vs, e, q, r⟩ := h
    exact ⟨a, vs, e, q.keep k, Dvs.keep k ps r⟩
theorem Dvs.keep (k : Keep K H H') : ∀ (ps : List PV) {vs : List V}, Dvs K H ps vs → Dvs K H' ps vs
  | [], _, h => h
  | p :: ps, _, h => by
    obtain ⟨v, r, e, q, z⟩ := h
    exact ⟨v, r, e, Dv.keep k p q, Dvs.keep k ps z⟩
end
theorem Dvs.length : ∀ {ps : List PV} {vs : List V}, Dvs K H ps vs → vs.length = ps.length
  | [], _, h => by rw [show _ = [] from h]; rfl
  | p :: ps, _, h => by
    obtain ⟨v, r, rfl, _, z⟩ := h
    rw [List.length_cons, List.length_cons, Dvs.length z]
theorem Dvs.get : ∀ {ps : List PV} {vs : List V} {i : Nat} {v : V}, Dvs K H ps vs → vs[i]? = some v → ∃ p, ps[i]? = some p ∧ Dv K H p v
  | [], _, i, v, h, e => by rw [show _ = [] from h] at e; simp at e
  | p :: ps, _, 0, v, h, e => by
    obtain ⟨v', r, rfl, q, z⟩ := h
    have : v' = v := by simpa using e
    subst this
    exact ⟨p, rfl, q⟩
  | p :: ps, _, i + 1, v, h, e => by
    obtain ⟨v', r, rfl, q, z⟩ := h
    obtain ⟨p', e1, q1⟩ := Dvs.get (i := i) z (by simpa using e)
    exact ⟨p', by simpa using e1, q1⟩
theorem Dvs.at : ∀ {ps : List PV} {vs : List V} {i : Nat} {p : PV}, Dvs K H ps vs → ps[i]? = some p → ∃ v, vs[i]? = some v ∧ Dv K H p v := fun {ps vs i p} h e => by
  have hl := h.length
  have hi : i < vs.length := by rw [hl]; exact (List.getElem?_eq_some_iff.mp e).1
  obtain ⟨p', e', q⟩ := h.get (List.getElem?_eq_getElem hi)
  rw [e] at e'; cases e'
  exact ⟨_, List.getElem?_eq_getElem hi, q⟩
theorem Dvs.append : ∀ {ps qs : List PV} {vs us : List V}, Dvs K H ps vs → Dvs K H qs us → Dvs K H (ps ++ qs) (vs ++ us)
  | [], _, _, _, h, g => by rw [show _ = [] from h]; exact g
  | p :: ps, _, _, _, h, g => by
    obtain ⟨v, r, rfl, q, z⟩ := h
    exact ⟨v, r ++ _, rfl, q, Dvs.append z g⟩
theorem Dvs.nil : Dvs K H [] [] := rfl
theorem Dvs.cons {p : PV} {ps : List PV} {v : V} {vs : List V} (a : Dv K H p v) (b : Dvs K H ps vs) : Dvs K H (p :: ps) (v :: vs) := ⟨v, vs, rfl, a, b⟩
theorem Dvs.take : ∀ {ps : List PV} {vs : List V} (n : Nat), Dvs K H ps vs → Dvs K H (ps.take n) (vs.take n)
  | _, _, 0, _ => rfl
  | [], _, n + 1, h => by rw [show _ = [] from h]; rfl
  | p :: ps, _, n + 1, h => by
    obtain ⟨v, r, rfl, q, z⟩ := h
    exact ⟨v, _, rfl, q, Dvs.take n z⟩
theorem Dvs.drop : ∀ {ps : List PV} {vs : List V} (n : Nat), Dvs K H ps vs → Dvs K H (ps.drop n) (vs.drop n)
  | _, _, 0, h => h
  | [], _, n + 1, h => by rw [show _ = [] from h]; rfl
  | p :: ps, _, n + 1, h => by
    obtain ⟨v, r, rfl, q, z⟩ := h
    exact Dvs.drop n z
theorem Dvs.reverse : ∀ {ps : List PV} {vs : List V}, Dvs K H ps vs → Dvs K H ps.reverse vs.reverse
  | [], _, h => by rw [show _ = [] from h]; rfl
  | p :: ps, _, h => by
    obtain ⟨v, r, rfl, q, z⟩ := h
    rw [List.reverse_cons, List.reverse_cons]
    exact (Dvs.reverse z).append (.cons q .nil)
theorem Dvs.set {p : PV} {v : V} (a : Dv K H p v) : ∀ {ps : List PV} {vs : List V} (i : Nat), Dvs K H ps vs → Dvs K H (ps.set i p) (vs.set i v)
  | [], _, _, h => by rw [show _ = [] from h]; rfl
  | q :: ps, _, 0, h => by
    obtain ⟨v', r, rfl, _, z⟩ := h
    exact ⟨v, r, rfl, a, z⟩
  | q :: ps, _, i + 1, h => by
    obtain ⟨v', r, rfl, b, z⟩ := h
    exact ⟨v', _, rfl, b, Dvs.set a i z⟩
end

/-- what can change, as the first layer's heap bears it -/
def DKv (K : PySem.W.Frag) (H : Hp) : List (Key × PV) → List (Key × V) → Prop
  | [], vs => vs = []
  | (k, p) :: ps, vs => ∃ v r, vs = (k, v) :: r ∧ Dv K H p v ∧ DKv K H ps r
def RepO (K : PySem.W.Frag) (H : Hp) (a : Addr) : MO → Prop
  | .lst ps => ∃ vs, H a = some (.lst vs) ∧ Dvs K H ps vs
  | .rl ps => ∃ vs, Rd H a (.lst vs) ∧ Dvs K H ps vs
  | .dK kvs => ∃ vs, H a = some (.dK vs) ∧ DKv K H kvs vs
  | .rng lo hi => H a = some (.rng lo hi)
def Rep (K : PySem.W.Frag) (H : Hp) (G : Gp) : Prop := ∀ a o, G a = some o → RepO K H a o
section
variable {K : PySem.W.Frag} {H H' : Hp} {G G' : Gp} {p : Addr}
theorem DKv.keep (k : Keep K H H') : ∀ (ps : List (Key × PV)) {vs : List (Key × V)}, DKv K H ps vs → DKv K H' ps vs
  | [], _, h => h
  | (x, p) :: ps, _, h => by
    obtain ⟨v, r, e, q, z⟩ := h
    exact ⟨v, r, e, Dv.keep k p q, DKv.keep k ps z⟩
theorem RepO.some {o : MO} (h : RepO K H p o) : ∃ u, H p = some u := by
  cases o with
  | lst ps => obtain ⟨vs, e, _⟩ := h; exact ⟨_, e⟩
  | rl ps =>
    obtain ⟨vs, e, _⟩ := h
    rcases e with e | ⟨o, e⟩
    · exact ⟨_, e⟩
    · exact ⟨_, e⟩
  | dK ps => obtain ⟨vs, e, _⟩ := h; exact ⟨_, e⟩
  | rng lo hi => exact ⟨_, h⟩
theorem Rep.none (r : Rep K H G) (h : H p = none) : G p = none := by
  cases e : G p with
  | none => rfl
  | some o =>
    obtain ⟨u, z⟩ := (r p o e).some
    rw [h] at z; cases z
theorem RepO.upd {a : Addr} {o : MO} {ho : HO} (k : Keep K H (upd H p ho)) (ne : a ≠ p) (h : RepO K H a o) : RepO K (L2.upd H p ho) a o := by
  cases o with
  | lst ps => obtain ⟨vs, e, d⟩ := h; exact ⟨vs, by rw [upd_ne ne]; exact e, d.keep k⟩
  | rl ps =>
    obtain ⟨vs, e, d⟩ := h
    refine ⟨vs, ?_, d.keep k⟩
    rcases e with e | ⟨o, e⟩
    · exact .inl (by rw [upd_ne ne]; exact e)
    · exact .inr ⟨o, by rw [upd_ne ne]; exact e⟩
  | dK ps => obtain ⟨vs, e, d⟩ := h; exact ⟨vs, by rw [upd_ne ne]; exact e, d.keep k⟩
  | rng lo hi => show L2.upd H p ho a = _; rw [upd_ne ne]; exact h
theorem Rep.upd {ho : HO} (r : Rep K H G) (k : Keep K H (upd H p ho)) (hG : ∀ a o, G' a = some o → a ≠ p → G a = some o) (hp : ∀ o, G' p = some o → RepO K (L2.upd H p ho) p o) : Rep K (L2.upd H p ho) G' := fun a o e => by
  by_cases hb : a = p
  · subst hb; exact hp o e
  · exact (r a o (hG a o e hb)).upd k hb
/-- a tuple laid -/
theorem Rep.tup {vs : List V} (r : Rep K H G) (h : H p = Option.none) : Rep K (L2.upd H p (.tup vs)) G := r.upd (keep_new h) (fun _ _ e _ => e) fun o e => by rw [r.none h] at e; cases e
/-- a list laid -/
theorem Rep.new {vs : List V} {ps : List PV} (r : Rep K H G) (h : H p = Option.none) (d : Dvs K H ps vs) : Rep K (L2.upd H p (.lst vs)) (up G p (.lst ps)) := by
  refine r.upd (keep_new h) (fun a o e ne => by rw [up_ne ne] at e; exact e) fun o e => ?_
  rw [up_same] at e; cases e
  exact ⟨vs, upd_same, d.keep (keep_new h)⟩
/-- a list written -/
theorem Rep.put {vs vs0 : List V} {ps : List PV} (r : Rep K H G) (h : H p = Option.some (.lst vs0)) (d : Dvs K H ps vs) : Rep K (L2.upd H p (.lst vs)) (up G p (.lst ps)) := by
  refine r.upd (keep_lst h) (fun a o e ne => by rw [up_ne ne] at e; exact e) fun o e => ?_
  rw [up_same] at e; cases e
  exact ⟨vs, upd_same, d.keep (keep_lst h)⟩
theorem Rep.sub (r : Rep K H G) (h : ∀ a o, G' a = Option.some o → G a = Option.some o) : Rep K H G' := fun a o e => r a o (h a o e)
theorem Rep.lst {ps : List PV} {a : Addr} (r : Rep K H G) (h : G a = Option.some (.lst ps)) : ∃ vs, H a = Option.some (.lst vs) ∧ Dvs K H ps vs := r a _ h
end

abbrev St2 := List (Option PV)
abbrev K2 := PV → Gp → Prop
abbrev E2 := St2 → Gp → K2 → Prop
abbrev T2 := St2 → Gp → (Bool → Gp → Prop) → Prop
abbrev A2 := St2 → Gp → (List PV → Gp → Prop) → Prop
structure D2 where
  nx : St2 → Gp → Prop
  rt : K2
  bk : St2 → Gp → Prop := fun _ _ => False
  ct : St2 → Gp → Prop := fun _ _ => False
abbrev S2 := D2 → St2 → Gp → Prop
/-- the i-th slot; the i-th slot stored -/
@[reducible] def gt : St2 → Nat → Option PV
  | [], _ => none
  | x :: _, 0 => x
  | _ :: r, n + 1 => gt r n
@[reducible] def st : St2 → Nat → Option PV → St2
  | [], _, _ => []
  | _ :: r, 0, v => v :: r
  | x :: r, n + 1, v => x :: st r n v
theorem gt_eq : ∀ (τ : St2) (i : Nat), gt τ i = (τ[i]?).getD none
  | [], i => by simp [gt]
  | x :: _, 0 => by simp [gt]
  | _ :: r, n + 1 => by simp [gt, gt_eq r n]
theorem gt_some {τ : St2} {i : Nat} {p : PV} (h : gt τ i = some p) : τ[i]? = some (some p) := by
  rw [gt_eq] at h
  cases e : τ[i]? with
  | none => rw [e] at h; cases h
  | some z => rw [e] at h; exact congrArg some h
theorem st_set : ∀ (τ : St2) (i : Nat) (v : Option PV), st τ i v = τ.set i v
  | [], _, _ => rfl
  | _ :: _, 0, _ => rfl
  | x :: r, n + 1, v => by simp [st, st_set r n v]
def RSt (K : PySem.W.Frag) (H : Hp) (σ : St) (τ : St2) : Prop := τ.length = σ.length ∧ ∀ (i : Nat) p, τ[i]? = some (some p) → ∃ v, σ[i]? = some (some v) ∧ Dv K H p v
theorem RSt.keep {K : PySem.W.Frag} {H H' : Hp} {σ : St} {τ : St2} (r : RSt K H σ τ) (k : Keep K H H') : RSt K H' σ τ := ⟨r.1, fun i p e => let ⟨v, a, b⟩ := r.2 i p e; ⟨v, a, b.keep k⟩⟩
theorem RSt.set0 {K : PySem.W.Frag} {H : Hp} {σ : St} {τ : St2} {p : PV} {v : V} (r : RSt K H σ τ) (d : Dv K H p v) (i : Nat) : RSt K H (σ.set i (some v)) (τ.set i (some p)) := by
  refine ⟨by simp [r.1], fun j q e => ?_⟩
  by_cases hj : i = j
  · subst hj
    have hi : i < τ.length := by
      have := (List.getElem?_eq_some_iff.mp e).1
      simpa using this
    rw [List.getElem?_set_self hi] at e
    cases e
    exact ⟨v, by rw [List.getElem?_set_self (by rw [← r.1]; exact hi)], d⟩
  · rw [List.getElem?_set_ne hj] at e ⊢
    exact r.2 j q e
theorem RSt.set {K : PySem.W.Frag} {H : Hp} {σ : St} {τ : St2} {p : PV} {v : V} (r : RSt K H σ τ) (d : Dv K H p v) (i : Nat) : RSt K H (σ.set i (some v)) (st τ i (some p)) := by
  rw [st_set]; exact r.set0 d i
def Cl (K : PySem.W.Frag) (H : Hp) (Q2 : K2) (Q : VK) : Prop := ∀ p G v H', Q2 p G → Dv K H' p v → Rep K H' G → Keep K H H' → Q v H'
def ClT (K : PySem.W.Frag) (H : Hp) (Q2 : Bool → Gp → Prop) (Q : Bool → Hp → Prop) : Prop := ∀ b G H', Q2 b G → Rep K H' G → Keep K H H' → Q b H'
def ClS (K : PySem.W.Frag) (H : Hp) (Q2 : St2 → Gp → Prop) (Q : St → Hp → Prop) : Prop := ∀ τ G σ H', Q2 τ G → RSt K H' σ τ → Rep K H' G → Keep K H H' → Q σ H'
theorem Cl.keep {K : PySem.W.Frag} {H H' : Hp} {Q2 : K2} {Q : VK} (c : Cl K H Q2 Q) (k : Keep K H H') : Cl K H' Q2 Q := fun p G v H2 q d r k2 => c p G v H2 q d r (k.trans k2)
theorem ClT.keep {K : PySem.W.Frag} {H H' : Hp} {Q2 : Bool → Gp → Prop} {Q : Bool → Hp → Prop} (c : ClT K H Q2 Q) (k : Keep K H H') : ClT K H' Q2 Q := fun p G H2 q r k2 => c p G H2 q r (k.trans k2)
theorem ClS.keep {K : PySem.W.Frag} {H H' : Hp} {Q2 : St2 → Gp → Prop} {Q : St → Hp → Prop} (c : ClS K H Q2 Q) (k : Keep K H H') : ClS K H' Q2 Q := fun p G v H2 q d r k2 => c p G v H2 q d r (k.trans k2)
def lowE (K : PySem.W.Frag) (t : E2) : TE := fun σ H Q => ∃ τ G Q2, RSt K H σ τ ∧ Rep K H G ∧ t τ G Q2 ∧ Cl K H Q2 Q
def lowT (K : PySem.W.Frag) (t : T2) : TT := fun σ H Q => ∃ τ G Q2, RSt K H σ τ ∧ Rep K H G ∧ t τ G Q2 ∧ ClT K H Q2 Q
def lowA (K : PySem.W.Frag) (t : A2) : TA := fun σ H Q => ∃ τ G Q2, RSt K H σ τ ∧ Rep K H G ∧ t τ G Q2 ∧ ∀ ps G' vs H', Q2 ps G' → Dvs K H' ps vs → Rep K H' G' → Keep K H H' → Q vs H'
structure ClD (K : PySem.W.Frag) (H : Hp) (D2 : D2) (D : Ends) : Prop where
  nx : ClS K H D2.nx D.nx
  rt : Cl K H D2.rt D.rt
  bk : ClS K H D2.bk D.bk
  ct : ClS K H D2.ct D.ct
theorem ClD.keep {K : PySem.W.Frag} {H H' : Hp} {Q2 : L3.D2} {Q : Ends} (c : ClD K H Q2 Q) (k : Keep K H H') : ClD K H' Q2 Q := ⟨c.nx.keep k, c.rt.keep k, c.bk.keep k, c.ct.keep k⟩
def lowS (K : PySem.W.Frag) (t : S2) : TS := fun D σ H => ∃ τ G D2, RSt K H σ τ ∧ Rep K H G ∧ t D2 τ G ∧ ClD K H D2 D
structure JE (X : Cx) (e : Expr) (t : E2) : Prop where
  h : PE X e (lowE X.K t)
structure JT (X : Cx) (e : Expr) (t : T2) : Prop where
  h : PT X e (lowT X.K t)
structure JW (X : Cx) (e : Expr) (t : T2) : Prop where
  h : PW X e (lowT X.K t)
structure JA (X : Cx) (es : List Expr) (t : A2) : Prop where
  h : PA X es (lowA X.K t)
structure JS (X : Cx) (st : Stmt) (t : S2) : Prop where
  h : PS X st (lowS X.K t)
structure JB (X : Cx) (st : List Stmt) (t : S2) : Prop where
  h : PSs X st (lowS X.K t)
section
variable {X : Cx} {e : Expr}
theorem JE.of {t : E2} {u : TE} (h : PE X e u) (w : ∀ σ H Q, lowE X.K t σ H Q → u σ H Q) : JE X e t := ⟨fun pins s σ H Q I q => h pins s σ H Q I (w σ H Q q)⟩
theorem JT.of {t : T2} {u : TT} (h : PT X e u) (w : ∀ σ H Q, lowT X.K t σ H Q → u σ H Q) : JT X e t := ⟨fun pins s σ H Q I q => h pins s σ H Q I (w σ H Q q)⟩
theorem JW.of {t : T2} {u : TT} (h : PW X e u) (w : ∀ σ H Q, lowT X.K t σ H Q → u σ H Q) : JW X e t := ⟨fun wh pins s σ H Q I q => h wh pins s σ H Q I (w σ H Q q)⟩
theorem JA.of {es : List Expr} {t : A2} {u : TA} (h : PA X es u) (w : ∀ σ H Q, lowA X.K t σ H Q → u σ H Q) : JA X es t := ⟨fun pos pins s σ H Q I q => h pos pins s σ H Q I (w σ H Q q)⟩
theorem JS.of {st : Stmt} {t : S2} {u : TS} (h : PS X st u) (w : ∀ D σ H, lowS X.K t D σ H → u D σ H) : JS X st t := ⟨fun pins s σ H D I q => h pins s σ H D I (w D σ H q)⟩
theorem JB.of {st : List Stmt} {t : S2} {u : TS} (h : PSs X st u) (w : ∀ D σ H, lowS X.K t D σ H → u D σ H) : JB X st t := ⟨fun pins s σ H D I q => h pins s σ H D I (w D σ H q)⟩
end

/-- two ways -/
def way2 (b : Bool) (A B : Prop) : Prop := match b with
  | true => A
  | false => B
theorem ifT {c : Bool} {A B : Prop} (e : c = true) (h : A) : way2 c A B := by subst e; exact h
theorem ifF {c : Bool} {A B : Prop} (e : c = false) (h : B) : way2 c A B := by subst e; exact h
theorem ifB {c : Bool} {A B : Prop} (h : c = true → A) (h2 : c = false → B) : way2 c A B := by cases c with | true => exact h rfl | false => exact h2 rfl
abbrev eV (i : Nat) : E2 := fun τ G Q => match gt τ i with
  | some p => Q p G
  | none => False
abbrev eC (p : PV) : E2 := fun _ G Q => Q p G
abbrev aNil : A2 := fun _ G Q => Q [] G
abbrev aCons (t : E2) (u : A2) : A2 := fun τ G Q => t τ G fun p G1 => u τ G1 fun ps G2 => Q (p :: ps) G2
abbrev eTup (t : A2) : E2 := fun τ G Q => t τ G fun ps G1 => ps.length ≤ 1000 ∧ Q (.tup ps) G1
abbrev eLst (t : A2) : E2 := fun τ G Q => t τ G fun ps G1 => ps.length ≤ 1000 ∧ ∀ p, G1 p = none → Q (.ref p) (up G1 p (.lst ps))
abbrev B2 := PV → PV → Gp → K2 → Prop
def lowB (K : PySem.W.Frag) (r : B2) : R2 := fun x y H Q => ∃ p q G Q2, Dv K H p x ∧ Dv K H q y ∧ Rep K H G ∧ r p q G Q2 ∧ Cl K H Q2 Q
abbrev eOp (r : B2) (ta tb : E2) : E2 := fun τ G Q => ta τ G fun x G1 => tb τ G1 fun y G2 => r x y G2 Q
abbrev U2 := PV → Gp → K2 → Prop
def lowU (K : PySem.W.Frag) (r : U2) : V → Hp → VK → Prop := fun x H Q => ∃ p G Q2, Dv K H p x ∧ Rep K H G ∧ r p G Q2 ∧ Cl K H Q2 Q
abbrev eUn (r : U2) (ta : E2) : E2 := fun τ G Q => ta τ G fun x G1 => r x G1 Q
abbrev C2 := List PV → Gp → K2 → Prop
def lowC (K : PySem.W.Frag) (r : C2) : List V → Hp → VK → Prop := fun xs H Q => ∃ ps G Q2, Dvs K H ps xs ∧ Rep K H G ∧ r ps G Q2 ∧ Cl K H Q2 Q
abbrev eCl (r : C2) (t : A2) : E2 := fun τ G Q => t τ G fun ps G1 => r ps G1 Q
abbrev M2 := PV → List PV → Gp → K2 → Prop
def lowM (K : PySem.W.Frag) (r : M2) : V → List V → Hp → VK → Prop := fun x xs H Q => ∃ p ps G Q2, Dv K H p x ∧ Dvs K H ps xs ∧ Rep K H G ∧ r p ps G Q2 ∧ Cl K H Q2 Q
abbrev tBl (t : E2) : T2 := fun τ G Q => t τ G fun x G1 => match x with
  | .bl b => Q b G1
  | _ => False
abbrev tNo (t : T2) : T2 := fun τ G Q => t τ G fun b G1 => Q (!b) G1
abbrev tOr2 (t u : T2) : T2 := fun τ G Q => t τ G fun b G1 => way2 b (Q true G1) (u τ G1 Q)
abbrev tAnd2 (t u : T2) : T2 := fun τ G Q => t τ G fun b G1 => way2 b (u τ G1 Q) (Q false G1)
abbrev eNo (t : E2) : E2 := fun τ G Q => t τ G fun x G1 => match x with
  | .bl b => Q (.bl (!b)) G1
  | _ => False
abbrev eOr2 (t u : E2) : E2 := fun τ G Q => t τ G fun x G1 => match x with
  | .bl b => way2 b (Q (.bl true) G1) (u τ G1 Q)
  | _ => False
abbrev eAnd2 (t u : E2) : E2 := fun τ G Q => t τ G fun x G1 => match x with
  | .bl b => way2 b (u τ G1 Q) (Q (.bl false) G1)
  | _ => False
abbrev eIf2 (c : T2) (t u : E2) : E2 := fun τ G Q => c τ G fun b G1 => way2 b (t τ G1 Q) (u τ G1 Q)
section
variable {X : Cx} {a b c e : Expr} {es : List Expr} {ta tb : E2} {t : A2} {tA tB : T2} {pos p : Pos} {x : Str}
theorem jv (i : Nat) (hN : X.N[i]? = some x := by rfl) (hv : Vis X.env.scope x := by first | exact Or.inl rfl | exact Or.inr (Or.inl rfl) | exact Or.inr (Or.inr rfl)) (hd : (x == ("__debug__" : Str)) = false := by decide)
    (hcd : (x == ("__classdict__" : Str)) = false := by decide) : JE X (.Name x pos) (eV i) := .of (pe_var hN hv hd hcd) fun σ H Q ⟨τ, G, Q2, rs, rp, h, cl⟩ => by
  unfold eV at h
  split at h
  · rename_i p e
    obtain ⟨v, ev, d⟩ := rs.2 i p (gt_some e)
    exact ⟨v, ev, cl _ _ _ _ h d rp .refl⟩
  · exact h.elim
theorem JE.const {p : PV} {v : V} (h : PE X e (tC v)) (d : ∀ H, Dv X.K H p v) : JE X e (eC p) := .of h fun σ H Q ⟨τ, G, Q2, rs, rp, q, cl⟩ => cl _ _ _ _ q (d H) rp .refl
theorem j_int {i : Int} {j : Nat} : JE X (.Constant (.int i) j pos) (eC (.int i)) := .const pe_int fun _ => rfl
theorem j_bl {v : Bool} {j : Nat} : JE X (.Constant (.bool v) j pos) (eC (.bl v)) := .const pe_bl fun _ => rfl
theorem j_str {z : Str} {j : Nat} : JE X (.Constant (.str z) j pos) (eC (.str z)) := .const pe_str fun _ => rfl
theorem j_glob {v : V} {q : PV} {u : Value} (hm : X.mg x = some u) (r : RelV v u) (d : ∀ H, Dv X.K H q v) (hg : Gl X x := by rfl) (hd : (x == ("__debug__" : Str)) = false := by decide) : JE X (.Name x pos) (eC q) := .const (pe_glob hg hm r hd) d
theorem j_ty {T : String} (hm : X.mg x = none) (hv : bootBuiltins x = some (.type T)) (hg : Gl X x := by rfl) (hn : x ≠ "__name__" := by decide) (hd : (x == ("__debug__" : Str)) = false := by decide) : JE X (.Name x pos) (eC (.ty T)) :=
  .const (pe_bltn (v := .ty T) hg hm hv rfl hn hd) fun _ => rfl
theorem ja_nil : JA X [] aNil := .of pa_nil fun σ H Q ⟨τ, G, Q2, rs, rp, q, cl⟩ => cl _ _ _ _ q .nil rp .refl
theorem ja_cons (ha : JE X e ta) (hr : JA X es t) (hs : starEach (e :: es) X.env = (false, eval e X.env) :: starEach es X.env := by rfl) : JA X (e :: es) (aCons ta t) := .of (pa_cons ha.h hr.h hs) fun σ H Q ⟨τ, G, Q2, rs, rp, q, cl⟩ => by
  refine ⟨τ, G, _, rs, rp, q, fun p G1 v H1 q1 d1 r1 k1 => ?_⟩
  exact ⟨τ, G1, _, rs.keep k1, r1, q1, fun ps G2 vs H2 q2 d2 r2 k2 => cl _ _ _ _ q2 (.cons (d1.keep k2) d2) r2 (k1.trans k2)⟩
theorem j_tup {x1 : Nat} (h : JA X es t) : JE X (.Tuple es x1 pos) (eTup t) := .of (pe_tup h.h) fun σ H Q ⟨τ, G, Q2, rs, rp, q, cl⟩ => by
  refine ⟨τ, G, _, rs, rp, q, fun ps G1 vs H1 q1 d1 r1 k1 => ?_⟩
  obtain ⟨hl, q1⟩ := q1
  refine ⟨by rw [d1.length]; exact Nat.le_trans hl (by decide), fun a ha => ?_⟩
  have kn : Keep X.K H1 (upd H1 a (.tup vs)) := keep_new ha
  exact cl _ _ _ _ q1 ⟨a, vs, rfl, .of upd_same, d1.keep kn⟩ (r1.tup ha) (k1.trans kn)
theorem j_lst (h : JA X es t) : JE X (.List es pos) (eLst t) := .of (pe_lst h.h) fun σ H Q ⟨τ, G, Q2, rs, rp, q, cl⟩ => by
  refine ⟨τ, G, _, rs, rp, q, fun ps G1 vs H1 q1 d1 r1 k1 => ?_⟩
  obtain ⟨hl, q1⟩ := q1
  refine ⟨by rw [d1.length]; exact Nat.le_trans hl (by decide), fun a ha => ?_⟩
  have kn : Keep X.K H1 (upd H1 a (.lst vs)) := keep_new ha
  exact cl _ _ _ _ (q1 a (r1.none ha)) rfl (r1.new ha d1) (k1.trans kn)
theorem low_op {r : B2} {σ : St} {H : Hp} {Q : VK} (q : lowE X.K (eOp r ta tb) σ H Q) : tOp (lowB X.K r) (lowE X.K ta) (lowE X.K tb) σ H Q := by
  obtain ⟨τ, G, Q2, rs, rp, q, cl⟩ := q
  refine ⟨τ, G, _, rs, rp, q, fun p G1 v H1 q1 d1 r1 k1 => ⟨τ, G1, _, rs.keep k1, r1, q1, fun p2 G2 v2 H2 q2 d2 r2 k2 => ?_⟩⟩
  exact ⟨p, p2, G2, Q2, d1.keep k2, d2, r2, q2, cl.keep (k1.trans k2)⟩
theorem j_op {op : Operator} {r : B2} (ho : OpR X (binaryOp op) (lowB X.K r)) (ha : JE X a ta) (hb : JE X b tb) : JE X (.BinOp a op b pos) (eOp r ta tb) := .of (pe_op ho ha.h hb.h) fun σ H Q q => low_op q
theorem j_cmp {op : CmpOp} {r : B2} (ho : OpR X (compareOp op) (lowB X.K r)) (ha : JE X a ta) (hb : JE X b tb) (hm : behindInMarks op b = false) : JE X (.Compare a [op] [b] pos) (eOp r ta tb) := .of (pe_cmpR ho ha.h hb.h hm) fun σ H Q q => low_op q
theorem low_tBl {u : TE} (w : ∀ σ H Q, lowE X.K ta σ H Q → u σ H Q) {σ : St} {H : Hp} {Q : Bool → Hp → Prop} (q : lowT X.K (tBl ta) σ H Q) : tTest u σ H Q := by
  obtain ⟨τ, G, Q2, rs, rp, q, cl⟩ := q
  refine w _ _ _ ⟨τ, G, _, rs, rp, q, fun p G1 v H1 q1 d1 r1 k1 => ?_⟩
  cases p with
  | bl b =>
    obtain rfl : v = .bl b := d1
    exact ⟨b, rfl, cl _ _ _ q1 r1 k1⟩
  | _ => exact False.elim q1
theorem jt_cmp {op : CmpOp} {r : B2} (ho : OpR X (compareOp op) (lowB X.K r)) (ha : JE X a ta) (hb : JE X b tb) (hm : behindInMarks op b = false) : JT X (.Compare a [op] [b] pos) (tBl (eOp r ta tb)) := .of (pt_cmpR ho ha.h hb.h hm) fun σ H Q q => low_tBl (fun _ _ _ z => low_op z) q
theorem jt_val (h : JE X e ta) (he : ∀ whole, isTrue e X.env whole = (do let v ← whole; standAt e.pos; holding [v] (truthy v)) := by intro _; rfl) : JT X e (tBl ta) := .of (pt_val h.h he) fun σ H Q q => low_tBl (fun _ _ _ z => z) q
theorem jt_not (ha : JT X a tA) : JT X (.UnaryOp .Not a pos) (tNo tA) := .of (pt_not ha.h) fun σ H Q ⟨τ, G, Q2, rs, rp, q, cl⟩ => ⟨τ, G, _, rs, rp, q, fun b G1 H1 q1 r1 k1 => cl _ _ _ q1 r1 k1⟩
theorem jw_or1 (ha : JT X a tA) : JW X (.BoolOp .Or [a] pos) tA := ⟨pw_or1 ha.h⟩
theorem jw_and1 (ha : JT X a tA) : JW X (.BoolOp .And [a] pos) tA := ⟨pw_and1 ha.h⟩
theorem jw_or {rest : List Expr} (ha : JT X a tA) (hb : JW X (.BoolOp .Or (b :: rest) pos) tB) : JW X (.BoolOp .Or (a :: b :: rest) pos) (tOr2 tA tB) := .of (pw_or ha.h hb.h) fun σ H Q ⟨τ, G, Q2, rs, rp, q, cl⟩ => by
  refine ⟨τ, G, _, rs, rp, q, fun b G1 H1 q1 r1 k1 => ?_⟩
  cases b with
  | true => exact iteT (cl _ _ _ q1 r1 k1)
  | false => exact iteF ⟨τ, G1, Q2, rs.keep k1, r1, q1, cl.keep k1⟩
theorem jw_and {rest : List Expr} (ha : JT X a tA) (hb : JW X (.BoolOp .And (b :: rest) pos) tB) : JW X (.BoolOp .And (a :: b :: rest) pos) (tAnd2 tA tB) := .of (pw_and ha.h hb.h) fun σ H Q ⟨τ, G, Q2, rs, rp, q, cl⟩ => by
  refine ⟨τ, G, _, rs, rp, q, fun b G1 H1 q1 r1 k1 => ?_⟩
  cases b with
  | true => exact iteT ⟨τ, G1, Q2, rs.keep k1, r1, q1, cl.keep k1⟩
  | false => exact iteF (cl _ _ _ q1 r1 k1)
theorem JW.jt (h : JW X e tA) : JT X e tA := ⟨h.h.pt⟩
theorem j_not (ha : JE X a ta) : JE X (.UnaryOp .Not a pos) (eNo ta) := .of (pe_not ha.h) fun σ H Q ⟨τ, G, Q2, rs, rp, q, cl⟩ => by
  refine ⟨τ, G, _, rs, rp, q, fun p G1 v H1 q1 d1 r1 k1 => ?_⟩
  cases p with
  | bl b =>
    obtain rfl : v = .bl b := d1
    exact ⟨b, rfl, cl _ _ _ _ q1 rfl r1 k1⟩
  | _ => exact False.elim q1
theorem j_one {op : BoolOp} (h : JE X a ta) : JE X (.BoolOp op [a] pos) ta := ⟨pe_one h.h⟩
theorem j_and {rest : List Expr} (ha : JE X a ta) (hb : JE X (.BoolOp .And (b :: rest) pos) tb) : JE X (.BoolOp .And (a :: b :: rest) pos) (eAnd2 ta tb) := .of (pe_and ha.h hb.h) fun σ H Q ⟨τ, G, Q2, rs, rp, q, cl⟩ => by
  refine ⟨τ, G, _, rs, rp, q, fun p G1 v H1 q1 d1 r1 k1 => ?_⟩
  cases p with
  | bl b =>
    obtain rfl : v = .bl b := d1
    refine ⟨b, rfl, ?_⟩
    cases b with
    | true => exact iteT ⟨τ, G1, Q2, rs.keep k1, r1, q1, cl.keep k1⟩
    | false => exact iteF (cl _ _ _ _ q1 rfl r1 k1)
  | _ => exact False.elim q1
theorem j_or {rest : List Expr} (ha : JE X a ta) (hb : JE X (.BoolOp .Or (b :: rest) pos) tb) : JE X (.BoolOp .Or (a :: b :: rest) pos) (eOr2 ta tb) := .of (pe_or ha.h hb.h) fun σ H Q ⟨τ, G, Q2, rs, rp, q, cl⟩ => by
  refine ⟨τ, G, _, rs, rp, q, fun p G1 v H1 q1 d1 r1 k1 => ?_⟩
  cases p with
  | bl b =>
    obtain rfl : v = .bl b := d1
    refine ⟨b, rfl, ?_⟩
    cases b with
    | true => exact iteT (cl _ _ _ _ q1 rfl r1 k1)
    | false => exact iteF ⟨τ, G1, Q2, rs.keep k1, r1, q1, cl.keep k1⟩
  | _ => exact False.elim q1
theorem j_ifE (hc : JT X c tA) (ha : JE X a ta) (hb : JE X b tb) : JE X (.IfExp c a b pos) (eIf2 tA ta tb) := .of (pe_ifExp hc.h ha.h hb.h) fun σ H Q ⟨τ, G, Q2, rs, rp, q, cl⟩ => by
  refine ⟨τ, G, _, rs, rp, q, fun b G1 H1 q1 r1 k1 => ?_⟩
  cases b with
  | true => exact iteT ⟨τ, G1, Q2, rs.keep k1, r1, q1, cl.keep k1⟩
  | false => exact iteF ⟨τ, G1, Q2, rs.keep k1, r1, q1, cl.keep k1⟩
theorem j_un {op : UnaryOp} {r : U2} (ho : UnR X (unaryOp op) (lowU X.K r)) (ha : JE X a ta) : JE X (.UnaryOp op a pos) (eUn r ta) := .of (pe_un ho ha.h) fun σ H Q ⟨τ, G, Q2, rs, rp, q, cl⟩ => by
  exact ⟨τ, G, _, rs, rp, q, fun p G1 v H1 q1 d1 r1 k1 => ⟨p, G1, Q2, d1, r1, q1, cl.keep k1⟩⟩
theorem j_ix {r : B2} (hr : IxR X (lowB X.K r)) (ha : JE X a ta) (hb : JE X b tb) (hs : PlainIx b) : JE X (.Subscript a b pos) (eOp r ta tb) := .of (pe_ix hr ha.h hb.h hs) fun σ H Q q => low_op q
theorem low_cl {r : C2} {σ : St} {H : Hp} {Q : VK} (q : lowE X.K (eCl r t) σ H Q) : tCB (lowC X.K r) (lowA X.K t) σ H Q := by
  obtain ⟨τ, G, Q2, rs, rp, q, cl⟩ := q
  exact ⟨τ, G, _, rs, rp, q, fun ps G1 vs H1 q1 d1 r1 k1 => ⟨ps, G1, Q2, d1, r1, q1, cl.keep k1⟩⟩
theorem j_callB {id : String} {r : C2} (hc : CallR X (.builtin id) (lowC X.K r)) (hm : X.mg x = none) (hv : bootBuiltins x = some (.builtin id)) (ha : JA X (e :: es) t) (hg : Gl X x := by rfl) (hn : x ≠ "__name__" := by decide) (hdb : (x == ("__debug__" : Str)) = false := by decide)
    (he : starEach (e :: es) X.env = (false, eval e X.env) :: starEach es X.env := by rfl) (hpl : (backTo pos (starEach es X.env)).any (·.1) = false := by rfl) : JE X (.Call (.Name x p) (e :: es) [] pos) (eCl r t) := .of (pe_callB hc hg hm hv ha.h hn hdb he hpl) fun σ H Q q => low_cl q
theorem j_callTy {T : String} {r : C2} (hc : CallR X (.type T) (lowC X.K r)) (hm : X.mg x = none) (hv : bootBuiltins x = some (.type T)) (ha : JA X (e :: es) t) (hg : Gl X x := by rfl) (hn : x ≠ "__name__" := by decide) (hdb : (x == ("__debug__" : Str)) = false := by decide)
    (he : starEach (e :: es) X.env = (false, eval e X.env) :: starEach es X.env := by rfl) (hpl : (backTo pos (starEach es X.env)).any (·.1) = false := by rfl) : JE X (.Call (.Name x p) (e :: es) [] pos) (eCl r t) := .of (pe_callTy hc hg hm hv ha.h hn hdb he hpl) fun σ H Q q => low_cl q
end
end L3
namespace L3
open PySem L2
abbrev sNext : S2 := fun D τ G => D.nx τ G
abbrev sSeq (t u : S2) : S2 := fun D τ G => t { D with nx := u D } τ G
abbrev sRet (t : E2) : S2 := fun D τ G => t τ G D.rt
abbrev sDrop (t : E2) : S2 := fun D τ G => t τ G fun _ G1 => D.nx τ G1
abbrev sIf (c : T2) (t u : S2) : S2 := fun D τ G => c τ G fun b G1 => way2 b (t D τ G1) (u D τ G1)
abbrev TG2 := PV → St2 → Gp → (St2 → Gp → Prop) → Prop
def lowG (K : PySem.W.Frag) (g : TG2) : TG := fun v σ H Q => ∃ p τ G Q2, Dv K H p v ∧ RSt K H σ τ ∧ Rep K H G ∧ g p τ G Q2 ∧ ClS K H Q2 Q
structure JG (X : Cx) (tg : Expr) (g : TG2) : Prop where
  h : PG X tg (lowG X.K g)
theorem JG.of {X : Cx} {tg : Expr} {g : TG2} {u : TG} (h : PG X tg u) (w : ∀ v σ H Q, lowG X.K g v σ H Q → u v σ H Q) : JG X tg g := ⟨fun pins s σ H v z Q I r q => h pins s σ H v z Q I r (w v σ H Q q)⟩
abbrev gN (i : Nat) : TG2 := fun p τ G Q => Q (st τ i (some p)) G
abbrev sAsg (t : E2) (g : TG2) : S2 := fun D τ G => t τ G fun p G1 => g p τ G1 D.nx
section
variable {X : Cx} {a b c e tg : Expr} {es : List Expr} {ta tb : E2} {t : A2} {tA tB : T2} {pos p : Pos} {x : Str} {st : Stmt} {rest sa sb : List Stmt} {u v : S2} {g : TG2}
theorem jg_name {i : Nat} (hN : X.N.Nodup) (hi : X.N[i]? = some x) (hx : Loc X.env.scope x) (hf : X.fn x = true ∨ X.env.scope.names.lookup x = some .local := by first | exact .inl rfl | exact .inr rfl | assumption) : JG X (.Name x pos) (gN i) :=
  .of (pg_name hN hi hx hf) fun v σ H Q ⟨p, τ, G, Q2, d, rs, rp, q, cl⟩ => cl _ _ _ _ q (rs.set d i) rp .refl
theorem js_asg (he : JE X e ta) (hg : JG X tg g) (hs : swapsWithSole [tg] e pos.line X.env = pure false := by rfl) (hw : swappedStores [tg] e X.env = pure none := by rfl)
    (h1 : (assignEach [tg] X.env).map (·.2) = [assign tg X.env] := by rfl) : JS X (.Assign [tg] e pos) (sAsg ta g) := .of (ps_asg he.h hg.h hs hw h1) fun D σ H ⟨τ, G, D2, rs, rp, q, cl⟩ => by
  exact ⟨τ, G, _, rs, rp, q, fun p G1 v H1 q1 d1 r1 k1 => ⟨p, τ, G1, D2.nx, d1, rs.keep k1, r1, q1, cl.nx.keep k1⟩⟩
theorem js_set {i : Nat} {pos' : Pos} (he : JE X e ta) (hN : X.N.Nodup) (hi : X.N[i]? = some x) (hx : Loc X.env.scope x) (hs : swapsWith e (some (.Name x pos')) pos.line X.env = pure false := by rfl)
    (hf : X.fn x = true ∨ X.env.scope.names.lookup x = some .local := by first | exact .inl rfl | exact .inr rfl | assumption) : JS X (.Assign [.Name x pos'] e pos) (sAsg ta (gN i)) := .of (ps_set hN hi hx he.h hs hf) fun D σ H ⟨τ, G, D2, rs, rp, q, cl⟩ => by
  exact ⟨τ, G, _, rs, rp, q, fun p G1 v H1 q1 d1 r1 k1 => cl.nx _ _ _ _ q1 ((rs.keep k1).set d1 i) r1 k1⟩
theorem js_expr (he : JE X e ta) (hs : swapsWith e none pos.line X.env = pure false := by rfl) : JS X (.Expr e pos) (sDrop ta) := .of (ps_expr he.h hs) fun D σ H ⟨τ, G, D2, rs, rp, q, cl⟩ => by
  exact ⟨τ, G, _, rs, rp, q, fun p G1 v H1 q1 d1 r1 k1 => cl.nx _ _ _ _ q1 (rs.keep k1) r1 k1⟩
theorem js_ret (he : JE X e ta) : JS X (.Return (some e) pos) (sRet ta) := .of (ps_ret he.h) fun D σ H ⟨τ, G, D2, rs, rp, q, cl⟩ => ⟨τ, G, _, rs, rp, q, cl.rt⟩
theorem js_if (hc : JT X c tA) (ha : JB X sa u) (hb : JB X sb v) : JS X (.If c sa sb pos) (sIf tA u v) := .of (ps_if hc.h ha.h hb.h) fun D σ H ⟨τ, G, D2, rs, rp, q, cl⟩ => by
  refine ⟨τ, G, _, rs, rp, q, fun b G1 H1 q1 r1 k1 => ?_⟩
  cases b with
  | true => exact iteT ⟨τ, G1, D2, rs.keep k1, r1, q1, cl.keep k1⟩
  | false => exact iteF ⟨τ, G1, D2, rs.keep k1, r1, q1, cl.keep k1⟩
theorem js_pass : JS X (.Pass pos) sNext := .of ps_pass fun D σ H ⟨τ, G, D2, rs, rp, q, cl⟩ => cl.nx _ _ _ _ q rs rp .refl
theorem jb_nil : JB X [] sNext := .of pss_nil fun D σ H ⟨τ, G, D2, rs, rp, q, cl⟩ => cl.nx _ _ _ _ q rs rp .refl
theorem jb_one (h : JS X st u) : JB X [st] u := ⟨pss_one h.h⟩
theorem jb_cons {s2 : Stmt} (h : JS X st u) (h2 : JB X (s2 :: rest) v) : JB X (st :: s2 :: rest) (sSeq u v) := .of (pss_cons h.h h2.h) fun D σ H ⟨τ, G, D2, rs, rp, q, cl⟩ => by
  refine ⟨τ, G, { D2 with nx := v D2 }, rs, rp, q, ⟨fun τ1 G1 σ1 H1 q1 rs1 r1 k1 => ?_, cl.rt, cl.bk, cl.ct⟩⟩
  exact ⟨τ1, G1, D2, rs1, r1, q1, cl.keep k1⟩
end

abbrev Set2 := PV → PV → PV → Gp → (Gp → Prop) → Prop
def lowSet (K : PySem.W.Frag) (r : Set2) : TSet := fun o i v H Q => ∃ po pi pv G Q2, Dv K H po o ∧ Dv K H pi i ∧ Dv K H pv v ∧ Rep K H G ∧ r po pi pv G Q2 ∧ ∀ G' H', Q2 G' → Rep K H' G' → Keep K H H' → Q H'
def setL : Set2 := fun o i v G Q => match o, i with
  | .ref a, .int k => match G a with
    | some (.lst ps) => match ixN ps.length k with
      | some j => Q (up G a (.lst (ps.set j v)))
      | none => False
    | _ => False
  | _, _ => False
abbrev gSub2 (to ti : E2) (r : Set2) : TG2 := fun p τ G Q => to τ G fun o G1 => ti τ G1 fun i G2 => r o i p G2 fun G3 => Q τ G3
theorem PSet.of {X : Cx} {t u : TSet} (h : PSet X u) (w : ∀ o i v H Q, t o i v H Q → u o i v H Q) : PSet X t := fun pins s σ H o i v ov iv z Q I r1 r2 r3 q => h pins s σ H o i v ov iv z Q I r1 r2 r3 (w _ _ _ _ _ q)
theorem set_L {X : Cx} : PSet X (lowSet X.K setL) := PSet.of set_list fun o i v H Q ⟨po, pi, pv, G, Q2, d1, d2, d3, rp, q, cl⟩ => by
  unfold setL at q
  split at q
  · rename_i a k
    split at q
    · rename_i ps e
      split at q
      · rename_i j ej
        obtain rfl : o = .ref a := d1
        obtain rfl : i = .int k := d2
        obtain ⟨vs, hv, dv⟩ := rp.lst e
        refine ⟨a, vs, k, j, rfl, rfl, hv, by rw [dv.length]; exact ej, cl _ _ q (rp.put hv (dv.set d3 j)) (keep_lst hv)⟩
      · exact q.elim
    · exact q.elim
  · exact q.elim
abbrev aug2 (i : Nat) (t : E2) (r : B2) : S2 := fun D τ G => match gt τ i with
  | some x => t τ G fun y G1 => r x y G1 fun z G2 => D.nx (st τ i (some z)) G2
  | none => False
abbrev augS2 (to ti te : E2) (rg r : B2) (rs : Set2) : S2 := fun D τ G => to τ G fun o G1 => ti τ G1 fun i G2 => rg o i G2 fun x G3 => te τ G3 fun y G4 => r x y G4 fun z G5 => rs o i z G5 fun G6 => D.nx τ G6
section
variable {X : Cx} {o i e : Expr} {to ti te : E2} {pos : Pos} {x : Str}
theorem jg_sub {r : Set2} (ho : JE X o to) (hi : JE X i ti) (hs : PSet X (lowSet X.K r))
    (ha : ∀ v, assign (.Subscript o i pos) X.env v = (do
      let ov ← holding [v] (eval o X.env)
      let iv ← holding [v, ov] (eval i X.env)
      standAt pos
      holding [v, ov, iv] (setItem ov iv v)
      release [v, ov, iv] []) := by intro _; rfl) : JG X (.Subscript o i pos) (gSub2 to ti r) := .of (pg_sub ho.h hi.h hs ha) fun v σ H Q ⟨p, τ, G, Q2, d, rs, rp, q, cl⟩ => by
  refine ⟨τ, G, _, rs, rp, q, fun p1 G1 v1 H1 q1 d1 r1 k1 => ⟨τ, G1, _, rs.keep k1, r1, q1, fun p2 G2 v2 H2 q2 d2 r2 k2 => ?_⟩⟩
  exact ⟨p1, p2, p, G2, _, d1.keep k2, d2, d.keep (k1.trans k2), r2, q2, fun G3 H3 q3 r3 k3 => cl _ _ _ _ q3 (rs.keep ((k1.trans k2).trans k3)) r3 ((k1.trans k2).trans k3)⟩
theorem js_aug {n : Nat} {op : Operator} {r : B2} {pos' : Pos} (ho : PIp X op (lowB X.K r)) (he : JE X e te) (hN : X.N.Nodup) (hi : X.N[n]? = some x) (hx : Loc X.env.scope x) (hf : X.fn x = true ∨ X.env.scope.names.lookup x = some .local := by first | exact .inl rfl | exact .inr rfl | assumption) :
    JS X (.AugAssign (.Name x pos') op e pos) (aug2 n te r) := .of (ps_aug hN hi hx he.h ho hf) fun D σ H ⟨τ, G, D2, rs, rp, q, cl⟩ => by
  unfold aug2 at q
  split at q
  · rename_i p ep
    obtain ⟨v, ev, d⟩ := rs.2 n p (gt_some ep)
    refine ⟨v, ev, τ, G, _, rs, rp, q, fun p1 G1 v1 H1 q1 d1 r1 k1 => ?_⟩
    exact ⟨p, p1, G1, _, d.keep k1, d1, r1, q1, fun p2 G2 v2 H2 q2 d2 r2 k2 => cl.nx _ _ _ _ q2 ((rs.keep (k1.trans k2)).set d2 n) r2 (k1.trans k2)⟩
  · exact q.elim
theorem js_augS {op : Operator} {rg r : B2} {rst : Set2} {tpos : Pos} (hg : PGet X (lowB X.K rg)) (hp : PIp X op (lowB X.K r)) (hs : PSet X (lowSet X.K rst)) (ho : JE X o to) (hi : JE X i ti) (he : JE X e te)
    (ha : ∀ ov iv new, augStore i ov iv new = (do holding [new, ov, iv] (setItem ov iv new); release [new, ov, iv] []; pure .next) := by intros; rfl) : JS X (.AugAssign (.Subscript o i tpos) op e pos) (augS2 to ti te rg r rst) := .of (ps_augS ho.h hi.h hg he.h hp hs ha) fun D σ H ⟨τ, G, D2, rs, rp, q, cl⟩ => by
  refine ⟨τ, G, _, rs, rp, q, fun p1 G1 v1 H1 q1 d1 r1 k1 => ⟨τ, G1, _, rs.keep k1, r1, q1, fun p2 G2 v2 H2 q2 d2 r2 k2 => ⟨p1, p2, G2, _, d1.keep k2, d2, r2, q2, fun p3 G3 v3 H3 q3 d3 r3 k3 =>
    ⟨τ, G3, _, rs.keep ((k1.trans k2).trans k3), r3, q3, fun p4 G4 v4 H4 q4 d4 r4 k4 => ⟨p3, p4, G4, _, d3.keep k4, d4, r4, q4, fun p5 G5 v5 H5 q5 d5 r5 k5 => ⟨p1, p2, p5, G5, _, d1.keep (((k2.trans k3).trans k4).trans k5), d2.keep ((k3.trans k4).trans k5), d5, r5, q5, fun G6 H6 q6 r6 k6 => ?_⟩⟩⟩⟩⟩⟩
  have kk : Keep X.K H H6 := ((((k1.trans k2).trans k3).trans k4).trans k5).trans k6
  exact cl.nx _ _ _ _ q6 (rs.keep kk) r6 kk
end

abbrev Sp2 := List PV → Gp → K2 → Prop
def spL (K : PySem.W.Frag) (sp : Sp2) : Sp := fun vs H Q _ => ∃ ps G Q2, Dvs K H ps vs ∧ Rep K H G ∧ sp ps G Q2 ∧ Cl K H Q2 Q
@[reducible] def start2 : List Str → List PV → St2
  | [], _ => []
  | _ :: N, p :: ps => some p :: start2 N ps
  | _ :: N, [] => none :: start2 N []
theorem start2_nil : ∀ N : List Str, start2 N [] = List.replicate N.length none
  | [] => rfl
  | _ :: N => by simp [start2, start2_nil N, List.replicate_succ]
theorem start2_eq : ∀ (N : List Str) (ps : List PV), ps.length ≤ N.length → start2 N ps = ps.map some ++ List.replicate (N.length - ps.length) none
  | [], [], _ => rfl
  | [], _ :: _, h => by simp at h
  | _ :: N, p :: ps, h => by
    simp only [start2, List.map_cons, List.length_cons, List.cons_append]
    rw [start2_eq N ps (by simpa using h)]
    simp
  | n :: N, [], _ => by rw [start2_nil]; simp
theorem start_rst {K : PySem.W.Frag} {H : Hp} {N : List Str} {ps : List PV} {vs : List V} (d : Dvs K H ps vs) (hN : ps.length ≤ N.length) : RSt K H (L2.start N vs) (start2 N ps) := by
  have hl := d.length
  rw [start2_eq N ps hN]
  refine ⟨by unfold L2.start; simp [hl], fun i p e => ?_⟩
  unfold L2.start
  by_cases hi : i < ps.length
  · rw [List.getElem?_append_left (by simpa using hi), List.getElem?_map] at e
    rw [List.getElem?_append_left (by simpa [hl] using hi), List.getElem?_map]
    cases q : ps[i]? with
    | none => rw [q] at e; cases e
    | some p' =>
      rw [q] at e
      have : p' = p := by simpa using e
      subst this
      obtain ⟨v, ev, dv⟩ := d.at q
      exact ⟨v, by rw [ev]; rfl, dv⟩
  · rw [List.getElem?_append_right (by simpa using Nat.le_of_not_lt hi), List.getElem?_replicate] at e
    split at e <;> cases e
/-- what G0 has G has, too -/
def GE (G0 G : Gp) : Prop := ∀ a o, G0 a = some o → G a = some o
theorem GE.refl {G : Gp} : GE G G := fun _ _ h => h
theorem GE.trans {G0 G1 G2 : Gp} (a : GE G0 G1) (b : GE G1 G2) : GE G0 G2 := fun c o h => b c o (a c o h)
theorem GE.new {G0 G : Gp} {a : Addr} {o : MO} (h : GE G0 G) (n : G a = none) : GE G0 (up G a o) := fun b u q => by
  have : b ≠ a := fun z => by subst z; rw [h _ _ q] at n; cases n
  rw [up_ne this]; exact h b u q
/-- a def keeps its promise -/
abbrev Ok2 (P : Program) (w : World) (K : PySem.W.Frag) (mg : Str → Option Value) (base : Heap) (k : Nat) (f : Addr) (fd : FuncData) (ps : List Str) (sp : Sp2) : Prop := FnOk P w K mg base CX0 k f fd ps (spL K sp)
/-- a def of the text with its promise, as its callers take it -/
structure Cal2 (P : Program) (w : World) (K : PySem.W.Frag) (mg : Str → Option Value) (base : Heap) (k : Nat) (x : Str) (f : Addr) (fd : FuncData) (ps : List Str) (sp : Sp2) : Prop where
  ok : Ok2 P w K mg base k f fd ps sp
  b : Binds K fd ps []
  kp : PySem.W.keepIn K (.ref f) = true
  m : mg x = some (.ref f)
section
variable {P : Program} {w : World} {K : PySem.W.Frag} {mg : Str → Option Value} {base : Heap}
theorem fn2 {x qual : Str} {st : Stmt} {f : Addr} {fd : FuncData} {N ps : List Str} {k : Nat} {sp : Sp2} (F : Fun K x qual st f fd) (S : FnScope N ps (defScope st)) (len : ∀ vs G Q, sp vs G Q → vs.length = ps.length)
    (hbody : ∀ (cdv : Value) (A : Around) (outer : List Env) (s : Shared) (H : Hp) (E : XK) (as : List PV) (G : Gp) (Q : K2), Room k (A.deeper (PyProof.Rows.envOfC qual (defScope st) s.heap.objs.size f cdv)) → sp as G Q →
      ∃ t, JB (cxOf CX0 P w K mg base N qual (defScope st) f cdv A outer s H E).nox (defBody st) t ∧ t { nx := fun _ G' => ∃ G0, GE G0 G' ∧ Q .non G0, rt := fun p G' => ∃ G0, GE G0 G' ∧ Q p G0 } (start2 N as) G) : Ok2 P w K mg base (k + 1) f fd ps sp := by
  refine F.ok S (fun vs H Q E h => ?_) (fun cdv A outer s H vs Q E hr h => ?_)
  · obtain ⟨as, G, Q2, d, _, h, _⟩ := h
    rw [d.length]; exact len _ _ _ h
  obtain ⟨as, G, Q2, d, rp, h, cl⟩ := h
  obtain ⟨t, j, q⟩ := hbody cdv A outer s H E as G Q2 hr h
  refine ⟨_, j.h, start2 N as, G, _, start_rst d (by rw [len _ _ _ h, ← S.pre, List.length_take]; omega), rp, q, ⟨fun τ G' σ H' ⟨G0, e0, q1⟩ _ r1 k1 => cl _ _ _ _ q1 rfl (r1.sub e0) k1, fun p G' v H' ⟨G0, e0, q1⟩ d1 r1 k1 => cl _ _ _ _ q1 d1 (r1.sub e0) k1, fun _ _ _ _ q1 => q1.elim, fun _ _ _ _ q1 => q1.elim⟩⟩
end
abbrev eCall (sp : Sp2) (t : A2) : E2 := fun τ G Q => t τ G fun ps G1 => sp ps G1 Q
section
variable {X : Cx} {e : Expr} {es : List Expr} {t : A2} {pos p : Pos} {x : Str}
theorem low_call {sp : Sp2} {σ : L2.St} {H : Hp} {Q : VK} (q : lowE X.K (eCall sp t) σ H Q) : tCall (spL X.K sp) [] E0 (lowA X.K t) σ H Q := by
  obtain ⟨τ, G, Q2, rs, rp, q, cl⟩ := q
  refine ⟨τ, G, _, rs, rp, q, fun ps G1 vs H1 q1 d1 r1 k1 => ?_⟩
  show spL X.K sp (vs ++ []) H1 Q E0
  rw [List.append_nil]
  exact ⟨ps, G1, Q2, d1, r1, q1, cl.keep k1⟩
theorem j_cal {k k' : Nat} {f : Addr} {fd : FuncData} {ps : List Str} {sp : Sp2} (C : Cal2 X.prog X.w X.K X.mg X.base k x f fd ps sp) (hr : Room k' X.A) (hk : k ≤ k') (ha : JA X (e :: es) t) (hg : Gl X x := by rfl)
    (hdb : (x == ("__debug__" : Str)) = false := by decide) (he : starEach (e :: es) X.env = (false, eval e X.env) :: starEach es X.env := by rfl) (hpl : (backTo pos (starEach es X.env)).any (·.1) = false := by rfl) :
    JE X (.Call (.Name x p) (e :: es) [] pos) (eCall sp t) := .of (pe_call (C.ok.mono hk) hr hg C.m C.kp C.b .nil pass0 ha.h hdb he hpl) fun σ H Q q => low_call q
end

abbrev sWhile (c : T2) (tb : S2) : S2 := fun D τ G => ∃ W : Nat → St2 → Gp → Prop, (∃ m, W m τ G) ∧ ∀ m τ G, W m τ G →
  c τ G fun b G1 => way2 b (tb { D with nx := fun τ' G' => ∃ m', m' < m ∧ W m' τ' G', ct := fun τ' G' => ∃ m', m' < m ∧ W m' τ' G', bk := D.nx } τ G1) (D.nx τ G1)
section
variable {X : Cx} {c : Expr} {body : List Stmt} {tc : T2} {tb : S2} {pos : Pos}
theorem js_while (hp : PassesOwn (model X.prog X.w) X.A X.env X.xe) (hc : JT X c tc) (hb : JB X body tb) : JS X (.While c body [] pos) (sWhile tc tb) := .of (ps_while hp hc.h hb.h) fun D σ H ⟨τ, G, D2, rs, rp, ⟨W, ⟨m0, w0⟩, turn⟩, cl⟩ => by
  refine ⟨fun m σ' H' => ∃ τ' G', W m τ' G' ∧ RSt X.K H' σ' τ' ∧ Rep X.K H' G' ∧ Keep X.K H H', ⟨m0, τ, G, w0, rs, rp, .refl⟩, ?_⟩
  rintro m σ1 H1 ⟨τ1, G1, w1, rs1, rp1, k1⟩
  refine ⟨τ1, G1, _, rs1, rp1, turn m τ1 G1 w1, fun b G2 H2 q2 r2 k2 => ?_⟩
  cases b with
  | false => exact iteF (cl.nx _ _ _ _ q2 (rs1.keep k2) r2 (k1.trans k2))
  | true =>
    refine iteT ⟨fun σ' H' => ∃ τ' G', (∃ m', m' < m ∧ W m' τ' G') ∧ RSt X.K H' σ' τ' ∧ Rep X.K H' G' ∧ Keep X.K H H', fun σ' H' ⟨τ', G', ⟨m', hm, w'⟩, a, b, c⟩ => ⟨m', hm, τ', G', w', a, b, c⟩, ?_⟩
    have kk := k1.trans k2
    exact ⟨τ1, G2, _, rs1.keep k2, r2, q2, ⟨fun τ' G' σ' H' q' a b c => ⟨τ', G', q', a, b, kk.trans c⟩, cl.rt.keep kk, cl.nx.keep kk, fun τ' G' σ' H' q' a b c => ⟨τ', G', q', a, b, kk.trans c⟩⟩⟩
end

abbrev TI2 := St2 → Gp → (List PV → (Gp → Prop) → Gp → Prop) → Prop
/-- the iterator J yields these items as long as c holds -/
def ItOk (K : PySem.W.Frag) (H1 : Hp) (J : It) (items : List PV) (c : Gp → Prop) : Prop := ∀ (i : Nat) H G, Keep K H1 H → Rep K H G → c G →
  (i < items.length → J.go i H) ∧ (i = items.length → J.stop i H) ∧ ∀ x H', i < items.length → J.yld i H x H' → ∃ p, items[i]? = some p ∧ Keep K H H' ∧ Rep K H' G ∧ Dv K H' p x
def lowI (K : PySem.W.Frag) (t : TI2) : TI := fun σ H R => ∃ τ G R2, RSt K H σ τ ∧ Rep K H G ∧ t τ G R2 ∧ ∀ items c G' J H', R2 items c G' → Rep K H' G' → Keep K H H' → ItOk K H' J items c → R J H'
structure JI (X : Cx) (tg iter : Expr) (t : TI2) : Prop where
  h : PI X tg iter (lowI X.K t)
theorem JI.of {X : Cx} {tg iter : Expr} {t : TI2} {u : TI} (h : PI X tg iter u) (w : ∀ σ H R, lowI X.K t σ H R → u σ H R) : JI X tg iter t := ⟨fun pins s σ H R I q => h pins s σ H R I (w σ H R q)⟩
abbrev sFor (ti : TI2) (g : TG2) (tb : S2) : S2 := fun D τ G => ti τ G fun items c G1 => ∃ W : Nat → St2 → Gp → Prop, W 0 τ G1 ∧ (∀ i τ G, i ≤ items.length → W i τ G → c G) ∧
  (∀ i x τ G, items[i]? = some x → W i τ G → g x τ G fun τ' G' => tb { D with nx := W (i + 1), ct := W (i + 1), bk := D.nx } τ' G') ∧ ∀ τ G, W items.length τ G → D.nx τ G
section
variable {X : Cx} {tg iter : Expr} {body : List Stmt} {ti : TI2} {g : TG2} {tb : S2} {pos : Pos}
theorem js_for (hp : PassesOwn (model X.prog X.w) X.A X.env X.xe) (hc : X.calm = true) (hi : JI X tg iter ti) (hg : JG X tg g) (hb : JB X body tb)
    (hs : ∀ x, foldedSetIterable iter X.env x = pure x := by intro _; rfl) : JS X (.For tg iter body [] pos) (sFor ti g tb) := .of (ps_for hp hc hi.h hg.h hb.h hs) fun D σ H ⟨τ, G, D2, rs, rp, q, cl⟩ => by
  refine ⟨τ, G, _, rs, rp, q, fun items c G1 J H1 q1 r1 k1 ok => ?_⟩
  obtain ⟨W, w0, hcW, turn, done⟩ := q1
  refine ⟨fun i m σ' H' => m = items.length - i ∧ i ≤ items.length ∧ ∃ τ' G', W i τ' G' ∧ RSt X.K H' σ' τ' ∧ Rep X.K H' G' ∧ Keep X.K H1 H', ⟨_, rfl, Nat.zero_le _, τ, G1, w0, rs.keep k1, r1, .refl⟩, ?_⟩
  rintro i m σ2 H2 ⟨rfl, hi, τ2, G2, w2, rs2, rp2, k2⟩
  obtain ⟨o1, o2, o3⟩ := ok i H2 G2 k2 rp2 (hcW i τ2 G2 hi w2)
  by_cases hlt : i < items.length
  · refine .inr ⟨o1 hlt, fun σ' H' => i + 1 ≤ items.length ∧ ∃ τ' G', W (i + 1) τ' G' ∧ RSt X.K H' σ' τ' ∧ Rep X.K H' G' ∧ Keep X.K H1 H', fun σ' H' ⟨hl, z⟩ => ⟨items.length - (i + 1), by omega, rfl, hl, z⟩, fun x H3 y => ?_⟩
    obtain ⟨p, ep, k3, r3, d3⟩ := o3 x H3 hlt y
    have k13 := k2.trans k3
    refine ⟨p, τ2, G2, _, d3, rs2.keep k3, r3, turn i p τ2 G2 ep w2, fun τ4 G4 σ4 H4 q4 rs4 r4 k4 => ?_⟩
    have k14 := k13.trans k4
    have k04 := k1.trans k14
    exact ⟨τ4, G4, _, rs4, r4, q4, ⟨fun τ' G' σ' H' q' a b c => ⟨hlt, τ', G', q', a, b, k14.trans c⟩, cl.rt.keep k04, cl.nx.keep k04, fun τ' G' σ' H' q' a b c => ⟨hlt, τ', G', q', a, b, k14.trans c⟩⟩⟩
  · have e : i = items.length := by omega
    subst e
    exact .inl ⟨o2 rfl, cl.nx _ _ _ _ (done τ2 G2 w2) rs2 rp2 (k1.trans k2)⟩
end

end L3
namespace L3
open PySem L2
mutual
def deq : PV → PV → Bool
  | .non, .non => true
  | .bl a, .bl b => a == b
  | .bl a, .int b => (if a then 1 else 0) == b
  | .int a, .bl b => a == (if b then 1 else 0)
  | .int a, .int b => a == b
  | .str a, .str b => a == b
  | .tup xs, .tup ys => deqs xs ys
  | _, _ => false
def deqs : List PV → List PV → Bool
  | [], [] => true
  | x :: xs, y :: ys => deq x y && deqs xs ys
  | _, _ => false
end
mutual
/-- nothing that can change within, n tuples deep at most -/
def pureP : Nat → PV → Bool
  | _, .non => true
  | _, .bl _ => true
  | _, .int _ => true
  | _, .str _ => true
  | n + 1, .tup xs => pureL n xs
  | _, _ => false
def pureL : Nat → List PV → Bool
  | _, [] => true
  | n, x :: xs => pureP n x && pureL n xs
end
section
variable {X : Cx} {pins : List (Addr × Obj)} {σ : L2.St} {H : Hp} {s : Shared} {K : PySem.W.Frag}
mutual
theorem same_deq (I : Inv X pins σ H s) : ∀ (n m : Nat) (p q : PV) {v : V}, Dv X.K H p v → Dv X.K H q v → pureP n p = true → pureP m q = true → deq p q = true
  | n, m, .non, q, v, h1, h2, f1, f2 => by
    obtain rfl : v = .non := h1
    cases q with
    | non => rfl
    | tup qs => obtain ⟨a, vs, e, _⟩ := h2; cases e
    | ro qs => cases m <;> cases f2
    | _ => first | cases (show _ = _ from h2) | (cases m <;> cases f2)
  | n, m, .bl b, q, v, h1, h2, f1, f2 => by
    obtain rfl : v = .bl b := h1
    cases q with
    | bl c => cases (show V.bl b = V.bl c from h2); unfold deq; simp
    | tup qs => obtain ⟨a, vs, e, _⟩ := h2; cases e
    | ro qs => cases m <;> cases f2
    | _ => first | cases (show _ = _ from h2) | (cases m <;> cases f2)
  | n, m, .int b, q, v, h1, h2, f1, f2 => by
    obtain rfl : v = .int b := h1
    cases q with
    | int c => cases (show V.int b = V.int c from h2); unfold deq; simp
    | tup qs => obtain ⟨a, vs, e, _⟩ := h2; cases e
    | ro qs => cases m <;> cases f2
    | _ => first | cases (show _ = _ from h2) | (cases m <;> cases f2)
  | n, m, .str b, q, v, h1, h2, f1, f2 => by
    obtain rfl : v = .str b := h1
    cases q with
    | str c => cases (show V.str b = V.str c from h2); unfold deq; simp
    | tup qs => obtain ⟨a, vs, e, _⟩ := h2; cases e
    | ro qs => cases m <;> cases f2
    | _ => first | cases (show _ = _ from h2) | (cases m <;> cases f2)
  | n, m, .tup ps, q, v, h1, h2, f1, f2 => by
    obtain ⟨a, vs, rfl, sq, d⟩ := h1
    cases q with
    | tup qs =>
      obtain ⟨b, us, e, sq2, d2⟩ := h2
      cases e
      obtain rfl := I.tuple_inj sq sq2
      cases n with
      | zero => cases f1
      | succ n =>
        cases m with
        | zero => cases f2
        | succ m =>
          unfold deq
          exact same_deqs I n m ps qs d d2 f1 f2
    | ref b => cases m <;> cases f2
    | ty b => cases m <;> cases f2
    | ro b => cases m <;> cases f2
    | _ => cases (show _ = _ from h2)
  | n, m, .ref a, q, v, h1, h2, f1, f2 => by cases n <;> cases f1
  | n, m, .ty a, q, v, h1, h2, f1, f2 => by cases n <;> cases f1
  | n, m, .ro a, q, v, h1, h2, f1, f2 => by cases n <;> cases f1
theorem same_deqs (I : Inv X pins σ H s) : ∀ (n m : Nat) (ps qs : List PV) {vs : List V}, Dvs X.K H ps vs → Dvs X.K H qs vs → pureL n ps = true → pureL m qs = true → deqs ps qs = true
  | n, m, [], qs, vs, h1, h2, f1, f2 => by
    obtain rfl : vs = [] := h1
    cases qs with
    | nil => rfl
    | cons q qs => obtain ⟨_, _, e, _⟩ := h2; cases e
  | n, m, p :: ps, qs, vs, h1, h2, f1, f2 => by
    obtain ⟨v, r, rfl, d, d'⟩ := h1
    cases qs with
    | nil => cases (show _ = _ from h2)
    | cons q qs =>
      obtain ⟨_, _, e, d2, d2'⟩ := h2
      cases e
      unfold pureL at f1 f2
      rw [Bool.and_eq_true] at f1 f2
      unfold deqs
      rw [same_deq I n m p q d d2 f1.1 f2.1, same_deqs I n m ps qs d' d2' f1.2 f2.2]
      rfl
end
def deqJ (ps qs : List PV) (j : Nat) : Bool := match ps[j]?, qs[j]? with
  | some p, some q => deq p q
  | _, _ => true
theorem deqs_range : ∀ (ps qs : List PV), ps.length = qs.length → (List.range ps.length).all (deqJ ps qs) = deqs ps qs
  | [], [], _ => rfl
  | p :: ps, q :: qs, h => by
    have ih := deqs_range ps qs (by simpa using h)
    unfold deqs
    rw [← ih, List.length_cons, List.range_succ_eq_map, List.all_cons, List.all_map]
    rfl
  | [], _ :: _, h => by simp at h
  | _ :: _, [], h => by simp at h
theorem deqs_len : ∀ {ps qs : List PV}, ps.length ≠ qs.length → deqs ps qs = false
  | [], [], h => absurd rfl h
  | p :: ps, q :: qs, h => by
    unfold deqs
    rw [deqs_len (ps := ps) (qs := qs) (fun e => h (by simp [e])), Bool.and_false]
  | [], _ :: _, _ => rfl
  | _ :: _, [], _ => rfl
theorem deqs_min (ps qs : List PV) : ((List.range (min ps.length qs.length)).all (deqJ ps qs) && ps.length == qs.length) = deqs ps qs := by
  by_cases h : ps.length = qs.length
  · rw [h, Nat.min_self, ← h, deqs_range ps qs h]; simp [h]
  · rw [deqs_len h]; simp [h]
/-- the answers of eqBool -/
abbrev Eqd (A : Around) (s : Shared) (v u : Value) (b : Bool) : Prop := SeqAt.EqAt A s v u b
mutual
theorem eq_D (I : Inv X pins σ H s) : ∀ (n m : Nat) (p q : PV) (A : Around) {x y : V} {v u : Value}, Dv X.K H p x → RelV x v → Dv X.K H q y → RelV y u → pureP n p = true → pureP m q = true → A.units + n < cLine → Eqd A s v u (deq p q)
  | n, m, .non, q, A, x, y, v, u, d1, r1, d2, r2, f1, f2, hu => by
    obtain rfl : x = .non := d1
    cases r1
    cases q with
    | non => obtain rfl : y = .non := d2; cases r2; exact SeqAt.EqAt.same _
    | bl b => obtain rfl : y = .bl b := d2; cases r2; exact SeqAt.EqAt.none_bool b
    | int b => obtain rfl : y = .int b := d2; obtain ⟨t, rfl⟩ := r2; exact SeqAt.EqAt.none_int b t
    | str b => obtain rfl : y = .str b := d2; obtain ⟨t, rfl⟩ := r2; exact SeqAt.EqAt.none_str b t
    | tup qs =>
      obtain ⟨a, vs, rfl, sq, dd⟩ := d2
      cases r2
      obtain ⟨its, rv, pl, _⟩ := I.tuple sq
      exact SeqAt.EqAt.none_tuple pl (by omega)
    | ref b => cases m <;> cases f2
    | ty b => cases m <;> cases f2
    | ro b => cases m <;> cases f2
  | n, m, .bl a, q, A, x, y, v, u, d1, r1, d2, r2, f1, f2, hu => by
    obtain rfl : x = .bl a := d1
    cases r1
    cases q with
    | non => obtain rfl : y = .non := d2; cases r2; exact SeqAt.EqAt.bool_none a
    | bl b => obtain rfl : y = .bl b := d2; cases r2; exact SeqAt.EqAt.bool_bool a b
    | int b => obtain rfl : y = .int b := d2; obtain ⟨t, rfl⟩ := r2; exact SeqAt.EqAt.bool_int a b t
    | str b => obtain rfl : y = .str b := d2; obtain ⟨t, rfl⟩ := r2; exact SeqAt.EqAt.bool_str a b t
    | tup qs =>
      obtain ⟨l, vs, rfl, sq, dd⟩ := d2
      cases r2
      obtain ⟨its, rv, pl, _⟩ := I.tuple sq
      exact SeqAt.EqAt.bool_tuple a pl (by omega)
    | ref b => cases m <;> cases f2
    | ty b => cases m <;> cases f2
    | ro b => cases m <;> cases f2
  | n, m, .int a, q, A, x, y, v, u, d1, r1, d2, r2, f1, f2, hu => by
    obtain rfl : x = .int a := d1
    obtain ⟨t', rfl⟩ := r1
    cases q with
    | non => obtain rfl : y = .non := d2; cases r2; exact SeqAt.EqAt.int_none a t'
    | bl b => obtain rfl : y = .bl b := d2; cases r2; exact SeqAt.EqAt.int_bool a t' b
    | int b => obtain rfl : y = .int b := d2; obtain ⟨t, rfl⟩ := r2; exact SeqAt.EqAt.int_int a t' b t
    | str b => obtain rfl : y = .str b := d2; obtain ⟨t, rfl⟩ := r2; exact SeqAt.EqAt.int_str a t' b t
    | tup qs =>
      obtain ⟨l, vs, rfl, sq, dd⟩ := d2
      cases r2
      obtain ⟨its, rv, pl, _⟩ := I.tuple sq
      exact SeqAt.EqAt.int_tuple a t' pl (by omega)
    | ref b => cases m <;> cases f2
    | ty b => cases m <;> cases f2
    | ro b => cases m <;> cases f2
  | n, m, .str a, q, A, x, y, v, u, d1, r1, d2, r2, f1, f2, hu => by
    obtain rfl : x = .str a := d1
    obtain ⟨t', rfl⟩ := r1
    cases q with
    | non => obtain rfl : y = .non := d2; cases r2; exact SeqAt.EqAt.str_none a t'
    | bl b => obtain rfl : y = .bl b := d2; cases r2; exact SeqAt.EqAt.str_bool a t' b
    | int b => obtain rfl : y = .int b := d2; obtain ⟨t, rfl⟩ := r2; exact SeqAt.EqAt.str_int a t' b t
    | str b => obtain rfl : y = .str b := d2; obtain ⟨t, rfl⟩ := r2; exact SeqAt.EqAt.str_str a t' b t
    | tup qs =>
      obtain ⟨l, vs, rfl, sq, dd⟩ := d2
      cases r2
      obtain ⟨its, rv, pl, _⟩ := I.tuple sq
      exact SeqAt.EqAt.str_tuple a t' pl (by omega)
    | ref b => cases m <;> cases f2
    | ty b => cases m <;> cases f2
    | ro b => cases m <;> cases f2
  | n, m, .tup ps, q, A, x, y, v, u, d1, r1, d2, r2, f1, f2, hu => by
    have dd1 := d1
    obtain ⟨l, vs, rfl, sq, d⟩ := d1
    cases r1
    obtain ⟨its, rv, pl, _⟩ := I.tuple sq
    cases q with
    | non => obtain rfl : y = .non := d2; cases r2; exact SeqAt.EqAt.tuple_none pl (by omega)
    | bl b => obtain rfl : y = .bl b := d2; cases r2; exact SeqAt.EqAt.tuple_bool b pl (by omega)
    | int b => obtain rfl : y = .int b := d2; obtain ⟨t, rfl⟩ := r2; exact SeqAt.EqAt.tuple_int b t pl (by omega)
    | str b => obtain rfl : y = .str b := d2; obtain ⟨t, rfl⟩ := r2; exact SeqAt.EqAt.tuple_str b t pl (by omega)
    | tup qs =>
      have dd2 := d2
      obtain ⟨l2, us, rfl, sq2, d2⟩ := d2
      cases r2
      obtain ⟨its2, rv2, pl2, _⟩ := I.tuple sq2
      by_cases hll : l = l2
      · subst hll
        rw [same_deq I n m (.tup ps) (.tup qs) dd1 dd2 f1 f2]
        exact SeqAt.EqAt.same _
      · cases n with
        | zero => cases f1
        | succ n =>
          cases m with
          | zero => cases f2
          | succ m =>
            refine SeqAt.EqAt.of_refs hll ?_
            have z := SeqAt.RcAt.tuples (A := A) (e := deqJ ps qs) pl pl2 (by omega) fun j h1 h2 => eq_Ds I n m ps qs A.in1 d rv d2 rv2 f1 f2 (by rw [PySem.Around.in1_units]; omega) j h1 h2
            rw [List.size_toArray, List.size_toArray, ← rv.length, ← rv2.length, d.length, d2.length, deqs_min] at z
            unfold deq
            exact z
    | ref b => cases m <;> cases f2
    | ty b => cases m <;> cases f2
    | ro b => cases m <;> cases f2
  | n, m, .ref a, q, A, x, y, v, u, d1, r1, d2, r2, f1, f2, hu => by cases n <;> cases f1
  | n, m, .ty a, q, A, x, y, v, u, d1, r1, d2, r2, f1, f2, hu => by cases n <;> cases f1
  | n, m, .ro a, q, A, x, y, v, u, d1, r1, d2, r2, f1, f2, hu => by cases n <;> cases f1
theorem eq_Ds (I : Inv X pins σ H s) : ∀ (n m : Nat) (ps qs : List PV) (A : Around) {xs ys : List V} {vs us : List Value}, Dvs X.K H ps xs → Vals xs vs → Dvs X.K H qs ys → Vals ys us → pureL n ps = true → pureL m qs = true → A.units + n < cLine →
    ∀ (j : Nat) (h1 : j < vs.toArray.size) (h2 : j < us.toArray.size), Eqd A s vs.toArray[j] us.toArray[j] (deqJ ps qs j)
  | n, m, [], qs, A, xs, ys, vs, us, d1, r1, d2, r2, f1, f2, hu, j, h1, h2 => by
    obtain rfl : xs = [] := d1
    cases r1
    simp at h1
  | n, m, p :: ps, qs, A, xs, ys, vs, us, d1, r1, d2, r2, f1, f2, hu, j, h1, h2 => by
    obtain ⟨x, xr, rfl, dx, d1⟩ := d1
    cases r1 with
    | cons rx r1 =>
      cases qs with
      | nil =>
        obtain rfl : ys = [] := d2
        cases r2
        simp at h2
      | cons q qs =>
        obtain ⟨y, yr, rfl, dy, d2⟩ := d2
        cases r2 with
        | cons ry r2 =>
          unfold pureL at f1 f2
          rw [Bool.and_eq_true] at f1 f2
          cases j with
          | zero => exact eq_D I n m p q A dx rx dy ry f1.1 f2.1 hu
          | succ j => exact eq_Ds I n m ps qs A d1 r1 d2 r2 f1.2 f2.2 hu j (by simpa using h1) (by simpa using h2)
end
end
end L3
namespace L3
open PySem L2
theorem big {n : Nat} (h : n ≤ 1000000) : n ≤ sizeLine := Nat.le_trans h (by rw [sizeLine_eq]; decide)
theorem bigLt {n : Nat} (h : n ≤ 1000000) : n < sizeLine := Nat.lt_of_le_of_lt h (by rw [sizeLine_eq]; decide)
/-- the items of a list at a -/
def lk (G : Gp) (a : Addr) : Option (List PV) := match G a with
  | some (.lst ps) => some ps
  | some (.rl ps) => some ps
  | _ => none
theorem lk_sq {K : PySem.W.Frag} {H : Hp} {G : Gp} {a : Addr} {ps : List PV} (r : Rep K H G) (h : lk G a = some ps) : ∃ vs, SqL K H a vs ∧ Dvs K H ps vs := by
  unfold lk at h
  split at h
  · rename_i qs e; cases h
    obtain ⟨vs, e1, d⟩ := r a _ e
    exact ⟨vs, .of e1, d⟩
  · rename_i qs e; cases h
    obtain ⟨vs, e1, d⟩ := r a _ e
    exact ⟨vs, .inl e1, d⟩
  · cases h

def eq2 : B2 := fun p q G Q => match p, q with
  | .ref a, .ref b => match lk G a, lk G b with
    | some ps, some qs => pureL 100 ps = true ∧ pureL 100 qs = true ∧ Q (.bl (deqs ps qs)) G
    | _, _ => False
  | .ref _, _ => False
  | _, .ref _ => False
  | p, q => pureP 100 p = true ∧ pureP 100 q = true ∧ Q (.bl (deq p q)) G
def ne2 : B2 := fun p q G Q => match p, q with
  | .ref a, .ref b => match lk G a, lk G b with
    | some ps, some qs => pureL 100 ps = true ∧ pureL 100 qs = true ∧ Q (.bl (!deqs ps qs)) G
    | _, _ => False
  | .ref _, _ => False
  | _, .ref _ => False
  | p, q => pureP 100 p = true ∧ pureP 100 q = true ∧ Q (.bl (!deq p q)) G
section
variable {X : Cx} {pins : List (Addr × Obj)} {σ : L2.St} {H : Hp} {s : Shared}
theorem rc_D (I : Inv X pins σ H s) (p q : PV) (A : Around) {x y : V} {v u : Value} (d1 : Dv X.K H p x) (r1 : RelV x v) (d2 : Dv X.K H q y) (r2 : RelV y u) (f1 : pureP 100 p = true) (f2 : pureP 100 q = true) (hu : A.units + 101 < cLine) : SeqAt.RcAt A s v u (deq p q) := by
  have hu' : A.units < cLine := by omega
  cases p with
  | ref a => cases f1
  | ty a => cases f1
  | ro a => cases f1
  | tup ps =>
    obtain ⟨l, xs, rfl, sq, dd⟩ := d1
    cases r1
    obtain ⟨its, rv, pl, _⟩ := I.tuple sq
    cases q with
    | ref a => cases f2
    | ty a => cases f2
    | ro a => cases f2
    | tup qs =>
      obtain ⟨l2, ys, rfl, sq2, dd2⟩ := d2
      cases r2
      obtain ⟨its2, rv2, pl2, _⟩ := I.tuple sq2
      have z := SeqAt.RcAt.tuples (A := A) (e := deqJ ps qs) pl pl2 hu' fun j h1 h2 => eq_Ds I 99 99 ps qs A.in1 dd rv dd2 rv2 f1 f2 (by rw [PySem.Around.in1_units]; omega) j h1 h2
      rw [List.size_toArray, List.size_toArray, ← rv.length, ← rv2.length, dd.length, dd2.length, deqs_min] at z
      unfold deq
      exact z
    | non => obtain rfl : y = .non := d2; cases r2; exact SeqAt.RcAt.tuple_none pl hu'
    | bl b => obtain rfl : y = .bl b := d2; cases r2; exact SeqAt.RcAt.tuple_bool b pl hu'
    | int b => obtain rfl : y = .int b := d2; obtain ⟨t, rfl⟩ := r2; exact SeqAt.RcAt.tuple_int b t pl hu'
    | str b => obtain rfl : y = .str b := d2; obtain ⟨t, rfl⟩ := r2; exact SeqAt.RcAt.tuple_str b t pl hu'
  | non =>
    obtain rfl : x = .non := d1
    cases r1
    cases q with
    | ref a => cases f2
    | ty a => cases f2
    | ro a => cases f2
    | tup qs =>
      obtain ⟨l2, ys, rfl, sq2, dd2⟩ := d2
      cases r2
      obtain ⟨its2, rv2, pl2, _⟩ := I.tuple sq2
      exact SeqAt.RcAt.none_tuple pl2 hu'
    | non => obtain rfl : y = .non := d2; cases r2; exact SeqAt.RcAt.none_none
    | bl b => obtain rfl : y = .bl b := d2; cases r2; exact SeqAt.RcAt.none_bool b
    | int b => obtain rfl : y = .int b := d2; obtain ⟨t, rfl⟩ := r2; exact SeqAt.RcAt.none_int b t
    | str b => obtain rfl : y = .str b := d2; obtain ⟨t, rfl⟩ := r2; exact SeqAt.RcAt.none_str b t
  | bl a =>
    obtain rfl : x = .bl a := d1
    cases r1
    cases q with
    | ref a => cases f2
    | ty a => cases f2
    | ro a => cases f2
    | tup qs =>
      obtain ⟨l2, ys, rfl, sq2, dd2⟩ := d2
      cases r2
      obtain ⟨its2, rv2, pl2, _⟩ := I.tuple sq2
      exact SeqAt.RcAt.bool_tuple a pl2 hu'
    | non => obtain rfl : y = .non := d2; cases r2; exact SeqAt.RcAt.bool_none a
    | bl b => obtain rfl : y = .bl b := d2; cases r2; exact SeqAt.RcAt.bool_bool a b
    | int b => obtain rfl : y = .int b := d2; obtain ⟨t, rfl⟩ := r2; exact SeqAt.RcAt.bool_int a b t
    | str b => obtain rfl : y = .str b := d2; obtain ⟨t, rfl⟩ := r2; exact SeqAt.RcAt.bool_str a b t
  | int a =>
    obtain rfl : x = .int a := d1
    obtain ⟨t', rfl⟩ := r1
    cases q with
    | ref a => cases f2
    | ty a => cases f2
    | ro a => cases f2
    | tup qs =>
      obtain ⟨l2, ys, rfl, sq2, dd2⟩ := d2
      cases r2
      obtain ⟨its2, rv2, pl2, _⟩ := I.tuple sq2
      exact SeqAt.RcAt.int_tuple a t' pl2 hu'
    | non => obtain rfl : y = .non := d2; cases r2; exact SeqAt.RcAt.int_none a t'
    | bl b => obtain rfl : y = .bl b := d2; cases r2; exact SeqAt.RcAt.int_bool a t' b
    | int b => obtain rfl : y = .int b := d2; obtain ⟨t, rfl⟩ := r2; exact SeqAt.RcAt.int_int a t' b t
    | str b => obtain rfl : y = .str b := d2; obtain ⟨t, rfl⟩ := r2; exact SeqAt.RcAt.int_str a t' b t
  | str a =>
    obtain rfl : x = .str a := d1
    obtain ⟨t', rfl⟩ := r1
    cases q with
    | ref a => cases f2
    | ty a => cases f2
    | ro a => cases f2
    | tup qs =>
      obtain ⟨l2, ys, rfl, sq2, dd2⟩ := d2
      cases r2
      obtain ⟨its2, rv2, pl2, _⟩ := I.tuple sq2
      exact SeqAt.RcAt.str_tuple a t' pl2 hu'
    | non => obtain rfl : y = .non := d2; cases r2; exact SeqAt.RcAt.str_none a t'
    | bl b => obtain rfl : y = .bl b := d2; cases r2; exact SeqAt.RcAt.str_bool a t' b
    | int b => obtain rfl : y = .int b := d2; obtain ⟨t, rfl⟩ := r2; exact SeqAt.RcAt.str_int a t' b t
    | str b => obtain rfl : y = .str b := d2; obtain ⟨t, rfl⟩ := r2; exact SeqAt.RcAt.str_str a t' b t
theorem rcne_D (I : Inv X pins σ H s) (p q : PV) (A : Around) {x y : V} {v u : Value} (d1 : Dv X.K H p x) (r1 : RelV x v) (d2 : Dv X.K H q y) (r2 : RelV y u) (f1 : pureP 100 p = true) (f2 : pureP 100 q = true) (hu : A.units + 101 < cLine) : SeqAt.RcNeAt A s v u (!deq p q) := by
  have hu' : A.units < cLine := by omega
  cases p with
  | ref a => cases f1
  | ty a => cases f1
  | ro a => cases f1
  | tup ps =>
    obtain ⟨l, xs, rfl, sq, dd⟩ := d1
    cases r1
    obtain ⟨its, rv, pl, _⟩ := I.tuple sq
    cases q with
    | ref a => cases f2
    | ty a => cases f2
    | ro a => cases f2
    | tup qs =>
      obtain ⟨l2, ys, rfl, sq2, dd2⟩ := d2
      cases r2
      obtain ⟨its2, rv2, pl2, _⟩ := I.tuple sq2
      have z := SeqAt.RcNeAt.tuples (A := A) (e := deqJ ps qs) pl pl2 hu' fun j h1 h2 => eq_Ds I 99 99 ps qs A.in1 dd rv dd2 rv2 f1 f2 (by rw [PySem.Around.in1_units]; omega) j h1 h2
      rw [List.size_toArray, List.size_toArray, ← rv.length, ← rv2.length, dd.length, dd2.length, deqs_min] at z
      unfold deq
      exact z
    | non => obtain rfl : y = .non := d2; cases r2; exact SeqAt.RcNeAt.tuple_none pl hu'
    | bl b => obtain rfl : y = .bl b := d2; cases r2; exact SeqAt.RcNeAt.tuple_bool b pl hu'
    | int b => obtain rfl : y = .int b := d2; obtain ⟨t, rfl⟩ := r2; exact SeqAt.RcNeAt.tuple_int b t pl hu'
    | str b => obtain rfl : y = .str b := d2; obtain ⟨t, rfl⟩ := r2; exact SeqAt.RcNeAt.tuple_str b t pl hu'
  | non =>
    obtain rfl : x = .non := d1
    cases r1
    cases q with
    | ref a => cases f2
    | ty a => cases f2
    | ro a => cases f2
    | tup qs =>
      obtain ⟨l2, ys, rfl, sq2, dd2⟩ := d2
      cases r2
      obtain ⟨its2, rv2, pl2, _⟩ := I.tuple sq2
      exact SeqAt.RcNeAt.none_tuple pl2 hu'
    | non => obtain rfl : y = .non := d2; cases r2; exact SeqAt.RcNeAt.none_none
    | bl b => obtain rfl : y = .bl b := d2; cases r2; exact SeqAt.RcNeAt.none_bool b
    | int b => obtain rfl : y = .int b := d2; obtain ⟨t, rfl⟩ := r2; exact SeqAt.RcNeAt.none_int b t
    | str b => obtain rfl : y = .str b := d2; obtain ⟨t, rfl⟩ := r2; exact SeqAt.RcNeAt.none_str b t
  | bl a =>
    obtain rfl : x = .bl a := d1
    cases r1
    cases q with
    | ref a => cases f2
    | ty a => cases f2
    | ro a => cases f2
    | tup qs =>
      obtain ⟨l2, ys, rfl, sq2, dd2⟩ := d2
      cases r2
      obtain ⟨its2, rv2, pl2, _⟩ := I.tuple sq2
      exact SeqAt.RcNeAt.bool_tuple a pl2 hu'
    | non => obtain rfl : y = .non := d2; cases r2; exact SeqAt.RcNeAt.bool_none a
    | bl b => obtain rfl : y = .bl b := d2; cases r2; exact SeqAt.RcNeAt.bool_bool a b
    | int b => obtain rfl : y = .int b := d2; obtain ⟨t, rfl⟩ := r2; exact SeqAt.RcNeAt.bool_int a b t
    | str b => obtain rfl : y = .str b := d2; obtain ⟨t, rfl⟩ := r2; exact SeqAt.RcNeAt.bool_str a b t
  | int a =>
    obtain rfl : x = .int a := d1
    obtain ⟨t', rfl⟩ := r1
    cases q with
    | ref a => cases f2
    | ty a => cases f2
    | ro a => cases f2
    | tup qs =>
      obtain ⟨l2, ys, rfl, sq2, dd2⟩ := d2
      cases r2
      obtain ⟨its2, rv2, pl2, _⟩ := I.tuple sq2
      exact SeqAt.RcNeAt.int_tuple a t' pl2 hu'
    | non => obtain rfl : y = .non := d2; cases r2; exact SeqAt.RcNeAt.int_none a t'
    | bl b => obtain rfl : y = .bl b := d2; cases r2; exact SeqAt.RcNeAt.int_bool a t' b
    | int b => obtain rfl : y = .int b := d2; obtain ⟨t, rfl⟩ := r2; exact SeqAt.RcNeAt.int_int a t' b t
    | str b => obtain rfl : y = .str b := d2; obtain ⟨t, rfl⟩ := r2; exact SeqAt.RcNeAt.int_str a t' b t
  | str a =>
    obtain rfl : x = .str a := d1
    obtain ⟨t', rfl⟩ := r1
    cases q with
    | ref a => cases f2
    | ty a => cases f2
    | ro a => cases f2
    | tup qs =>
      obtain ⟨l2, ys, rfl, sq2, dd2⟩ := d2
      cases r2
      obtain ⟨its2, rv2, pl2, _⟩ := I.tuple sq2
      exact SeqAt.RcNeAt.str_tuple a t' pl2 hu'
    | non => obtain rfl : y = .non := d2; cases r2; exact SeqAt.RcNeAt.str_none a t'
    | bl b => obtain rfl : y = .bl b := d2; cases r2; exact SeqAt.RcNeAt.str_bool a t' b
    | int b => obtain rfl : y = .int b := d2; obtain ⟨t, rfl⟩ := r2; exact SeqAt.RcNeAt.str_int a t' b t
    | str b => obtain rfl : y = .str b := d2; obtain ⟨t, rfl⟩ := r2; exact SeqAt.RcNeAt.str_str a t' b t
theorem op_eqD (hu : X.A.units + 200 < cLine) : OpR X (compareOp .Eq) (lowB X.K eq2) := by
  intro pins s σ H x y v u Q I rx ry h
  obtain ⟨p, q, G, Q2, d1, d2, rp, h, cl⟩ := h
  have fin : ∀ (f1 : pureP 100 p = true) (f2 : pureP 100 q = true), Q2 (.bl (deq p q)) G → wpAny (model X.prog X.w) X.A (compareOp .Eq v u) (EP X pins σ Q) X.xe s := fun f1 f2 hq =>
    rc_D I p q X.A d1 rx d2 ry f1 f2 (by omega) X.prog X.w X.xe _ ⟨.bl _, H, I, rfl, cl _ _ _ _ hq rfl rp .refl⟩
  unfold eq2 at h
  split at h
  · rename_i a b
    split at h
    · rename_i ps qs e1 e2
      obtain ⟨f1, f2, hq⟩ := h
      obtain rfl : x = .ref a := d1
      obtain rfl : y = .ref b := d2
      cases rx
      cases ry
      obtain ⟨xs, sa, da⟩ := lk_sq rp e1
      obtain ⟨ys, sb, db⟩ := lk_sq rp e2
      obtain ⟨us, r, pl, _⟩ := I.list sa
      obtain ⟨ws, r', pl', _⟩ := I.list sb
      have l1 := r.length
      have l2 := r'.length
      have l3 := da.length
      have l4 := db.length
      by_cases hl : ps.length = qs.length
      · refine SeqAt.eq_listAt (e := deqJ ps qs) pl.isList pl'.isList (by simp; omega) (by omega) (fun j h1 h2 => eq_Ds I 100 100 ps qs X.A.in1 da r db r' f1 f2 (by rw [PySem.Around.in1_units]; omega) j h1 h2) ⟨.bl (deqs ps qs), H, I, ?_, cl _ _ _ _ hq rfl rp .refl⟩
        rw [List.size_toArray, ← l1, l3, deqs_range ps qs hl]
        rfl
      · refine SeqAt.eq_list_lengthsAt pl.isList pl'.isList (by simp; omega) (by omega) ⟨.bl (deqs ps qs), H, I, ?_, cl _ _ _ _ hq rfl rp .refl⟩
        rw [deqs_len hl]
        rfl
    · exact h.elim
  · exact h.elim
  · exact h.elim
  · obtain ⟨f1, f2, hq⟩ := h
    exact fin f1 f2 hq
theorem op_neD (hu : X.A.units + 200 < cLine) : OpR X (compareOp .NotEq) (lowB X.K ne2) := by
  intro pins s σ H x y v u Q I rx ry h
  obtain ⟨p, q, G, Q2, d1, d2, rp, h, cl⟩ := h
  have fin : ∀ (f1 : pureP 100 p = true) (f2 : pureP 100 q = true), Q2 (.bl (!deq p q)) G → wpAny (model X.prog X.w) X.A (compareOp .NotEq v u) (EP X pins σ Q) X.xe s := fun f1 f2 hq =>
    rcne_D I p q X.A d1 rx d2 ry f1 f2 (by omega) X.prog X.w X.xe _ ⟨.bl _, H, I, rfl, cl _ _ _ _ hq rfl rp .refl⟩
  unfold ne2 at h
  split at h
  · rename_i a b
    split at h
    · rename_i ps qs e1 e2
      obtain ⟨f1, f2, hq⟩ := h
      obtain rfl : x = .ref a := d1
      obtain rfl : y = .ref b := d2
      cases rx
      cases ry
      obtain ⟨xs, sa, da⟩ := lk_sq rp e1
      obtain ⟨ys, sb, db⟩ := lk_sq rp e2
      obtain ⟨us, r, pl, _⟩ := I.list sa
      obtain ⟨ws, r', pl', _⟩ := I.list sb
      have l1 := r.length
      have l2 := r'.length
      have l3 := da.length
      have l4 := db.length
      by_cases hl : ps.length = qs.length
      · refine SeqAt.RcNeAt.lists (e := deqJ ps qs) pl.isList pl'.isList (by simp; omega) (by omega) (fun j h1 h2 => eq_Ds I 100 100 ps qs X.A.in1 da r db r' f1 f2 (by rw [PySem.Around.in1_units]; omega) j h1 h2) _ _ _ _ ⟨.bl (!deqs ps qs), H, I, ?_, cl _ _ _ _ hq rfl rp .refl⟩
        rw [List.size_toArray, ← l1, l3, deqs_range ps qs hl]
        rfl
      · refine SeqAt.RcNeAt.lists_lengths pl.isList pl'.isList (by simp; omega) (by omega) _ _ _ _ ⟨.bl (!deqs ps qs), H, I, ?_, cl _ _ _ _ hq rfl rp .refl⟩
        rw [deqs_len hl]
        rfl
    · exact h.elim
  · exact h.elim
  · exact h.elim
  · obtain ⟨f1, f2, hq⟩ := h
    exact fin f1 f2 hq
end
end L3
namespace L3
open PySem L2
theorem it_tup {K : PySem.W.Frag} {H1 : Hp} {a : Addr} {vs : List V} {ps : List PV} (sq : SqT K H1 a vs) (d : Dvs K H1 ps vs) : ItOk K H1 (Itt K a) ps (fun _ => True) := fun i H G k r _ => by
  have sq' := k.1 a vs sq
  have d' := d.keep k
  refine ⟨fun hi => ?_, fun hi => ⟨vs, sq', by rw [d.length]; omega⟩, fun x H' hi y => ?_⟩
  · obtain ⟨v, e, _⟩ := d'.at (List.getElem?_eq_getElem hi)
    exact ⟨vs, v, sq', e⟩
  · obtain ⟨rfl, y⟩ := y
    obtain ⟨p, e, dp⟩ := d'.get (y vs sq')
    exact ⟨p, e, .refl, r, dp⟩
theorem it_lst {K : PySem.W.Frag} {H1 : Hp} {a : Addr} {ps : List PV} : ItOk K H1 (Itl K a) ps (fun G => lk G a = some ps) := fun i H G k r c => by
  obtain ⟨vs, sq', d'⟩ := lk_sq r c
  refine ⟨fun hi => ?_, fun hi => ⟨vs, sq', by rw [d'.length]; omega⟩, fun x H' hi y => ?_⟩
  · obtain ⟨v, e, _⟩ := d'.at (List.getElem?_eq_getElem hi)
    exact ⟨vs, v, sq', e⟩
  · obtain ⟨rfl, y⟩ := y
    obtain ⟨p, e, dp⟩ := d'.get (y vs sq')
    exact ⟨p, e, .refl, r, dp⟩
def signsP (z : Str) : List PV := z.cps.toList.map fun c => .str ⟨#[c]⟩
theorem signsP_length (z : Str) : (signsP z).length = z.length := by unfold signsP; simp; rfl
theorem it_str {K : PySem.W.Frag} {H1 : Hp} (z : Str) : ItOk K H1 (Its z) (signsP z) (fun _ => True) := fun i H G k r _ => by
  have hl : (signsP z).length = z.cps.size := by unfold signsP; simp
  refine ⟨fun hi => ?_, fun hi => ?_, fun x H' hi y => ?_⟩
  · show i < z.cps.size
    omega
  · show z.cps.size ≤ i
    omega
  · obtain ⟨rfl, c, e, rfl⟩ := y
    refine ⟨.str ⟨#[c]⟩, ?_, .refl, r, rfl⟩
    unfold signsP
    rw [List.getElem?_map]
    have : z.cps.toList[i]? = some c := by simpa using e
    rw [this]; rfl
def intsP (lo : Int) (n : Nat) : List PV := (List.range n).map fun (i : Nat) => .int (lo + i)
theorem it_rng {K : PySem.W.Frag} {H1 : Hp} (lo : Int) (n : Nat) : ItOk K H1 (Itr lo n) (intsP lo n) (fun _ => True) := fun i H G k r _ => by
  have hl : (intsP lo n).length = n := by unfold intsP; simp
  refine ⟨fun hi => ?_, fun hi => ?_, fun x H' hi y => ?_⟩
  · show i < n
    omega
  · show n ≤ i
    omega
  · obtain ⟨rfl, rfl⟩ := y
    refine ⟨.int (lo + i), ?_, .refl, r, rfl⟩
    unfold intsP
    rw [List.getElem?_map, List.getElem?_range (by omega)]
    rfl
abbrev itS (t : E2) : TI2 := fun τ G R => t τ G fun p G1 => match p with
  | .tup ps => R ps (fun _ => True) G1
  | .ref a => match lk G1 a with
    | some ps => R ps (fun G => lk G a = some ps) G1
    | none => False
  | .str z => R (signsP z) (fun _ => True) G1
  | _ => False
abbrev itR1 (t : A2) : TI2 := fun τ G R => t τ G fun ps G1 => match ps with
  | [.int j] => -(2 ^ 62) ≤ j ∧ j < 2 ^ 62 ∧ R (intsP 0 j.toNat) (fun _ => True) G1
  | _ => False
/-- the iterator of a text just made -/
theorem str_val {X : Cx} {pins : List (Addr × Obj)} {σ : L2.St} {H1 : Hp} {s1 : Shared} {x : Str} {px : Pos} {z : Str} {v : Value} {R : It → Hp → Prop} (I1 : Inv X pins σ H1 s1) (r1 : RelV (.str z) v) (q : R (Its z) H1) :
    wpAny (model X.prog X.w) X.A (pyIter v) (PIE X pins σ (.Name x px) R) X.xe s1 := by
  obtain ⟨t, rfl⟩ := r1
  cases ha : z.cps.all (· < 128)
  · refine PySem.wpAny_pyIter_wide ha ⟨s1.heap.objs.size, [s1.heap.objs.size], _, _, H1, rfl, I1.kept (t' := s1.toks) fun b o e => Heap.get?_push_of_some _ e, turn_str _ z t "str_iterator" (.inr rfl), ⟨⟨_, Heap.get?_push_size _ rfl, rfl, rfl⟩, Nat.zero_le _⟩, fun b hb => ?_, q⟩
    have e : b = s1.heap.objs.size := by simpa using hb
    subst e
    exact I1.fpOk (Nat.le_refl _) (I1.hok.fresh (Nat.le_refl _))
  · refine PySem.wpAny_pyIter_ascii ha ⟨s1.heap.objs.size, [s1.heap.objs.size], _, _, H1, rfl, I1.kept (t' := s1.toks) fun b o e => Heap.get?_push_of_some _ e, turn_str _ z t "str_ascii_iterator" (.inl rfl), ⟨⟨_, Heap.get?_push_size _ rfl, rfl, rfl⟩, Nat.zero_le _⟩, fun b hb => ?_, q⟩
    have e : b = s1.heap.objs.size := by simpa using hb
    subst e
    exact I1.fpOk (Nat.le_refl _) (I1.hok.fresh (Nat.le_refl _))
section
variable {X : Cx} {l tg a b : Expr} {t : E2} {ta : A2} {x : Str} {px p pos : Pos}
theorem ji_name (hl : JE X l t) : JI X (.Name x px) l (itS t) := ⟨by
  intro pins s σ H R I h
  obtain ⟨τ, G, R2, rs, rp, h, cl⟩ := h
  refine thn (hl.h pins s σ H (fun v H1 => ∃ p G1, Dv X.K H1 p v ∧ Rep X.K H1 G1 ∧ Keep X.K H H1 ∧ (match p with
    | .tup ps => R2 ps (fun _ => True) G1
    | .ref a => match lk G1 a with
      | some ps => R2 ps (fun G => lk G a = some ps) G1
      | none => False
    | .str z => R2 (signsP z) (fun _ => True) G1
    | _ => False)) I ⟨τ, G, _, rs, rp, h, fun p G1 v H1 q d r k => ⟨p, G1, d, r, k, q⟩⟩) fun v s1 ⟨y, H1, I1, r1, q, G1, d1, rp1, k1, q1⟩ => ?_
  cases q with
  | tup ps =>
    obtain ⟨a, vs, rfl, sq, dv⟩ := d1
    cases r1
    obtain ⟨its, rv, p, hz⟩ := I1.tuple sq
    refine wpAny_pyIter_tuple (show s1.heap.IsTuple a its.toArray from p) ?_
    refine ⟨s1.heap.objs.size, [s1.heap.objs.size], _, _, H1, rfl, I1.kept (t' := s1.toks) fun b o e => Heap.get?_push_of_some _ e, turn_tuple a _, ⟨_, Heap.get?_push_size _ rfl, rfl, rfl⟩, fun b hb => ?_, cl _ _ _ _ _ q1 rp1 k1 (it_tup sq dv)⟩
    have e : b = s1.heap.objs.size := by simpa using hb
    subst e
    exact I1.fpOk (Nat.le_refl _) (I1.hok.fresh (Nat.le_refl _))
  | ref a =>
    obtain rfl : y = .ref a := d1
    cases r1
    dsimp only at q1
    split at q1
    · rename_i ps e
      obtain ⟨vs, sq, dv⟩ := lk_sq rp1 e
      obtain ⟨its, rv, p, hz⟩ := I1.list sq
      refine wpAny_pyIter_list p.isList ?_
      refine ⟨s1.heap.objs.size, [s1.heap.objs.size], _, _, H1, rfl, I1.kept (t' := s1.toks) fun b o e => Heap.get?_push_of_some _ e, turn_list a _, ⟨_, Heap.get?_push_size _ rfl, rfl, rfl⟩, fun b hb => ?_, cl _ _ _ _ _ q1 rp1 k1 it_lst⟩
      have e : b = s1.heap.objs.size := by simpa using hb
      subst e
      exact I1.fpOk (Nat.le_refl _) (I1.hok.fresh (Nat.le_refl _))
    · exact q1.elim
  | str z =>
    obtain rfl : y = .str z := d1
    exact str_val I1 r1 (cl _ _ _ _ _ q1 rp1 k1 (it_str z))
  | non => exact q1.elim
  | bl b => exact q1.elim
  | int i => exact q1.elim
  | ty n => exact q1.elim
  | ro n => exact q1.elim⟩
theorem ji_range1 (hm : X.mg "range" = none) (ha : JA X [a] ta) (hg : Gl X "range" := by rfl) (hs : starEach [a] X.env = [(false, eval a X.env)] := by rfl) : JI X tg (.Call (.Name "range" p) [a] [] pos) (itR1 ta) := .of (pi_range1 hg hm ha.h hs) fun σ H R ⟨τ, G, R2, rs, rp, h, cl⟩ => by
  refine ⟨τ, G, _, rs, rp, h, fun ps G1 vs H1 q d r k => ?_⟩
  split at q
  · rename_i j
    obtain ⟨v, vr, rfl, d1, d⟩ := d
    obtain rfl : vr = [] := d
    obtain rfl : v = .int j := d1
    exact ⟨j, rfl, q.1, q.2.1, cl _ _ _ _ _ q.2.2 r k (it_rng _ _)⟩
  · exact q.elim
end

section
variable {X : Cx} {a : Expr} {ta : A2} {p pos tp : Pos} {elts : List Expr} {x1 : Nat}
end

@[reducible] def cap2 : List (Option Nat) → St2 → St2
  | [], _ => []
  | some i :: r, τ => gt τ i :: cap2 r τ
  | none :: r, τ => none :: cap2 r τ
theorem cap2_eq : ∀ (ix : List (Option Nat)) (τ : St2), cap2 ix τ = ix.map fun o => match o with
    | some i => (τ[i]?).getD none
    | none => none
  | [], _ => rfl
  | some i :: r, τ => by simp only [cap2, List.map_cons, gt_eq, cap2_eq r τ]
  | none :: r, τ => by simp only [cap2, List.map_cons, cap2_eq r τ]
theorem cap_rst {K : PySem.W.Frag} {H : Hp} {σ : L2.St} {τ : St2} (ix : List (Option Nat)) (r : RSt K H σ τ) : RSt K H (cap ix σ) (cap2 ix τ) := by
  rw [cap2_eq]
  refine ⟨by unfold cap; simp, fun i p e => ?_⟩
  unfold cap
  rw [List.getElem?_map] at e ⊢
  cases q : ix[i]? with
  | none => rw [q] at e; cases e
  | some o =>
    cases o with
    | none => rw [q] at e; cases e
    | some k =>
      rw [q] at e
      have e' : some ((τ[k]?).getD none) = some (some p) := e
      have e2 := Option.some.inj e'
      cases q2 : τ[k]? with
      | none => rw [q2] at e2; cases e2
      | some z =>
        rw [q2] at e2
        have e3 : z = some p := e2
        subst e3
        obtain ⟨v, ev, d⟩ := r.2 k p q2
        refine ⟨v, ?_, d⟩
        show some ((σ[k]?).getD none) = _
        rw [ev]
        rfl
/-- the turns of a comprehension -/
def cGo (items : List PV) (c : Gp → Prop) (ix : List (Option Nat)) (j : Nat) (τ : St2) (tf : T2) (te : E2) (Q : K2) (G1 : Gp) (acc : Addr) : Prop :=
  ∃ W : Nat → List PV → Gp → Prop, W 0 [] (up G1 acc (.lst [])) ∧ (∀ i ys G, i ≤ items.length → W i ys G → c G ∧ G acc = some (.lst ys) ∧ ys.length < 1000000) ∧
    (∀ i ys G x, items[i]? = some x → W i ys G → tf (st (cap2 ix τ) j (some x)) G fun b G2 => way2 b (te (st (cap2 ix τ) j (some x)) G2 fun y G3 => G3 acc = some (.lst ys) ∧ W (i + 1) (ys ++ [y]) (up G3 acc (.lst (ys ++ [y])))) (W (i + 1) ys G2)) ∧ ∀ ys G, W items.length ys G → Q (.ref acc) G
abbrev eComp (ti : TI2) (ix : List (Option Nat)) (j : Nat) (tf : T2) (te : E2) : E2 := fun τ G Q => ti τ G fun items c G1 => ∀ acc, G1 acc = none → cGo items c ix j τ tf te Q G1 acc
structure JF (X : Cx) (ifs : List Expr) (t : T2) : Prop where
  h : PF X ifs (lowT X.K t)
abbrev tYes2 : T2 := fun _ G Q => Q true G
section
variable {X : Cx} {c : Expr} {tA : T2}
theorem jf_nil : JF X [] tYes2 := ⟨fun pins s σ H Q I ⟨τ, G, Q2, rs, rp, q, cl⟩ => pf_nil pins s σ H Q I (cl _ _ _ q rp .refl)⟩
theorem jf_one (h : JT X c tA) : JF X [c] tA := ⟨pf_one h.h⟩
theorem low_comp {ti : TI2} {ix : List (Option Nat)} {j : Nat} {tf : T2} {te : E2} {σ : L2.St} {H : Hp} {Q : VK} (q : lowE X.K (eComp ti ix j tf te) σ H Q) : tComp (lowI X.K ti) ix j (lowT X.K tf) (lowE X.K te) σ H Q := by
  obtain ⟨τ, G, Q2, rs, rp, q, cl⟩ := q
  refine ⟨τ, G, _, rs, rp, q, fun items c G1 J H1 q1 r1 k1 ok acc hacc => ?_⟩
  obtain ⟨W, w0, hW, turn, done⟩ := q1 acc (r1.none hacc)
  have kn : Keep X.K H1 (upd H1 acc (.lst [])) := keep_new hacc
  refine ⟨fun i m H' => m = items.length - i ∧ i ≤ items.length ∧ ∃ ys G', W i ys G' ∧ Rep X.K H' G' ∧ Keep X.K H1 H', ⟨_, rfl, Nat.zero_le _, [], _, w0, r1.new hacc .nil, kn⟩, ?_⟩
  rintro i m H2 ⟨rfl, hi, ys, G2, w2, r2, k2⟩
  obtain ⟨hc, hacc2, hys⟩ := hW i ys G2 hi w2
  obtain ⟨o1, o2, o3⟩ := ok i H2 G2 k2 r2 hc
  by_cases hlt : i < items.length
  · refine .inr ⟨o1 hlt, fun x H3 y => ?_⟩
    obtain ⟨p, ep, k3, r3, d3⟩ := o3 x H3 hlt y
    have k13 := k2.trans k3
    have rs3 : RSt X.K H3 ((cap ix σ).set j (some x)) (st (cap2 ix τ) j (some p)) := (cap_rst ix (rs.keep (k1.trans k13))).set d3 j
    refine ⟨_, G2, _, rs3, r3, turn i ys G2 p ep w2, fun b G4 H4 q4 r4 k4 => ?_⟩
    have k14 := k13.trans k4
    cases b with
    | false => exact iteF ⟨items.length - (i + 1), by omega, rfl, hlt, ys, G4, q4, r4, k14⟩
    | true =>
      refine iteT ⟨_, G4, _, rs3.keep k4, r4, q4, fun y G5 v H5 q5 d5 r5 k5 => ?_⟩
      obtain ⟨ea, w5⟩ := q5
      obtain ⟨vs, hv, dv⟩ := r5.lst ea
      refine ⟨vs, hv, by rw [dv.length]; exact bigLt (Nat.le_of_lt hys), items.length - (i + 1), by omega, rfl, hlt, ys ++ [y], _, w5, r5.put hv (dv.append (.cons d5 .nil)), (k14.trans k5).trans (keep_lst hv)⟩
  · have e : i = items.length := by omega
    subst e
    exact .inl ⟨o2 rfl, cl _ _ _ _ (done ys G2 w2) rfl r2 (k1.trans k2)⟩
theorem j_comp {scope : Scope} {M : List Str} {ix : List (Option Nat)} {j : Nat} {x : Str} {elt iter : Expr} {px pos : Pos} {ifs : List Expr} {ti : TI2} {tf : T2} {te : E2} (S : compOkB X.env.scope X.N scope M ix j x = true) (hc : X.calm = true) (hi : JI X (.Name x px) iter ti)
    (hb : ∀ C s H fp, JF (cxComp X M scope C s H fp) ifs tf ∧ JE (cxComp X M scope C s H fp) elt te) (hs : ∀ x, foldedSetIterable iter X.env x = pure x := by intro _; rfl) :
    JE X (.ListComp elt [⟨.Name x px, iter, ifs, 0⟩] scope pos) (eComp ti ix j tf te) := .of (pe_comp (compS S) hc hi.h (fun C s H fp => ⟨(hb C s H fp).1.h, (hb C s H fp).2.h⟩) hs) fun σ H Q q => low_comp q
theorem js_comp {scope : Scope} {M : List Str} {ix : List (Option Nat)} {j n : Nat} {x y : Str} {elt iter : Expr} {px py pos spos : Pos} {ifs : List Expr} {ti : TI2} {tf : T2} {te : E2} (hN : X.N.Nodup) (hi : X.N[n]? = some y) (hy : X.env.scope.names.lookup y = some .local)
    (S : compOkB X.env.scope X.N scope M ix j x = true) (hc : X.calm = true) (hit : JI X (.Name x px) iter ti)
    (hb : ∀ C s H fp, JF (cxComp X M scope C s H fp) ifs tf ∧ JE (cxComp X M scope C s H fp) elt te)
    (hsw : swapsWith (.ListComp elt [⟨.Name x px, iter, ifs, 0⟩] scope pos) (some (.Name y py)) spos.line X.env = pure true := by rfl) (hs : ∀ x, foldedSetIterable iter X.env x = pure x := by intro _; rfl) :
    JS X (.Assign [.Name y py] (.ListComp elt [⟨.Name x px, iter, ifs, 0⟩] scope pos) spos) (sAsg (eComp ti ix j tf te) (gN n)) := .of (ps_comp hN hi hy (compS S) hc hit.h (fun C s H fp => ⟨(hb C s H fp).1.h, (hb C s H fp).2.h⟩) hsw hs) fun D σ H ⟨τ, G, D2, rs, rp, q, cl⟩ => by
  exact low_comp (X := X) ⟨τ, G, _, rs, rp, q, fun p G1 v H1 q1 d1 r1 k1 => cl.nx _ _ _ _ q1 ((rs.keep k1).set d1 n) r1 k1⟩
/-- the turns, where no turn changes anything -/
theorem cGo_pure {items : List PV} {c : Gp → Prop} {ix : List (Option Nat)} {j : Nat} {τ : St2} {tf : T2} {te : E2} {Q : K2} {G1 : Gp} {acc : Addr} (f : PV → Bool) (g : PV → PV) (hz : items.length < 1000000)
    (hc : ∀ ys, c (up G1 acc (.lst ys))) (ht : ∀ x ys (R : Bool → Gp → Prop), x ∈ items → R (f x) (up G1 acc (.lst ys)) → tf (st (cap2 ix τ) j (some x)) (up G1 acc (.lst ys)) R)
    (he : ∀ x ys (R : K2), x ∈ items → f x = true → R (g x) (up G1 acc (.lst ys)) → te (st (cap2 ix τ) j (some x)) (up G1 acc (.lst ys)) R)
    (hq : Q (.ref acc) (up G1 acc (.lst ((items.filter f).map g)))) : cGo items c ix j τ tf te Q G1 acc := by
  refine ⟨fun i ys G => ys = ((items.take i).filter f).map g ∧ G = up G1 acc (.lst ys), ⟨by simp, rfl⟩, ?_, ?_, ?_⟩
  · rintro i ys G hi ⟨rfl, rfl⟩
    refine ⟨hc _, up_same, ?_⟩
    rw [List.length_map]
    exact Nat.lt_of_le_of_lt (Nat.le_trans (List.length_filter_le _ _) (by rw [List.length_take]; omega)) hz
  · rintro i ys G x hx ⟨rfl, rfl⟩
    have hm := List.mem_of_getElem? hx
    have tk : items.take (i + 1) = items.take i ++ [x] := by rw [List.take_add_one, hx]; rfl
    refine ht x _ _ hm ?_
    cases hf : f x with
    | true =>
      refine ifT rfl ?_
      refine he x _ _ hm hf ⟨up_same, ?_, up_up⟩
      rw [tk, List.filter_append, List.map_append]
      simp [hf]
    | false =>
      refine ifF rfl ⟨?_, rfl⟩
      rw [tk, List.filter_append]
      simp [hf]
  · rintro ys G ⟨rfl, rfl⟩
    rw [List.take_length]
    exact hq
end
end L3
namespace L3
open PySem L2
def add2 : B2 := fun p q G Q => match p, q with
  | .int i, .int j => Q (.int (i + j)) G
  | .str a, .str b => a.length + b.length ≤ 1000000 ∧ Q (.str (a ++ b)) G
  | .tup xs, .tup ys => xs ≠ [] ∧ xs.length + ys.length ≤ 1000000 ∧ Q (.tup (xs ++ ys)) G
  | .ref a, .ref b => match lk G a, lk G b with
    | some ps, some qs => ps.length + qs.length ≤ 1000000 ∧ ∀ c, G c = none → Q (.ref c) (up G c (.lst (ps ++ qs)))
    | _, _ => False
  | .ref a, .ro qs => match lk G a with
    | some ps => ps.length + qs.length ≤ 1000000 ∧ ∀ c, G c = none → Q (.ref c) (up G c (.lst (ps ++ qs)))
    | none => False
  | _, _ => False
abbrev i2 (C : Int → Int → Prop) (g : Int → Int → PV) : B2 := fun p q G Q => match p, q with
  | .int i, .int j => C i j ∧ Q (g i j) G
  | _, _ => False
abbrev i20 (g : Int → Int → PV) : B2 := fun p q G Q => match p, q with
  | .int i, .int j => Q (g i j) G
  | _, _ => False
/-- ints, texts -/
abbrev lt2 : B2 := fun p q G Q => match p, q with
  | .int i, .int j => Q (.bl (decide (i < j))) G
  | .str a, .str b => Q (.bl (decide (a.cps.toList < b.cps.toList))) G
  | _, _ => False
abbrev le2 : B2 := fun p q G Q => match p, q with
  | .int i, .int j => Q (.bl (decide (i ≤ j))) G
  | .str a, .str b => Q (.bl (!(decide (b.cps.toList < a.cps.toList)))) G
  | _, _ => False
abbrev gt2 : B2 := i20 fun i j => .bl (decide (j < i))
abbrev sub2 : B2 := i20 fun i j => .int (i - j)
abbrev mod2 : B2 := i2 (fun _ j => 0 < j) fun i j => .int (i % j)
abbrev fdiv2 : B2 := i2 CDivB fun i j => .int (i / j)
abbrev pow2 : B2 := i2 CPow fun i j => .int (i ^ j.toNat)
/-- ints; a list times an int -/
def mul2 : B2 := fun p q G Q => match p, q with
  | .int i, .int j => CMul i j ∧ Q (.int (i * j)) G
  | .ref a, .int k => match G a with
    | some (.lst ps) => (-(2 ^ 63) ≤ k ∧ k < 2 ^ 63) ∧ ps.length * k.toNat ≤ 1000000 ∧ ∀ c, G c = none → Q (.ref c) (up G c (.lst (List.replicate k.toNat ps).flatten))
    | _ => False
  | _, _ => False
section
variable {X : Cx}
theorem i2_low {f : Value → Value → Sem Value} {C : Int → Int → Prop} {g : Int → Int → V} {g' : Int → Int → PV} (h : OpR X f (rI C g)) (hg : ∀ i j H, Dv X.K H (g' i j) (g i j)) : OpR X f (lowB X.K (i2 C g')) := by
  intro pins s σ H x y v u Q I rx ry h'
  obtain ⟨p, q, G, Q2, d1, d2, rp, q', cl⟩ := h'
  unfold i2 at q'
  split at q'
  · rename_i i j
    obtain rfl : x = .int i := d1
    obtain rfl : y = .int j := d2
    exact h pins s σ H _ _ v u Q I rx ry ⟨i, j, rfl, rfl, q'.1, cl _ _ _ _ q'.2 (hg i j H) rp .refl⟩
  · exact q'.elim
theorem i20_low {f : Value → Value → Sem Value} {g : Int → Int → V} {g' : Int → Int → PV} (h : OpR X f (rI0 g)) (hg : ∀ i j H, Dv X.K H (g' i j) (g i j)) : OpR X f (lowB X.K (i20 g')) := by
  intro pins s σ H x y v u Q I rx ry h'
  obtain ⟨p, q, G, Q2, d1, d2, rp, q', cl⟩ := h'
  unfold i20 at q'
  split at q'
  · rename_i i j
    obtain rfl : x = .int i := d1
    obtain rfl : y = .int j := d2
    exact h pins s σ H _ _ v u Q I rx ry ⟨i, j, rfl, rfl, cl _ _ _ _ q' (hg i j H) rp .refl⟩
  · exact q'.elim
theorem o_sub : OpR X (binaryOp .Sub) (lowB X.K sub2) := i20_low op_sub fun _ _ _ => rfl
theorem o_mod : OpR X (binaryOp .Mod) (lowB X.K mod2) := i2_low op_mod fun _ _ _ => rfl
theorem o_fdiv : OpR X (binaryOp .FloorDiv) (lowB X.K fdiv2) := i2_low op_fdivB fun _ _ _ => rfl
theorem o_pow : OpR X (binaryOp .Pow) (lowB X.K pow2) := i2_low op_pow fun _ _ _ => rfl
theorem o_gt : OpR X (compareOp .Gt) (lowB X.K gt2) := i20_low op_gt fun _ _ _ => rfl
theorem o_lt : OpR X (compareOp .Lt) (lowB X.K lt2) := by
  intro pins s σ H x y v u Q I rx ry h
  obtain ⟨p, q, G, Q2, d1, d2, rp, h, cl⟩ := h
  unfold lt2 at h
  split at h
  · rename_i i j
    obtain rfl : x = .int i := d1
    obtain rfl : y = .int j := d2
    exact op_lt pins s σ H _ _ v u Q I rx ry ⟨i, j, rfl, rfl, cl _ _ _ _ h rfl rp .refl⟩
  · rename_i i j
    obtain rfl : x = .str i := d1
    obtain rfl : y = .str j := d2
    exact op_lt_str pins s σ H _ _ v u Q I rx ry ⟨i, j, rfl, rfl, cl _ _ _ _ h rfl rp .refl⟩
  · exact h.elim
theorem o_le : OpR X (compareOp .LtE) (lowB X.K le2) := by
  intro pins s σ H x y v u Q I rx ry h
  obtain ⟨p, q, G, Q2, d1, d2, rp, h, cl⟩ := h
  unfold le2 at h
  split at h
  · rename_i i j
    obtain rfl : x = .int i := d1
    obtain rfl : y = .int j := d2
    exact op_le pins s σ H _ _ v u Q I rx ry ⟨i, j, rfl, rfl, cl _ _ _ _ h rfl rp .refl⟩
  · rename_i i j
    obtain rfl : x = .str i := d1
    obtain rfl : y = .str j := d2
    exact op_le_str pins s σ H _ _ v u Q I rx ry ⟨i, j, rfl, rfl, cl _ _ _ _ h rfl rp .refl⟩
  · exact h.elim
theorem o_add : OpR X (binaryOp .Add) (lowB X.K add2) := by
  intro pins s σ H x y v u Q I rx ry h
  obtain ⟨p, q, G, Q2, d1, d2, rp, h, cl⟩ := h
  unfold add2 at h
  split at h
  · rename_i i j
    obtain rfl : x = .int i := d1
    obtain rfl : y = .int j := d2
    exact op_add pins s σ H _ _ v u Q I rx ry ⟨i, j, rfl, rfl, cl _ _ _ _ h rfl rp .refl⟩
  · rename_i i j
    obtain rfl : x = .str i := d1
    obtain rfl : y = .str j := d2
    exact op_add_str pins s σ H _ _ v u Q I rx ry ⟨i, j, rfl, rfl, big h.1, cl _ _ _ _ h.2 rfl rp .refl⟩
  · rename_i xs ys
    obtain ⟨a, vs, rfl, sa, da⟩ := d1
    obtain ⟨b, us, rfl, sb, db⟩ := d2
    obtain ⟨ne, hl, hq⟩ := h
    have la := da.length
    have lb := db.length
    refine op_catT pins s σ H _ _ v u Q I rx ry ⟨a, b, vs, us, rfl, rfl, sa, sb, ?_, by rw [la, lb]; exact big hl, fun e => ?_, fun _ c hc => ?_⟩
    · intro e; subst e
      exact ne (List.eq_nil_of_length_eq_zero (by rw [← la]; rfl))
    · subst e
      have ey : ys = [] := List.eq_nil_of_length_eq_zero (by rw [← lb]; rfl)
      subst ey
      rw [List.append_nil] at hq
      exact cl _ _ _ _ hq ⟨a, vs, rfl, sa, da⟩ rp .refl
    · have kn : Keep X.K H (upd H c (.tup (vs ++ us))) := keep_new hc
      exact cl _ _ _ _ hq ⟨c, _, rfl, .of upd_same, (da.append db).keep kn⟩ (rp.tup hc) kn
  · rename_i a b
    split at h
    · rename_i ps qs e1 e2
      obtain ⟨hl, hq⟩ := h
      obtain rfl : x = .ref a := d1
      obtain rfl : y = .ref b := d2
      obtain ⟨vs, sa, da⟩ := lk_sq rp e1
      obtain ⟨us, sb, db⟩ := lk_sq rp e2
      refine op_catS pins s σ H _ _ v u Q I rx ry ⟨a, b, vs, us, rfl, rfl, sa, sb, by rw [da.length, db.length]; exact big hl, fun c hc => ?_⟩
      exact cl _ _ _ _ (hq c (rp.none hc)) rfl (rp.new hc (da.append db)) (keep_new hc)
    · exact h.elim
  · rename_i a qs
    split at h
    · rename_i ps e1
      obtain ⟨hl, hq⟩ := h
      obtain rfl : x = .ref a := d1
      obtain ⟨b, us, rfl, sb, db⟩ := d2
      obtain ⟨vs, sa, da⟩ := lk_sq rp e1
      refine op_catS pins s σ H _ _ v u Q I rx ry ⟨a, b, vs, us, rfl, rfl, sa, sb.sq, by rw [da.length, db.length]; exact big hl, fun c hc => ?_⟩
      exact cl _ _ _ _ (hq c (rp.none hc)) rfl (rp.new hc (da.append db)) (keep_new hc)
    · exact h.elim
  · exact h.elim
theorem Dvs.rep {K : PySem.W.Frag} {H : Hp} {ps : List PV} {vs : List V} (d : Dvs K H ps vs) : ∀ n, Dvs K H (List.replicate n ps).flatten (List.replicate n vs).flatten
  | 0 => rfl
  | n + 1 => by
    rw [List.replicate_succ, List.replicate_succ, List.flatten_cons, List.flatten_cons]
    exact d.append (Dvs.rep d n)
theorem o_mul : OpR X (binaryOp .Mult) (lowB X.K mul2) := by
  intro pins s σ H x y v u Q I rx ry h
  obtain ⟨p, q, G, Q2, d1, d2, rp, h, cl⟩ := h
  unfold mul2 at h
  split at h
  · rename_i i j
    obtain rfl : x = .int i := d1
    obtain rfl : y = .int j := d2
    exact op_mul pins s σ H _ _ v u Q I rx ry ⟨i, j, rfl, rfl, h.1, cl _ _ _ _ h.2 rfl rp .refl⟩
  · rename_i a k
    split at h
    · rename_i ps e
      obtain ⟨hk, hl, hq⟩ := h
      obtain rfl : x = .ref a := d1
      obtain rfl : y = .int k := d2
      obtain ⟨vs, ha, da⟩ := rp.lst e
      refine op_rep pins s σ H _ _ v u Q I rx ry ⟨a, k, vs, rfl, rfl, ha, hk.1, hk.2, by rw [da.length]; exact big hl, fun c hc => ?_⟩
      exact cl _ _ _ _ (hq c (rp.none hc)) rfl (rp.new hc (da.rep _)) (keep_new hc)
    · exact h.elim
  · exact h.elim
end
def flatP : PV → Bool
  | .non => true
  | .bl _ => true
  | .int _ => true
  | .str _ => true
  | _ => false
def inP (x : PV) (ps : List PV) : Bool := ps.any fun y => deq y x
def in2 (neg : Bool) : B2 := fun p q G Q => match q with
  | .tup ps => flatP p = true ∧ ps.all flatP = true ∧ Q (.bl (if neg then !inP p ps else inP p ps)) G
  | .ref a => match lk G a with
    | some ps => flatP p = true ∧ ps.all flatP = true ∧ Q (.bl (if neg then !inP p ps else inP p ps)) G
    | none => False
  | .str j => match p with
    | .str i => Q (.bl (if neg then !(!(Builtin.Str.occurrences j i 0 j.length 1).isEmpty) else !(Builtin.Str.occurrences j i 0 j.length 1).isEmpty)) G
    | _ => False
  | _ => False
section
variable {X : Cx}
theorem flat_V {K : PySem.W.Frag} {H : Hp} {p : PV} {v : V} (f : flatP p = true) (d : Dv K H p v) : flatV v = true := by
  cases p with
  | non => obtain rfl : v = .non := d; rfl
  | bl b => obtain rfl : v = .bl b := d; rfl
  | int b => obtain rfl : v = .int b := d; rfl
  | str b => obtain rfl : v = .str b := d; rfl
  | _ => cases f
theorem flat_eq {K : PySem.W.Frag} {H : Hp} {p q : PV} {v u : V} (f1 : flatP p = true) (f2 : flatP q = true) (d1 : Dv K H p v) (d2 : Dv K H q u) : eqV v u = deq p q := by
  cases p with
  | non =>
    obtain rfl : v = .non := d1
    cases q with
    | non => obtain rfl : u = .non := d2; rfl
    | bl b => obtain rfl : u = .bl b := d2; rfl
    | int b => obtain rfl : u = .int b := d2; rfl
    | str b => obtain rfl : u = .str b := d2; rfl
    | _ => cases f2
  | bl a =>
    obtain rfl : v = .bl a := d1
    cases q with
    | non => obtain rfl : u = .non := d2; rfl
    | bl b => obtain rfl : u = .bl b := d2; rfl
    | int b => obtain rfl : u = .int b := d2; rfl
    | str b => obtain rfl : u = .str b := d2; rfl
    | _ => cases f2
  | int a =>
    obtain rfl : v = .int a := d1
    cases q with
    | non => obtain rfl : u = .non := d2; rfl
    | bl b => obtain rfl : u = .bl b := d2; rfl
    | int b => obtain rfl : u = .int b := d2; rfl
    | str b => obtain rfl : u = .str b := d2; rfl
    | _ => cases f2
  | str a =>
    obtain rfl : v = .str a := d1
    cases q with
    | non => obtain rfl : u = .non := d2; rfl
    | bl b => obtain rfl : u = .bl b := d2; rfl
    | int b => obtain rfl : u = .int b := d2; rfl
    | str b => obtain rfl : u = .str b := d2; rfl
    | _ => cases f2
  | _ => cases f1
theorem flat_in {K : PySem.W.Frag} {H : Hp} {x : PV} {xv : V} (fx : flatP x = true) (dx : Dv K H x xv) : ∀ {ps : List PV} {vs : List V}, ps.all flatP = true → Dvs K H ps vs → vs.all flatV = true ∧ inV xv vs = inP x ps
  | [], vs, _, d => by rw [show vs = [] from d]; exact ⟨rfl, rfl⟩
  | p :: ps, vs, f, d => by
    obtain ⟨v, r, rfl, d1, d2⟩ := d
    rw [List.all_cons, Bool.and_eq_true] at f
    obtain ⟨h1, h2⟩ := flat_in fx dx f.2 d2
    refine ⟨by rw [List.all_cons, flat_V f.1 d1, h1]; rfl, ?_⟩
    unfold inV inP at h2 ⊢
    rw [List.any_cons, List.any_cons, flat_eq f.1 fx d1 dx, h2]
theorem o_in : OpR X (compareOp .In) (lowB X.K (in2 false)) := by
  intro pins s σ H x y v u Q I rx ry h
  obtain ⟨p, q, G, Q2, d1, d2, rp, h, cl⟩ := h
  unfold in2 at h
  split at h
  · rename_i ps
    obtain ⟨f1, f2, hq⟩ := h
    obtain ⟨b, us, rfl, sb, db⟩ := d2
    obtain ⟨g1, g2⟩ := flat_in f1 d1 f2 db
    refine op_in_seq pins s σ H _ _ v u Q I rx ry ⟨b, us, rfl, .inr sb, flat_V f1 d1, g1, ?_⟩
    rw [g2]
    exact cl _ _ _ _ hq rfl rp .refl
  · rename_i b
    split at h
    · rename_i ps e
      obtain ⟨f1, f2, hq⟩ := h
      obtain rfl : y = .ref b := d2
      obtain ⟨us, sb, db⟩ := lk_sq rp e
      obtain ⟨g1, g2⟩ := flat_in f1 d1 f2 db
      refine op_in_seq pins s σ H _ _ v u Q I rx ry ⟨b, us, rfl, .inl sb, flat_V f1 d1, g1, ?_⟩
      rw [g2]
      exact cl _ _ _ _ hq rfl rp .refl
    · exact h.elim
  · rename_i j
    split at h
    · rename_i i
      obtain rfl : x = .str i := d1
      obtain rfl : y = .str j := d2
      exact op_in_str pins s σ H _ _ v u Q I rx ry ⟨i, j, rfl, rfl, cl _ _ _ _ h rfl rp .refl⟩
    · exact h.elim
  · exact h.elim
end
def ix2 : B2 := fun p q G Q => match p, q with
  | .tup ps, .int i => match atI ps i with
    | some x => Q x G
    | none => False
  | .ref a, .int i => match lk G a with
    | some ps => match atI ps i with
      | some x => Q x G
      | none => False
    | none => False
  | .str z, .int i => z.length ≤ 1000000 ∧ match atI z.cps.toList i with
    | some c => Q (.str ⟨#[c]⟩) G
    | none => False
  | _, _ => False
theorem atI_D {K : PySem.W.Frag} {H : Hp} {ps : List PV} {vs : List V} {i : Int} {p : PV} (d : Dvs K H ps vs) (h : atI ps i = some p) : ∃ v, atI vs i = some v ∧ Dv K H p v := by
  unfold atI at h ⊢
  rw [d.length]
  cases e : ixN ps.length i with
  | none => rw [e] at h; cases h
  | some j =>
    rw [e] at h
    exact d.at h
theorem x_seq {X : Cx} : IxR X (lowB X.K ix2) := by
  intro va sl pins s σ H x y v u Q I rx ry h hs
  obtain ⟨p, q, G, Q2, d1, d2, rp, h, cl⟩ := h
  unfold ix2 at h
  split at h
  · rename_i ps i
    split at h
    · rename_i z e
      obtain ⟨a, vs, rfl, sa, da⟩ := d1
      obtain rfl : y = .int i := d2
      obtain ⟨w, ew, dw⟩ := atI_D da e
      exact ix_tup va sl pins s σ H _ _ v u Q I rx ry ⟨a, vs, i, w, rfl, rfl, sa, ew, cl _ _ _ _ h dw rp .refl⟩ hs
    · exact h.elim
  · rename_i a i
    split at h
    · rename_i ps e0
      split at h
      · rename_i z e
        obtain rfl : x = .ref a := d1
        obtain rfl : y = .int i := d2
        obtain ⟨vs, sa, da⟩ := lk_sq rp e0
        obtain ⟨w, ew, dw⟩ := atI_D da e
        exact ix_list va sl pins s σ H _ _ v u Q I rx ry ⟨a, vs, i, w, rfl, rfl, sa, ew, cl _ _ _ _ h dw rp .refl⟩ hs
      · exact h.elim
    · exact h.elim
  · rename_i z i
    obtain ⟨hz, h⟩ := h
    split at h
    · rename_i c e
      obtain rfl : x = .str z := d1
      obtain rfl : y = .int i := d2
      exact ix_str va sl pins s σ H _ _ v u Q I rx ry ⟨z, i, c, rfl, rfl, big hz, e, cl _ _ _ _ h rfl rp .refl⟩ hs
    · exact h.elim
  · exact h.elim
end L3
namespace L3
open PySem L2
def len2 : C2 := fun ps G Q => match ps with
  | [.tup xs] => Q (.int xs.length) G
  | [.ref a] => match lk G a with
    | some xs => Q (.int xs.length) G
    | none => False
  | [.str z] => z.length ≤ 1000000 ∧ Q (.int z.length) G
  | _ => False
/-- one argument -/
theorem one_arg {K : PySem.W.Frag} {H : Hp} {p : PV} {vs : List V} (d : Dvs K H [p] vs) : ∃ v, vs = [v] ∧ Dv K H p v := by
  obtain ⟨v, r, rfl, d1, d2⟩ := d
  obtain rfl : r = [] := d2
  exact ⟨v, rfl, d1⟩
theorem two_arg {K : PySem.W.Frag} {H : Hp} {p q : PV} {vs : List V} (d : Dvs K H [p, q] vs) : ∃ v u, vs = [v, u] ∧ Dv K H p v ∧ Dv K H q u := by
  obtain ⟨v, r, rfl, d1, d2⟩ := d
  obtain ⟨u, rfl, d3⟩ := one_arg d2
  exact ⟨v, u, rfl, d1, d3⟩
section
variable {X : Cx}
theorem c_len : CallR X (.builtin "len") (lowC X.K len2) := by
  intro pins s σ H xs us Q I rs h
  obtain ⟨ps, G, Q2, d, rp, h, cl⟩ := h
  unfold len2 at h
  split at h
  · rename_i ys
    obtain ⟨v, rfl, dv⟩ := one_arg d
    obtain ⟨a, vs, rfl, sa, da⟩ := dv
    refine call_len_seq pins s σ H _ us Q I rs ⟨a, vs, rfl, .inr sa, ?_⟩
    rw [da.length]
    exact cl _ _ _ _ h rfl rp .refl
  · rename_i a
    split at h
    · rename_i ys e
      obtain ⟨v, rfl, dv⟩ := one_arg d
      obtain rfl : v = .ref a := dv
      obtain ⟨vs, sa, da⟩ := lk_sq rp e
      refine call_len_seq pins s σ H _ us Q I rs ⟨a, vs, rfl, .inl sa, ?_⟩
      rw [da.length]
      exact cl _ _ _ _ h rfl rp .refl
    · exact h.elim
  · rename_i z
    obtain ⟨v, rfl, dv⟩ := one_arg d
    obtain rfl : v = .str z := dv
    exact call_len_str pins s σ H _ us Q I rs ⟨z, rfl, big h.1, cl _ _ _ _ h.2 rfl rp .refl⟩
  · exact h.elim
def max22 : C2 := fun ps G Q => match ps with
  | [.int i, .int j] => Q (.int (if j > i then j else i)) G
  | _ => False
theorem c_max2 (hc : X.calm = true) : CallR X (.builtin "max") (lowC X.K max22) := by
  intro pins s σ H xs us Q I rs h
  obtain ⟨ps, G, Q2, d, rp, h, cl⟩ := h
  unfold max22 at h
  split at h
  · rename_i i j
    obtain ⟨v, u, rfl, dv, du⟩ := two_arg d
    obtain rfl : v = .int i := dv
    obtain rfl : u = .int j := du
    exact call_max2 hc pins s σ H _ us Q I rs ⟨i, j, rfl, cl _ _ _ _ h rfl rp .refl⟩
  · exact h.elim
/-- list(..) of a list, a tuple, a range -/
def list2 : C2 := fun ps G Q => match ps with
  | [.tup xs] => ∀ c, G c = none → Q (.ref c) (up G c (.lst xs))
  | [.ref a] => match G a with
    | some (.lst xs) => ∀ c, G c = none → Q (.ref c) (up G c (.lst xs))
    | some (.rl xs) => ∀ c, G c = none → Q (.ref c) (up G c (.lst xs))
    | some (.rng lo hi) => (-(2 ^ 62) ≤ lo ∧ lo < 2 ^ 62 ∧ -(2 ^ 62) ≤ hi ∧ hi < 2 ^ 62) ∧ (hi - lo).toNat ≤ 1000000 ∧ ∀ c, G c = none → Q (.ref c) (up G c (.lst (intsP lo (hi - lo).toNat)))
    | _ => False
  | _ => False
def tuple2 : C2 := fun ps G Q => match ps with
  | [.tup xs] => Q (.tup xs) G
  | [.ref a] => match lk G a with
    | some xs => Q (.tup xs) G
    | none => False
  | _ => False
theorem c_tuple : CallR X (.type "tuple") (lowC X.K tuple2) := by
  intro pins s σ H xs us Q I rs h
  obtain ⟨ps, G, Q2, d, rp, h, cl⟩ := h
  unfold tuple2 at h
  split at h
  · rename_i ys
    obtain ⟨v, rfl, dv⟩ := one_arg d
    obtain ⟨a, vs, rfl, sa, da⟩ := dv
    exact call_tuple_of pins s σ H _ us Q I rs ⟨a, vs, rfl, .inr ⟨sa, cl _ _ _ _ h ⟨a, vs, rfl, sa, da⟩ rp .refl⟩⟩
  · rename_i a
    obtain ⟨v, rfl, dv⟩ := one_arg d
    obtain rfl : v = .ref a := dv
    split at h
    · rename_i ys e
      obtain ⟨vs, sa, da⟩ := lk_sq rp e
      refine call_tuple_of pins s σ H _ us Q I rs ⟨a, vs, rfl, .inl ⟨sa, fun c hc => ?_⟩⟩
      have kn : Keep X.K H (upd H c (.tup vs)) := keep_new hc
      exact cl _ _ _ _ h ⟨c, vs, rfl, .of upd_same, da.keep kn⟩ (rp.tup hc) kn
    · exact h.elim
  · exact h.elim
def blsOf : List PV → Option (List Bool)
  | [] => some []
  | .bl b :: r => (blsOf r).map (b :: ·)
  | _ => none
theorem blsOf_D {K : PySem.W.Frag} {H : Hp} : ∀ {ps : List PV} {bs : List Bool} {vs : List V}, blsOf ps = some bs → Dvs K H ps vs → vs = bs.map V.bl
  | [], bs, vs, h, d => by cases h; exact d
  | p :: ps, bs, vs, h, d => by
    obtain ⟨v, r, rfl, d1, d2⟩ := d
    cases p with
    | bl b =>
      unfold blsOf at h
      cases e : blsOf ps with
      | none => rw [e] at h; cases h
      | some cs =>
        rw [e] at h
        cases h
        obtain rfl : v = .bl b := d1
        rw [blsOf_D e d2]
        rfl
    | _ => cases h
def all2 : C2 := fun ps G Q => match ps with
  | [.ref a] => match lk G a with
    | some xs => match blsOf xs with
      | some bs => Q (.bl (bs.all id)) G
      | none => False
    | none => False
  | _ => False
theorem c_all (hc : X.calm = true) : CallR X (.builtin "all") (lowC X.K all2) := by
  intro pins s σ H xs us Q I rs h
  obtain ⟨ps, G, Q2, d, rp, h, cl⟩ := h
  unfold all2 at h
  split at h
  · rename_i a
    split at h
    · rename_i ys e
      split at h
      · rename_i bs eb
        obtain ⟨v, rfl, dv⟩ := one_arg d
        obtain rfl : v = .ref a := dv
        obtain ⟨vs, sa, da⟩ := lk_sq rp e
        obtain rfl := blsOf_D eb da
        exact call_all hc pins s σ H _ us Q I rs ⟨a, bs, rfl, sa, cl _ _ _ _ h rfl rp .refl⟩
      · exact h.elim
    · exact h.elim
  · exact h.elim
def any2 : C2 := fun ps G Q => match ps with
  | [.ref a] => match lk G a with
    | some xs => match blsOf xs with
      | some bs => Q (.bl (bs.any id)) G
      | none => False
    | none => False
  | _ => False
theorem c_any (hc : X.calm = true) : CallR X (.builtin "any") (lowC X.K any2) := by
  intro pins s σ H xs us Q I rs h
  obtain ⟨ps, G, Q2, d, rp, h, cl⟩ := h
  unfold any2 at h
  split at h
  · rename_i a
    split at h
    · rename_i ys e
      split at h
      · rename_i bs eb
        obtain ⟨v, rfl, dv⟩ := one_arg d
        obtain rfl : v = .ref a := dv
        obtain ⟨vs, sa, da⟩ := lk_sq rp e
        obtain rfl := blsOf_D eb da
        exact call_any hc pins s σ H _ us Q I rs ⟨a, bs, rfl, sa, cl _ _ _ _ h rfl rp .refl⟩
      · exact h.elim
    · exact h.elim
  · exact h.elim
/-- ints -/
def intsOf : List PV → Option (List Int)
  | [] => some []
  | .int b :: r => (intsOf r).map (b :: ·)
  | _ => none
theorem intsOf_D {K : PySem.W.Frag} {H : Hp} : ∀ {ps : List PV} {bs : List Int} {vs : List V}, intsOf ps = some bs → Dvs K H ps vs → vs = bs.map V.int
  | [], bs, vs, h, d => by cases h; exact d
  | p :: ps, bs, vs, h, d => by
    obtain ⟨v, r, rfl, d1, d2⟩ := d
    cases p with
    | int b =>
      unfold intsOf at h
      cases e : intsOf ps with
      | none => rw [e] at h; cases h
      | some cs =>
        rw [e] at h
        cases h
        obtain rfl : v = .int b := d1
        rw [intsOf_D e d2]
        rfl
    | _ => cases h
theorem intsOf_map (ns : List Int) : intsOf (ns.map PV.int) = some ns := by
  induction ns with
  | nil => rfl
  | cons n ns ih => rw [List.map_cons]; unfold intsOf; rw [ih]; rfl
theorem blsOf_map (ns : List Bool) : blsOf (ns.map PV.bl) = some ns := by
  induction ns with
  | nil => rfl
  | cons n ns ih => rw [List.map_cons]; unfold blsOf; rw [ih]; rfl
theorem ints_Dm {K : PySem.W.Frag} {H : Hp} : ∀ (l : List Int), Dvs K H (l.map PV.int) (l.map V.int)
  | [] => rfl
  | i :: l => ⟨_, _, rfl, rfl, ints_Dm l⟩
def sum2 : C2 := fun ps G Q => match ps with
  | [.ref a] => match lk G a with
    | some xs => match intsOf xs with
      | some ns => Q (.int ns.sum) G
      | none => False
    | none => False
  | _ => False
theorem c_sum (hc : X.calm = true) : CallR X (.builtin "sum") (lowC X.K sum2) := by
  intro pins s σ H xs us Q I rs h
  obtain ⟨ps, G, Q2, d, rp, h, cl⟩ := h
  unfold sum2 at h
  split at h
  · rename_i a
    split at h
    · rename_i ys e
      split at h
      · rename_i ns eb
        obtain ⟨v, rfl, dv⟩ := one_arg d
        obtain rfl : v = .ref a := dv
        obtain ⟨vs, sa, da⟩ := lk_sq rp e
        obtain rfl := intsOf_D eb da
        obtain ⟨u, rfl, ru⟩ := rs.one
        cases ru
        obtain ⟨its, r, pl, _⟩ := I.list sa
        have hi := intsAre_of r
        obtain ⟨zs, ez⟩ := hi.allInts.items
        refine sum_intListG (I.ok.hd hc) (xs := zs) (by rw [← ez]; exact pl.isList) fun h' tk t' hk => ?_
        refine ⟨.int ns.sum, H, I.kept (t' := tk) fun b o e => hk b o e, ⟨t', ?_⟩, cl _ _ _ _ h rfl rp .refl⟩
        have e1 : numsOf its = ns := hi.numsOf
        have e2 : its.toArray.toList = its := rfl
        rw [← e2, ez, nums_intItems] at e1
        rw [preSum_eq, List.take_of_length_le (by simp)]
        rw [← e1]
      · exact h.elim
    · exact h.elim
  · exact h.elim
end
end L3
namespace L3
open PySem L2
/-- the receiver is a list of ours (its arguments change nothing of that) -/
def isL (p : PV) (G : Gp) : Prop := match p with
  | .ref a => ∃ ps, G a = some (.lst ps)
  | _ => False
abbrev eMtL (r : M2) (to : E2) (t : A2) : E2 := fun τ G Q => to τ G fun x G1 => isL x G1 ∧ t τ G1 fun ps G2 => r x ps G2 Q
abbrev eMtL0 (r : M2) (to : E2) : E2 := fun τ G Q => to τ G fun x G1 => isL x G1 ∧ r x [] G1 Q
abbrev eMtS (r : M2) (to : E2) (t : A2) : E2 := fun τ G Q => to τ G fun x G1 => match x with
  | .str _ => t τ G1 fun ps G2 => r x ps G2 Q
  | _ => False
section
variable {X : Cx} {o e : Expr} {es : List Expr} {to : E2} {t : A2} {name : Str} {apos cpos : Pos} {id : String} {r : M2}
theorem isL_ty {K : PySem.W.Frag} {H : Hp} {p : PV} {v : V} {G : Gp} (h : isL p G) (d : Dv K H p v) (rp : Rep K H G) : tyV K "list" v H := by
  cases p with
  | ref a =>
    obtain ⟨ps, e⟩ := h
    obtain rfl : v = .ref a := d
    obtain ⟨vs, hv, _⟩ := rp.lst e
    exact .inl ⟨rfl, vs, .of hv⟩
  | _ => exact h.elim
theorem j_mtL (slot : Slot "list" name id) (hty : typeOf (.builtin id) = pure (.type "method_descriptor")) (hm : MtR X id (lowM X.K r)) (ho : JE X o to) (ha : JA X (e :: es) t)
    (hbase : attributeBase o name X.env (eval o X.env) = eval o X.env := by rfl)
    (hfew : ((backTo cpos (starEach (e :: es) X.env)).all (fun x => !x.1) && (backToKw cpos (keywordEach [] X.env)).all (fun x => x.1.isSome) && decide ((e :: es).length + ([] : List Keyword).length + (if ([] : List Keyword).isEmpty then 0 else 1) < 30)) = true := by rfl)
    (hline : (apos.endLine == cpos.line) = true := by rfl) (hs : starEach (e :: es) X.env = (false, eval e X.env) :: starEach es X.env := by rfl) (hplain : (backTo cpos (starEach es X.env)).any (·.1) = false := by rfl) :
    JE X (.Call (.Attribute o name apos) (e :: es) [] cpos) (eMtL r to t) := .of (pe_bm PySem.F.plainAttrs_list slot hty hm ho.h ha.h hbase hfew hline hs hplain) fun σ H Q ⟨τ, G, Q2, rs, rp, q, cl⟩ => by
  refine ⟨τ, G, _, rs, rp, q, fun p G1 v H1 q1 d1 r1 k1 => ⟨isL_ty q1.1 d1 r1, τ, G1, _, rs.keep k1, r1, q1.2, fun ps G2 vs H2 q2 d2 r2 k2 => ?_⟩⟩
  exact ⟨p, ps, G2, Q2, d1.keep k2, d2, r2, q2, cl.keep (k1.trans k2)⟩
theorem j_mtL0 (slot : Slot "list" name id) (hty : typeOf (.builtin id) = pure (.type "method_descriptor")) (hm : MtR X id (lowM X.K r)) (ho : JE X o to)
    (hbase : attributeBase o name X.env (eval o X.env) = eval o X.env := by rfl) (hline : (apos.endLine == cpos.line) = true := by rfl) :
    JE X (.Call (.Attribute o name apos) [] [] cpos) (eMtL0 r to) := .of (pe_bm0 PySem.F.plainAttrs_list slot hty hm ho.h hbase hline) fun σ H Q ⟨τ, G, Q2, rs, rp, q, cl⟩ => by
  refine ⟨τ, G, _, rs, rp, q, fun p G1 v H1 q1 d1 r1 k1 => ⟨isL_ty q1.1 d1 r1, ?_⟩⟩
  exact ⟨p, [], G1, Q2, d1, .nil, r1, q1.2, cl.keep k1⟩
theorem j_mtS (slot : Slot "str" name id) (hty : typeOf (.builtin id) = pure (.type "method_descriptor")) (hm : MtR X id (lowM X.K r)) (ho : JE X o to) (ha : JA X (e :: es) t)
    (hbase : attributeBase o name X.env (eval o X.env) = eval o X.env := by rfl)
    (hfew : ((backTo cpos (starEach (e :: es) X.env)).all (fun x => !x.1) && (backToKw cpos (keywordEach [] X.env)).all (fun x => x.1.isSome) && decide ((e :: es).length + ([] : List Keyword).length + (if ([] : List Keyword).isEmpty then 0 else 1) < 30)) = true := by rfl)
    (hline : (apos.endLine == cpos.line) = true := by rfl) (hs : starEach (e :: es) X.env = (false, eval e X.env) :: starEach es X.env := by rfl) (hplain : (backTo cpos (starEach es X.env)).any (·.1) = false := by rfl) :
    JE X (.Call (.Attribute o name apos) (e :: es) [] cpos) (eMtS r to t) := .of (pe_bm PySem.F.plainAttrs_str slot hty hm ho.h ha.h hbase hfew hline hs hplain) fun σ H Q ⟨τ, G, Q2, rs, rp, q, cl⟩ => by
  refine ⟨τ, G, _, rs, rp, q, fun p G1 v H1 q1 d1 r1 k1 => ?_⟩
  cases p with
  | str z =>
    obtain rfl : v = .str z := d1
    refine ⟨rfl, τ, G1, _, rs.keep k1, r1, q1, fun ps G2 vs H2 q2 d2 r2 k2 => ?_⟩
    exact ⟨.str z, ps, G2, Q2, rfl, d2, r2, q2, cl.keep (k1.trans k2)⟩
  | _ => exact False.elim q1
def append2 : M2 := fun p ps G Q => match p, ps with
  | .ref a, [y] => match G a with
    | some (.lst xs) => xs.length < 1000000 ∧ Q .non (up G a (.lst (xs ++ [y])))
    | _ => False
  | _, _ => False
theorem m_append : MtR X "list.append" (lowM X.K append2) := by
  intro pins s σ H x xs v us Q I rx rs h
  obtain ⟨p, ps, G, Q2, d, ds, rp, h, cl⟩ := h
  unfold append2 at h
  split at h
  · rename_i a y
    split at h
    · rename_i zs e
      obtain rfl : x = .ref a := d
      obtain ⟨w, rfl, dw⟩ := one_arg ds
      obtain ⟨vs, hv, dv⟩ := rp.lst e
      exact mt_append pins s σ H _ _ v us Q I rx rs ⟨a, vs, w, rfl, rfl, hv, by rw [dv.length]; exact bigLt (Nat.le_of_lt h.1), cl _ _ _ _ h.2 rfl (rp.put hv (dv.append (.cons dw .nil))) (keep_lst hv)⟩
    · exact h.elim
  · exact h.elim
def extend2 : M2 := fun p ps G Q => match p, ps with
  | .ref a, [.tup ys] => match G a with
    | some (.lst xs) => xs.length + ys.length ≤ 1000000 ∧ Q .non (up G a (.lst (xs ++ ys)))
    | _ => False
  | .ref a, [.ref b] => match G a, G b with
    | some (.lst xs), some (.lst ys) => xs.length + ys.length ≤ 1000000 ∧ Q .non (up G a (.lst (xs ++ ys)))
    | _, _ => False
  | _, _ => False
theorem m_extend : MtR X "list.extend" (lowM X.K extend2) := by
  intro pins s σ H x xs v us Q I rx rs h
  obtain ⟨p, ps, G, Q2, d, ds, rp, h, cl⟩ := h
  unfold extend2 at h
  split at h
  · rename_i a ys
    split at h
    · rename_i zs e
      obtain rfl : x = .ref a := d
      obtain ⟨w, rfl, dw⟩ := one_arg ds
      obtain ⟨b, ws, rfl, sb, db⟩ := dw
      obtain ⟨vs, hv, dv⟩ := rp.lst e
      exact mt_extendT pins s σ H _ _ v us Q I rx rs ⟨a, b, vs, ws, rfl, rfl, hv, sb, by rw [dv.length, db.length]; exact big h.1, cl _ _ _ _ h.2 rfl (rp.put hv (dv.append db)) (keep_lst hv)⟩
    · exact h.elim
  · rename_i a b
    split at h
    · rename_i zs ys e1 e2
      obtain rfl : x = .ref a := d
      obtain ⟨w, rfl, dw⟩ := one_arg ds
      obtain rfl : w = .ref b := dw
      obtain ⟨vs, hv, dv⟩ := rp.lst e1
      obtain ⟨ws, hb, db⟩ := rp.lst e2
      exact mt_extend pins s σ H _ _ v us Q I rx rs ⟨a, b, vs, ws, rfl, rfl, hv, hb, by rw [dv.length, db.length]; exact big h.1, cl _ _ _ _ h.2 rfl (rp.put hv (dv.append db)) (keep_lst hv)⟩
    · exact h.elim
  · exact h.elim
def pop2 : M2 := fun p ps G Q => match p, ps with
  | .ref a, [] => match G a with
    | some (.lst xs) => match xs[xs.length - 1]? with
      | some y => Q y (up G a (.lst xs.dropLast))
      | none => False
    | _ => False
  | _, _ => False
theorem Dvs.dropLast {K : PySem.W.Frag} {H : Hp} {ps : List PV} {vs : List V} (d : Dvs K H ps vs) : Dvs K H ps.dropLast vs.dropLast := by
  rw [List.dropLast_eq_take, List.dropLast_eq_take, d.length]
  exact d.take _
theorem m_pop : MtR X "list.pop" (lowM X.K pop2) := by
  intro pins s σ H x xs v us Q I rx rs h
  obtain ⟨p, ps, G, Q2, d, ds, rp, h, cl⟩ := h
  unfold pop2 at h
  split at h
  · rename_i a
    split at h
    · rename_i zs e
      split at h
      · rename_i y ey
        obtain rfl : x = .ref a := d
        obtain rfl : xs = [] := ds
        obtain ⟨vs, hv, dv⟩ := rp.lst e
        obtain ⟨w, ew, dw⟩ := dv.at ey
        refine mt_pop pins s σ H _ _ v us Q I rx rs ⟨a, vs, w, rfl, rfl, hv, by rw [dv.length]; exact ew, cl _ _ _ _ h (dw.keep (keep_lst hv)) (rp.put hv dv.dropLast) (keep_lst hv)⟩
      · exact h.elim
    · exact h.elim
  · exact h.elim
def strsOf : List PV → Option (List Str)
  | [] => some []
  | .str b :: r => (strsOf r).map (b :: ·)
  | _ => none
theorem strsOf_D {K : PySem.W.Frag} {H : Hp} : ∀ {ps : List PV} {bs : List Str} {vs : List V}, strsOf ps = some bs → Dvs K H ps vs → vs = bs.map V.str
  | [], bs, vs, h, d => by cases h; exact d
  | p :: ps, bs, vs, h, d => by
    obtain ⟨v, r, rfl, d1, d2⟩ := d
    cases p with
    | str b =>
      unfold strsOf at h
      cases e : strsOf ps with
      | none => rw [e] at h; cases h
      | some cs =>
        rw [e] at h
        cases h
        obtain rfl : v = .str b := d1
        rw [strsOf_D e d2]
        rfl
    | _ => cases h
theorem strsOf_map (ns : List Str) : strsOf (ns.map PV.str) = some ns := by
  induction ns with
  | nil => rfl
  | cons n ns ih => rw [List.map_cons]; unfold strsOf; rw [ih]; rfl
def join2 : M2 := fun p ps G Q => match p, ps with
  | .str z, [.ref a] => match lk G a with
    | some xs => match strsOf xs with
      | some ys => (ys.map (·.length)).sum + ys.length * z.length ≤ 1000000 ∧ Q (.str (Txt.join z ys)) G
      | none => False
    | none => False
  | _, _ => False
theorem m_join : MtR X "str.join" (lowM X.K join2) := by
  intro pins s σ H x xs v us Q I rx rs h
  obtain ⟨p, ps, G, Q2, d, ds, rp, h, cl⟩ := h
  unfold join2 at h
  split at h
  · rename_i z a
    split at h
    · rename_i ws e
      split at h
      · rename_i ys ey
        obtain rfl : x = .str z := d
        obtain ⟨w, rfl, dw⟩ := one_arg ds
        obtain rfl : w = .ref a := dw
        obtain ⟨vs, sa, da⟩ := lk_sq rp e
        obtain rfl := strsOf_D ey da
        exact mt_join pins s σ H _ _ v us Q I rx rs ⟨z, a, ys, rfl, rfl, sa, Nat.le_trans h.1 (by decide), cl _ _ _ _ h.2 rfl rp .refl⟩
      · exact h.elim
    · exact h.elim
  · exact h.elim
end

abbrev O2 := St2 → Gp → (Option Int → Gp → Prop) → Prop
def lowO (K : PySem.W.Frag) (t : O2) : TO := fun σ H Q => ∃ τ G Q2, RSt K H σ τ ∧ Rep K H G ∧ t τ G Q2 ∧ ∀ o G' H', Q2 o G' → Rep K H' G' → Keep K H H' → Q o H'
structure JO (X : Cx) (e : Option Expr) (t : O2) : Prop where
  h : PO X e (lowO X.K t)
abbrev oNo : O2 := fun _ G Q => Q none G
abbrev oSome (t : E2) : O2 := fun τ G Q => t τ G fun x G1 => match x with
  | .int i => Q (some i) G1
  | _ => False
def cutP (xs : List PV) (lo hi : Option Int) : List PV := (xs.drop (HT.sIx xs.length 0 lo)).take (HT.sIx xs.length xs.length hi - HT.sIx xs.length 0 lo)
def sl2 : PV → Option Int → Option Int → Gp → K2 → Prop := fun p lo hi G Q => match p with
  | .tup xs => ¬ (HT.sIx xs.length 0 lo = 0 ∧ HT.sIx xs.length xs.length hi = xs.length) ∧ Q (.tup (cutP xs lo hi)) G
  | .ref a => match lk G a with
    | some xs => ∀ c, G c = none → Q (.ref c) (up G c (.lst (cutP xs lo hi)))
    | none => False
  | .str z => z.length ≤ 1000000 ∧ Q (.str (Txt.slice z lo hi)) G
  | _ => False
def lowSl (K : PySem.W.Frag) (r : PV → Option Int → Option Int → Gp → K2 → Prop) : V → Option Int → Option Int → Hp → VK → Prop := fun x lo hi H Q => ∃ p G Q2, Dv K H p x ∧ Rep K H G ∧ r p lo hi G Q2 ∧ Cl K H Q2 Q
abbrev eSl (te : E2) (tl th : O2) : E2 := fun τ G Q => te τ G fun x G1 => tl τ G1 fun l G2 => th τ G2 fun u G3 => sl2 x l u G3 Q
section
variable {X : Cx} {e : Expr} {te : E2} {lo hi : Option Expr} {tl th : O2} {pos p2 : Pos}
theorem jo_none : JO X none oNo := ⟨fun pins s σ H Q I ⟨τ, G, Q2, rs, rp, q, cl⟩ => po_none pins s σ H Q I (cl _ _ _ q rp .refl)⟩
theorem jo_some (h : JE X e te) : JO X (some e) (oSome te) := ⟨fun pins s σ H Q I ⟨τ, G, Q2, rs, rp, q, cl⟩ => po_some h.h pins s σ H Q I ⟨τ, G, _, rs, rp, q, fun p G1 v H1 q1 d1 r1 k1 => by
  cases p with
  | int i =>
    obtain rfl : v = .int i := d1
    exact ⟨i, rfl, cl _ _ _ q1 r1 k1⟩
  | _ => exact False.elim q1⟩⟩
theorem cut_D {K : PySem.W.Frag} {H : Hp} {ps : List PV} {vs : List V} (d : Dvs K H ps vs) (lo hi : Option Int) : Dvs K H (cutP ps lo hi) (cutV vs lo hi) := by
  unfold cutP cutV
  rw [d.length]
  exact (d.drop _).take _
theorem s_all : SlR X (lowSl X.K sl2) := by
  intro pins s σ H x v vl vu lo hi sl Q I rx hs pl pu h
  obtain ⟨p, G, Q2, d, rp, h, cl⟩ := h
  unfold sl2 at h
  split at h
  · rename_i xs
    obtain ⟨a, vs, rfl, sa, da⟩ := d
    refine sl_tup pins s σ H _ v vl vu lo hi sl Q I rx hs pl pu ⟨a, vs, rfl, sa, by rw [da.length]; exact h.1, fun c hc => ?_⟩
    have kn : Keep X.K H (upd H c (.tup (cutV vs lo hi))) := keep_new hc
    exact cl _ _ _ _ h.2 ⟨c, _, rfl, .of upd_same, (cut_D da lo hi).keep kn⟩ (rp.tup hc) kn
  · rename_i a
    split at h
    · rename_i xs e
      obtain rfl : x = .ref a := d
      obtain ⟨vs, sa, da⟩ := lk_sq rp e
      exact sl_list pins s σ H _ v vl vu lo hi sl Q I rx hs pl pu ⟨a, vs, rfl, sa, fun c hc => cl _ _ _ _ (h c (rp.none hc)) rfl (rp.new hc (cut_D da lo hi)) (keep_new hc)⟩
    · exact h.elim
  · rename_i z
    obtain rfl : x = .str z := d
    exact sl_str pins s σ H _ v vl vu lo hi sl Q I rx hs pl pu ⟨z, rfl, big h.1, cl _ _ _ _ h.2 rfl rp .refl⟩
  · exact h.elim
theorem j_slice (he : JE X e te) (hl : JO X lo tl) (hu : JO X hi th) : JE X (.Subscript e (.Slice lo hi none p2) pos) (eSl te tl th) := .of (pe_slice s_all he.h hl.h hu.h) fun σ H Q ⟨τ, G, Q2, rs, rp, q, cl⟩ => by
  refine ⟨τ, G, _, rs, rp, q, fun p G1 v H1 q1 d1 r1 k1 => ⟨τ, G1, _, rs.keep k1, r1, q1, fun l G2 H2 q2 r2 k2 => ⟨τ, G2, _, rs.keep (k1.trans k2), r2, q2, fun u G3 H3 q3 r3 k3 => ?_⟩⟩⟩
  exact ⟨p, G3, Q2, d1.keep (k2.trans k3), r3, q3, cl.keep ((k1.trans k2).trans k3)⟩
end

theorem pickL_rev (its : Array Value) : slicePick its none none (some (-1)) = its.toList.reverse.toArray := by
  rw [← HT.pick_rev its]
  unfold slicePick
  show (List.filterMap (fun x => its[x]?) (sliceRange ((its.size : Int) - 1) (-1) (-1))).toArray = _
  have e : sliceRange ((its.size : Int) - 1) (-1) (-1) = (List.range its.size).map fun (k : Nat) => ((its.size : Int) - 1 + (-1) * (k : Int)).toNat := by
    unfold sliceRange
    have c : (if (-1 : Int) > 0 then (if ((its.size : Int) - 1) < -1 then (-1 - ((its.size : Int) - 1) + -1 - 1) / -1 else 0) else (if ((its.size : Int) - 1) > -1 then (((its.size : Int) - 1) - -1 - -1 - 1) / (-(-1)) else 0)).toNat = its.size := by
      rw [if_neg (by decide), show (-(-1 : Int)) = 1 from rfl, Int.ediv_one]
      split <;> omega
    simp only [c]
  rw [e, List.filterMap_map]
  have f : ((fun x => its[x]?) ∘ fun (k : Nat) => ((its.size : Int) - 1 + (-1) * (k : Int)).toNat) = fun (m : Nat) => its[((its.size : Int) - 1 + (m : Int) * (-1)).toNat]? := by
    funext m
    show its[((its.size : Int) - 1 + (-1) * (m : Int)).toNat]? = _
    rw [Int.mul_comm]
  rw [f]
abbrev eRev (te : E2) : E2 := fun τ G Q => te τ G fun x G1 => match x with
  | .tup xs => Q (.tup xs.reverse) G1
  | .ref a => match lk G1 a with
    | some xs => ∀ c, G1 c = none → Q (.ref c) (up G1 c (.lst xs.reverse))
    | none => False
  | _ => False
section
variable {X : Cx}
theorem j_rev {e : Expr} {te : E2} {k : Nat} {p1 p2 p3 pos : Pos} (he : JE X e te) : JE X (.Subscript e (.Slice none none (some (.UnaryOp .USub (.Constant (.int 1) k p1) p3)) p2) pos) (eRev te) := ⟨by
  intro pins s σ H Q I h
  obtain ⟨τ, G, Q2, rs, rp, h, cl⟩ := h
  refine PyProof.Rows.Subscript_ (thn (he.h pins s σ H (fun v H1 => ∃ p G1, Dv X.K H1 p v ∧ Rep X.K H1 G1 ∧ Keep X.K H H1 ∧ (match p with
    | .tup xs => Q2 (.tup xs.reverse) G1
    | .ref a => match lk G1 a with
      | some xs => ∀ c, G1 c = none → Q2 (.ref c) (up G1 c (.lst xs.reverse))
      | none => False
    | _ => False)) I ⟨τ, G, _, rs, rp, h, fun p G1 v H1 q d r k => ⟨p, G1, d, r, k, q⟩⟩) fun v s1 ⟨x, H1, I1, r1, q, G1, d1, rp1, k1, q1⟩ => ?_)
  refine wpAny_Slice ?_
  rw [evalPart_none]
  refine wpAny_pure (wpAny_pure ?_)
  have hm : PE X (.UnaryOp .USub (.Constant (.int 1) k p1) p3) (tUn (rU fun i => .int (-i)) (tC (.int 1))) := pe_un un_neg pe_int
  refine thn (hm pins s1 σ H1 (fun v H' => v = .int (-1) ∧ H' = H1) I1 ⟨1, rfl, rfl, rfl⟩) fun st s3 ⟨v3, H3, I3, r3, e3, eh⟩ => ?_
  subst e3 eh
  obtain ⟨tk, rfl⟩ := r3
  have I4 := I3.kept (t' := s3.toks) (h' := s3.heap.push { cls := .type "slice", data := .fields #[.none, .none, .int (-1) tk] }) fun b ob q => Heap.get?_push_of_some _ q
  have hfr := I4.hok.fresh (Nat.le_refl _)
  cases q with
  | tup ps =>
    obtain ⟨a, xs, rfl, hq, da⟩ := d1
    cases r1
    obtain ⟨its, rv, pl, hz⟩ := I4.tuple hq
    have hl := rv.length
    refine PyProof.Rows.tail_any (ops := [.ref a, .ref s3.heap.objs.size]) pl.typeIs PyProof.Rows.slot_tuple_getitem.lookup ?_ (by with_unfolding_all rfl)
    refine HT.getItem_tuple_rev pl (Heap.IsSliceOf.new ..) ?_ (by rw [List.size_toArray] <;> omega)
    have kn := keep_new (K := X.K) (o := .tup xs.reverse) hfr
    refine ⟨.ref _, _, I4.laid (t' := s3.toks) (o := .tup xs.reverse) (fun b ob q => Heap.get?_push_of_some _ q) (Nat.le_refl _) ?_, rfl, cl _ _ _ _ q1 ⟨_, _, rfl, .of upd_same, da.reverse.keep kn⟩ (rp1.tup hfr) (k1.trans kn)⟩
    exact ⟨by rw [List.length_reverse]; exact hz, its.reverse, rv.reverse, ⟨_, Heap.get?_push_size _ rfl, rfl, 0, by simp⟩⟩
  | ref a =>
    dsimp only at q1
    split at q1
    · rename_i ps e
      obtain rfl : x = .ref a := d1
      cases r1
      obtain ⟨xs, hq, da⟩ := lk_sq rp1 e
      obtain ⟨its, rv, pl, hz⟩ := I4.list hq
      have hl := rv.length
      refine PyProof.Rows.tail_any (ops := [.ref a, .ref s3.heap.objs.size]) pl.isList.typeIs slot_list_getitem.lookup ?_ (by with_unfolding_all rfl)
      refine wpAny_getItem_list_slice pl.isList (Heap.IsSliceOf.new ..) .none .none (.int (-1) tk) (by simp) ?_ (by rw [List.size_toArray] <;> omega)
      rw [pickL_rev]
      refine ⟨.ref _, _, I4.laid (t' := s3.toks) (o := .lst xs.reverse) (fun b ob q => Heap.get?_push_of_some _ q) (Nat.le_refl _) ?_, rfl, cl _ _ _ _ (q1 _ (rp1.none hfr)) rfl (rp1.new hfr da.reverse) (k1.trans (keep_new hfr))⟩
      exact ⟨by rw [List.length_reverse]; exact hz, its.reverse, 0, rv.reverse, by rw [Heap.get?_push_size _ rfl]⟩
    · exact q1.elim
  | _ => exact False.elim q1⟩
end

def tyN (p : PV) (G : Gp) : Option String := match p with
  | .non => some "NoneType"
  | .bl _ => some "bool"
  | .int _ => some "int"
  | .str _ => some "str"
  | .tup _ => some "tuple"
  | .ref a => match G a with
    | some (.lst _) => some "list"
    | _ => none
  | _ => none
def isT (ty T : String) : Bool := ty == T || (ty == "bool" && T == "int")
abbrev tys : List String := ["NoneType", "bool", "int", "str", "tuple", "list"]
abbrev Tys : List String := ["bool", "int", "str", "tuple", "list"]
set_option maxHeartbeats 4000000 in
theorem kit_ok {K : PySem.W.Frag} {ty T : String} (h1 : ty ∈ tys) (h2 : T ∈ Tys) : PySem.W.kitOne K (.type ty) (.type T) = some (isT ty T) := by
  simp only [List.mem_cons, List.not_mem_nil, or_false] at h1 h2
  rcases h1 with rfl | rfl | rfl | rfl | rfl | rfl <;> rcases h2 with rfl | rfl | rfl | rfl | rfl <;> kernel_rfl
def inst2 : C2 := fun ps G Q => match ps with
  | [p, .ty T] => match tyN p G with
    | some ty => T ∈ Tys ∧ Q (.bl (isT ty T)) G
    | none => False
  | _ => False
section
variable {X : Cx}
theorem c_inst : CallR X (.builtin "isinstance") (lowC X.K inst2) := by
  intro pins s σ H xs us Q I rs h
  obtain ⟨ps, G, Q2, d, rp, h, cl⟩ := h
  unfold inst2 at h
  split at h
  · rename_i p T
    split at h
    · rename_i ty e
      obtain ⟨hT, hq⟩ := h
      obtain ⟨v, w, rfl, dv, dw⟩ := two_arg d
      obtain rfl : w = .ty T := dw
      cases rs with
      | cons r1 rs =>
        obtain ⟨u, rfl, ru⟩ := Vals.one rs
        cases ru
        have fin : ∀ tk, EP X pins σ Q (.bool (isT ty T)) { s with toks := tk } := fun tk => ⟨.bl _, H, I.tok tk, rfl, cl _ _ _ _ hq rfl rp .refl⟩
        unfold tyN at e
        split at e
        · cases e; obtain rfl : v = .non := dv; cases r1; exact PySem.W.kia_one PySem.W.kitx_none I.kIn True.intro (kit_ok (by decide) hT) (fun z => nomatch z) fin
        · cases e; rename_i b; obtain rfl : v = .bl b := dv; cases r1; exact PySem.W.kia_one PySem.W.kitx_bool I.kIn True.intro (kit_ok (by decide) hT) (fun z => nomatch z) fin
        · cases e; rename_i b; obtain rfl : v = .int b := dv; obtain ⟨t, rfl⟩ := r1; exact PySem.W.kia_one PySem.W.kitx_int I.kIn True.intro (kit_ok (by decide) hT) (fun z => nomatch z) fin
        · cases e; rename_i b; obtain rfl : v = .str b := dv; obtain ⟨t, rfl⟩ := r1; exact PySem.W.kia_one PySem.W.kitx_str I.kIn True.intro (kit_ok (by decide) hT) (fun z => nomatch z) fin
        · cases e
          obtain ⟨a, vs, rfl, sq, _⟩ := dv
          cases r1
          obtain ⟨its, _, pl, _⟩ := I.tuple sq
          obtain ⟨o, h1, h2, _⟩ := pl
          exact PySem.W.kia_one PySem.W.kitx_tuple I.kIn ⟨o, h1, h2⟩ (kit_ok (by decide) hT) (fun z => nomatch z) fin
        · rename_i a
          split at e
          · cases e
            rename_i qs eg
            obtain rfl : v = .ref a := dv
            cases r1
            obtain ⟨vs, hv, _⟩ := rp.lst eg
            obtain ⟨_, _, n, _, h1⟩ := (show ObjOk X.prog X.w H s.heap a (.lst vs) from I.hok a _ hv)
            exact PySem.W.kia_one PySem.W.kitx_list I.kIn ⟨_, h1, rfl⟩ (kit_ok (by decide) hT) (fun z => nomatch z) fin
          · cases e
        · cases e
    · exact h.elim
  · exact h.elim
end
end L3
namespace PySem.SeqAt
open AutoSeq1 (wpAny_loadPart')
open MeetsSeq MeetsSeq2 MeetsSeq3 SeqRoads2
open Builtin Builtin.Range
end PySem.SeqAt
namespace L3
open PySem L2
/-- an int (not) in a range -/
def inR2 (neg : Bool) : B2 := fun p q G Q => match p, q with
  | .int x, .ref a => match G a with
    | some (.rng lo hi) => Q (.bl (if neg then !decide (lo ≤ x ∧ x < hi) else decide (lo ≤ x ∧ x < hi))) G
    | _ => False
  | _, _ => False
section
variable {X : Cx}
end
def Itd (lo : Int) (n : Nat) : It := ⟨fun i _ => i < n, fun i H x H' => H' = H ∧ x = .int (lo - i), fun i _ => n ≤ i⟩
def downP (lo : Int) (n : Nat) : List PV := (List.range n).map fun (i : Nat) => .int (lo - i)
theorem it_down {K : PySem.W.Frag} {H1 : Hp} (lo : Int) (n : Nat) : ItOk K H1 (Itd lo n) (downP lo n) (fun _ => True) := fun i H G k r _ => by
  have hl : (downP lo n).length = n := by unfold downP; simp
  refine ⟨fun hi => ?_, fun hi => ?_, fun x H' hi y => ?_⟩
  · show i < n
    omega
  · show n ≤ i
    omega
  · obtain ⟨rfl, rfl⟩ := y
    refine ⟨.int (lo - i), ?_, .refl, r, rfl⟩
    unfold downP
    rw [List.getElem?_map, List.getElem?_range (by omega)]
    rfl
theorem turn_down {P : Program} {w : World} {K : PySem.W.Frag} {tg : Expr} (it : Addr) (lo : Int) (n : Nat) : Turn P w K tg (Itd lo n) [it] it (fun i h => IsRangeIter h it (lo + (i : Nat) * (-1)) ((n : Int) - (i : Nat)) (-1)) where
  mem := by simp
  obj := fun i h st b hb => by
    have e : b = it := by simpa using hb
    subst e
    exact ⟨_, st, fun v z => by
      have z' : Data.fields _ = Data.cell v := z
      cases z'⟩
  keep := fun i h h' st k => k it (by simp) _ st
  item := by
    intro X hP hw hK hc i pins s σ H E I hf st hg
    subst hP hw hK
    obtain ⟨f0, f1, f2, f3, f4, f5⟩ := hf it (by simp)
    have W := Walks.range (prog := X.prog) (w := X.w) (I.ok.hd hc) it lo (-1) n
    refine W.item i s _ _ hg st fun v h' tk hv st' kk => ?_
    obtain ⟨t, rfl⟩ := hv
    have I1 : Inv X pins σ H { s with heap := h', toks := tk } := I.turned (fun b o hb e => kk b o (by simpa using hb) e) f0 f1 f3 f4 f5
    refine ⟨_, rfl, go_of (s := { s with heap := h', toks := tk }) (n := "range_iterator") st' rfl rfl (by decide) ⟨.int (lo - i), H, I1, ⟨t, ?_⟩, ⟨rfl, rfl⟩, st', fun b hb => (hf b hb).1⟩⟩
    rw [show lo + (i : Int) * (-1) = lo - i by omega]
  done := by
    intro X hP hw hK hc i pins s σ H E I hf st hg
    subst hP hw hK
    obtain ⟨f0, f1, f2, f3, f4, f5⟩ := hf it (by simp)
    exact wpAny_pyNext_range_end (I.ok.hd hc) st (by have : n ≤ i := hg; omega) fun h' eb => ⟨rfl, I.turned (t' := s.toks) (fun b o hb e => eb b o hb e) f0 f1 f3 f4 f5⟩
  self := fun _ _ _ _ _ st h => wpAny_pyIter_rangeiter st h
theorem rangeSize_down (a b : Int) : Builtin.Range.rangeSize a b (-1) = (((a - b).toNat : Nat) : Int) := by
  unfold Builtin.Range.rangeSize
  rw [if_neg (by decide), show (-(-1 : Int)) = 1 from rfl, Int.ediv_one]
  split <;> omega
theorem small_down {a b : Int} (ha : -(2 ^ 62) ≤ a) (ha' : a < 2 ^ 62) (hb : -(2 ^ 62) ≤ b) (hb' : b < 2 ^ 62) : Builtin.Range.small a b (-1) = true := by
  unfold Builtin.Range.small
  rw [rangeSize_down]
  simp only [Builtin.Range.rangeFitsLong, Bool.and_eq_true, Bool.or_eq_true, decide_eq_true_eq, beq_iff_eq, show ¬ ((-1 : Int) > 0) by decide, if_false]
  omega
/-- range(a, b, -1) -/
abbrev itD (t : A2) : TI2 := fun τ G R => t τ G fun ps G1 => match ps with
  | [.int a, .int b, .int c] => c = -1 ∧ (-(2 ^ 62) ≤ a ∧ a < 2 ^ 62 ∧ -(2 ^ 62) ≤ b ∧ b < 2 ^ 62) ∧ R (downP a (a - b).toNat) (fun _ => True) G1
  | _ => False
section
variable {X : Cx} {tg a b c : Expr} {ta : A2} {p pos : Pos}
theorem ji_range3 (hm : X.mg "range" = none) (ha : JA X [a, b, c] ta) (hg : Gl X "range" := by rfl) (hs : starEach [a, b, c] X.env = (false, eval a X.env) :: starEach [b, c] X.env := by rfl) (hs2 : (backTo pos (starEach [b, c] X.env)).any (·.1) = false := by rfl) :
    JI X tg (.Call (.Name "range" p) [a, b, c] [] pos) (itD ta) := ⟨by
  intro pins s σ H R I h
  obtain ⟨τ, G, R2, rs, rp, h, cl⟩ := h
  refine PyProof.Rows.Call_ (ld_blt I hg hm PyProof.Rows.boot_range (PyProof.Rows.callWith_type1 (thn (ha.h pos pins s σ H (fun vs H1 => ∃ ps G1, Dvs X.K H1 ps vs ∧ Rep X.K H1 G1 ∧ Keep X.K H H1 ∧ (match ps with
    | [.int a, .int b, .int c] => c = -1 ∧ (-(2 ^ 62) ≤ a ∧ a < 2 ^ 62 ∧ -(2 ^ 62) ≤ b ∧ b < 2 ^ 62) ∧ R2 (downP a (a - b).toNat) (fun _ => True) G1
    | _ => False)) I ⟨τ, G, _, rs, rp, h, fun ps G1 vs H1 q d r k => ⟨ps, G1, d, r, k, q⟩⟩) fun us s1 ⟨vs, H1, I1, r1, ps, G1, d1, rp1, k1, q1⟩ => ?_) hs hs2))
  split at q1
  · rename_i a b c
    obtain ⟨rfl, ⟨b1, b2, b3, b4⟩, q⟩ := q1
    obtain ⟨v1, z, rfl, e1, d1⟩ := d1
    obtain ⟨v2, v3, rfl, e2, e3⟩ := two_arg d1
    obtain rfl : v1 = .int a := e1
    obtain rfl : v2 = .int b := e2
    obtain rfl : v3 = .int (-1) := e3
    cases r1 with
    | cons r1 r2 =>
      cases r2 with
      | cons r2 r3 =>
        cases r3 with
        | cons r3 r4 =>
          cases r4
          obtain ⟨t1, rfl⟩ := r1
          obtain ⟨t2, rfl⟩ := r2
          obtain ⟨t3, rfl⟩ := r3
          refine call_range_3 (by decide) ?_ (.inl (PyProof.noPylong_small (by decide)))
          refine wpAny_pyIter_range (IsRange.new ..) (small_down b1 b2 b3 b4) ?_
          have I2 : Inv X pins σ H1 { s1 with heap := s1.heap.push { cls := .type "range", data := .fields #[.int a t1, .int b t2, .int (-1) t3] }, toks := s1.toks } := I1.kept fun b o e => Heap.get?_push_of_some _ e
          refine ⟨(s1.heap.push { cls := .type "range", data := .fields #[.int a t1, .int b t2, .int (-1) t3] }).objs.size, [(s1.heap.push { cls := .type "range", data := .fields #[.int a t1, .int b t2, .int (-1) t3] }).objs.size], _, _, H1, rfl,
            I2.kept (t' := s1.toks) fun b o e => Heap.get?_push_of_some _ e, turn_down _ a (a - b).toNat, ?_, fun ad hb => ?_, cl _ _ _ _ _ q rp1 k1 (it_down _ _)⟩
          · have e1 : a + ((0 : Nat) : Int) * (-1) = a := by simp
            show IsRangeIter _ _ (a + ((0 : Nat) : Int) * (-1)) ((((a - b).toNat : Nat) : Int) - ((0 : Nat) : Int)) (-1)
            rw [e1, show (((a - b).toNat : Nat) : Int) - ((0 : Nat) : Int) = Builtin.Range.rangeSize a b (-1) by rw [rangeSize_down]; simp]
            exact Heap.get?_push_size _ rfl
          · rw [List.mem_singleton.mp hb]
            exact I2.fpOk (Nat.le_refl _) (I2.hok.fresh (Nat.le_refl _))
  · exact q1.elim⟩
end
abbrev neg2 : U2 := fun p G Q => match p with
  | .int i => Q (.int (-i)) G
  | _ => False
theorem u_neg {X : Cx} : UnR X (unaryOp .USub) (lowU X.K neg2) := by
  intro pins s σ H x v Q I rx h
  obtain ⟨p, G, Q2, d, rp, h, cl⟩ := h
  cases p with
  | int i =>
    obtain rfl : x = .int i := d
    exact un_neg pins s σ H _ v Q I rx ⟨i, rfl, cl _ _ _ _ h rfl rp .refl⟩
  | _ => exact False.elim h
abbrev iadd2 : B2 := i20 fun i j => .int (i + j)
theorem p_add {X : Cx} : PIp X .Add (lowB X.K iadd2) := by
  intro pins s σ H x y v u Q I rx ry h
  obtain ⟨p, q, G, Q2, d1, d2, rp, h, cl⟩ := h
  unfold iadd2 i20 at h
  split at h
  · rename_i i j
    obtain rfl : x = .int i := d1
    obtain rfl : y = .int j := d2
    exact ip_add pins s σ H _ _ v u Q I rx ry ⟨i, j, rfl, rfl, cl _ _ _ _ h rfl rp .refl⟩
  · exact h.elim
/-- o[i] of a list, by values -/
def ixL2 : B2 := fun p q G Q => match p, q with
  | .ref a, .int i => match lk G a with
    | some ps => match atI ps i with
      | some x => Q x G
      | none => False
    | none => False
  | _, _ => False
theorem g_seq {X : Cx} : PGet X (lowB X.K ixL2) := by
  intro pins s σ H o i ov iv Q I r1 r2 h
  obtain ⟨p, q, G, Q2, d1, d2, rp, h, cl⟩ := h
  unfold ixL2 at h
  split at h
  · rename_i a k
    split at h
    · rename_i ps e0
      split at h
      · rename_i z e
        obtain rfl : o = .ref a := d1
        obtain rfl : i = .int k := d2
        obtain ⟨vs, sa, da⟩ := lk_sq rp e0
        obtain ⟨w, ew, dw⟩ := atI_D da e
        cases r1
        obtain ⟨t, rfl⟩ := r2
        obtain ⟨its, r, pl, hz⟩ := I.list sa
        obtain ⟨j, h1, h2, h3, h4, h5⟩ := atI_get ew
        obtain ⟨u, eu, ru⟩ := r.get h2
        have hl := r.length
        have hn := line63
        have fin : EP X pins σ Q u s := ⟨w, H, I, ru, cl _ _ _ _ h dw rp .refl⟩
        by_cases h0 : 0 ≤ k
        · have hj : k.toNat = j := by
            rw [PySem.seqIndex_of h0 h5] at h1
            exact Option.some.inj h1
          exact wpAny_getItem_list pl.isList h0 (by omega) (by rw [hj]; simpa using eu) fin
        · have hj : (k + (its.toArray.size : Int)).toNat = j := by
            rw [PySem.seqIndex_neg (by omega) h4] at h1
            rw [List.size_toArray, ← hl]
            exact Option.some.inj h1
          exact wpAny_getItem_list_neg pl.isList (by omega) (by rw [List.size_toArray]; omega) (by omega) (by rw [hj]; simpa using eu) fin
      · exact h.elim
    · exact h.elim
  · exact h.elim
end L3
namespace L3
open PySem L2
theorem zipS_item {prog : Program} {w : World} {A : Around} {E : Value → Shared → Prop} {s : Shared} {z TI TO i1 i2 : Addr} {k : Nat} {x y : Str} {t1 t2 : Tok} {c1 c2 : Nat} {a b : Value} {Q : Value → Shared → Prop}
    (d : [z, TI, TO, i1, i2].Nodup) (hz : IsZip s.heap z TI TO .none) (hTI : IsPair s.heap TI (.ref i1) (.ref i2)) (hTO : IsPair s.heap TO a b)
    (h1 : s.heap.IsStrIter i1 "str_ascii_iterator" x t1 k) (h2 : s.heap.IsStrIter i2 "str_ascii_iterator" y t2 k) (hx : x.cps[k]? = some c1) (hy : y.cps[k]? = some c2)
    (hQ : ∀ h' : Heap, IsZip h' z TI TO (rawInt ↑s.heap.objs.size) → (∃ a b, IsPair h' TO a b) → h'.IsStrIter i1 "str_ascii_iterator" x t1 (k + 1) → h'.IsStrIter i2 "str_ascii_iterator" y t2 (k + 1) →
      IsPair h' s.heap.objs.size (.str ⟨#[c1]⟩ s.toks) (.str ⟨#[c2]⟩ (s.toks + 1)) → h'.objs.size = s.heap.objs.size + 1 →
      (∀ c o, c ≠ z → c ≠ TO → c ≠ i1 → c ≠ i2 → s.heap.get? c = some o → h'.get? c = some o) → Q (.ref s.heap.objs.size) { s with heap := h', toks := s.toks + 2 }) :
    wpAny (model prog w) A (Builtin.«zip.__next__» { pos := [.ref z] }) (fun fin s' => ∃ v, fin = Fin.done (Flow.ret v) ∧ Q v s') E s := by
  simp only [List.nodup_cons, List.mem_cons, List.not_mem_nil, or_false, not_or] at d
  obtain ⟨⟨zTI, zTO, z1, z2⟩, ⟨TITO, TI1, TI2⟩, ⟨TO1, TO2⟩, i12, _⟩ := d
  refine wpAny_bind (show wpAny _ _ (pure (Value.ref z, ([] : List Value))) _ _ _ from wpAny_pure ?_)
  refine wpAny_bind (wpAny_field hz rfl rfl ?_)
  refine wpAny_bind (wpAny_field hz rfl rfl ?_)
  refine wpAny_bind (wpAny_seqItems hTI rfl ?_)
  refine wpAny_bind (wpAny_bind (wpAny_field hz rfl rfl (wpAny_pure ?_)))
  simp only [if_true]
  refine wpAny_bind (wpAny_rule (wpAny_bind (wpAny_field hz rfl rfl ?_)))
  refine wpAny_bind (wpAny_setField_rec hz (by simp) fun h₁ hz₁ hs₁ => ?_)
  have hz1 : IsZip h₁ z TI TO .ellipsis := hz₁
  refine wpAny_bind ?_
  simp only [List.zipIdx_cons, List.zipIdx_nil, List.forIn_cons, List.forIn_nil]
  refine wpAny_bind (wpAny_bind (wpAny_onRaise ?_))
  change wpAny _ _ (bind (Builtin.SmallTypes.nextOf (Value.ref i1)) fun x => pure (some x)) _ _ _
  refine wpAny_bind (wpAny_nextOf_ascii_item (h1.extBut hs₁.extBut (Ne.symm z1)) hx fun h₂ j2 sb2 => wpAny_pure ?_)
  have hTO2 : IsPair h₂ TO a b := sb2.extBut _ _ TO1 (hs₁.extBut _ _ (Ne.symm zTO) hTO)
  refine wpAny_bind (wpAny_seqItems hTO2 rfl (wpAny_bind (wpAny_updateSeq_pair hTO2 fun h₃ p3 sb3 => wpAny_bind (wpAny_letGo (wpAny_pure ?_)))))
  refine wpAny_bind (wpAny_bind (wpAny_onRaise ?_))
  change wpAny _ _ (bind (Builtin.SmallTypes.nextOf (Value.ref i2)) fun x => pure (some x)) _ _ _
  have k2 : h₃.IsStrIter i2 "str_ascii_iterator" y t2 k := ((h2.extBut hs₁.extBut (Ne.symm z2)).extBut sb2.extBut (Ne.symm i12)).extBut sb3.extBut (Ne.symm TO2)
  refine wpAny_bind (wpAny_nextOf_ascii_item k2 hy fun h₄ j4 sb4 => wpAny_pure ?_)
  have hTO4 : IsPair h₄ TO (.str ⟨#[c1]⟩ s.toks) b := sb4.extBut _ _ TO2 p3
  refine wpAny_bind (wpAny_seqItems hTO4 rfl (wpAny_bind (wpAny_updateSeq_pair hTO4 fun h₅ p5 sb5 => wpAny_bind (wpAny_letGo (wpAny_pure (wpAny_pure ?_))))))
  have hTO5 : IsPair h₅ TO (.str ⟨#[c1]⟩ s.toks) (.str ⟨#[c2]⟩ (s.toks + 1)) := p5
  refine wpAny_bind (wpAny_seqItems hTO5 rfl (wpAny_bind (wpAny_newTuple ?_)))
  have sz5 : h₅.objs.size = s.heap.objs.size := by rw [sb5.1, sb4.1, sb3.1, sb2.1, hs₁.1]
  have hz5 : IsZip h₅ z TI TO .ellipsis := sb5.extBut _ _ zTO (sb4.extBut _ _ z2 (sb3.extBut _ _ zTO (sb2.extBut _ _ z1 hz1)))
  rw [sz5]
  have zl : z < s.heap.objs.size := Heap.lt_size hz
  refine wpAny_bind (wpAny_bind (wpAny_setField_rec (s := { s with heap := h₅.push _, toks := s.toks + 2 }) (Heap.get?_push_of_some _ hz5) (by simp) fun h₆ hz6 sb6 => ?_))
  refine wpAny_setField_rec hz6 (by simp) fun h₇ hz7 sb7 => wpAny_pure ⟨_, rfl, ?_⟩
  have up : ∀ c o, c ≠ z → h₅.get? c = some o → h₇.get? c = some o := fun c o n e => sb7.extBut _ _ n (sb6.extBut _ _ n (Heap.get?_push_of_some _ e))
  have j1 : h₅.IsStrIter i1 "str_ascii_iterator" x t1 (k + 1) := ((j2.extBut sb3.extBut (Ne.symm TO1)).extBut sb4.extBut i12).extBut sb5.extBut (Ne.symm TO1)
  have j2' : h₅.IsStrIter i2 "str_ascii_iterator" y t2 (k + 1) := j4.extBut sb5.extBut (Ne.symm TO2)
  refine hQ h₇ hz7 ⟨_, _, up _ _ (Ne.symm zTO) hTO5⟩ (j1.extBut (fun c o n e => up c o n e) (Ne.symm z1)) (j2'.extBut (fun c o n e => up c o n e) (Ne.symm z2)) ?_ ?_ ?_
  · refine sb7.extBut _ _ (Nat.ne_of_gt zl) (sb6.extBut _ _ (Nat.ne_of_gt zl) ?_)
    rw [← sz5]
    exact Heap.get?_push_size _ rfl
  · rw [sb7.1, sb6.1, Heap.size_push, sz5]
  · intro c o n1 n2 n3 n4 e
    exact up c o n1 (sb5.extBut _ _ n2 (sb4.extBut _ _ n4 (sb3.extBut _ _ n2 (sb2.extBut _ _ n3 (hs₁.extBut _ _ n1 e)))))
theorem zipS_end {prog : Program} {w : World} {A : Around} {E : Value → Shared → Prop} {s : Shared} {z TI TO i1 i2 : Addr} {k : Nat} {x y : Str} {t1 t2 : Tok} {c1 : Nat} {a b : Value} {Q : Fin → Shared → Prop}
    (hh : A.handled = none) (d : [z, TI, TO, i1, i2].Nodup) (hz : IsZip s.heap z TI TO .none) (hTI : IsPair s.heap TI (.ref i1) (.ref i2)) (hTO : IsPair s.heap TO a b)
    (h1 : s.heap.IsStrIter i1 "str_ascii_iterator" x t1 k) (h2 : s.heap.IsStrIter i2 "str_ascii_iterator" y t2 k) (hx : x.cps[k]? = some c1) (hy : y.cps[k]? = none)
    (hE : ∀ (h' : Heap) (e : Addr), (∀ c o, c ≠ z → c ≠ TO → c ≠ i1 → c ≠ i2 → s.heap.get? c = some o → h'.get? c = some o) → (∃ o, h'.get? e = some o ∧ o.cls = .type "StopIteration") → E (.ref e) { s with heap := h', toks := s.toks + 1 }) :
    wpAny (model prog w) A (Builtin.«zip.__next__» { pos := [.ref z] }) Q E s := by
  simp only [List.nodup_cons, List.mem_cons, List.not_mem_nil, or_false, not_or] at d
  obtain ⟨⟨zTI, zTO, z1, z2⟩, ⟨TITO, TI1, TI2⟩, ⟨TO1, TO2⟩, i12, _⟩ := d
  refine wpAny_bind (show wpAny _ _ (pure (Value.ref z, ([] : List Value))) _ _ _ from wpAny_pure ?_)
  refine wpAny_bind (wpAny_field hz rfl rfl ?_)
  refine wpAny_bind (wpAny_field hz rfl rfl ?_)
  refine wpAny_bind (wpAny_seqItems hTI rfl ?_)
  refine wpAny_bind (wpAny_bind (wpAny_field hz rfl rfl (wpAny_pure ?_)))
  simp only [if_true]
  refine wpAny_bind (wpAny_rule (wpAny_bind (wpAny_field hz rfl rfl ?_)))
  refine wpAny_bind (wpAny_setField_rec hz (by simp) fun h₁ hz₁ hs₁ => ?_)
  have hz1 : IsZip h₁ z TI TO .ellipsis := hz₁
  refine wpAny_bind ?_
  simp only [List.zipIdx_cons, List.zipIdx_nil, List.forIn_cons, List.forIn_nil]
  refine wpAny_bind (wpAny_bind (wpAny_onRaise ?_))
  change wpAny _ _ (bind (Builtin.SmallTypes.nextOf (Value.ref i1)) fun x => pure (some x)) _ _ _
  refine wpAny_bind (wpAny_nextOf_ascii_item (h1.extBut hs₁.extBut (Ne.symm z1)) hx fun h₂ j2 sb2 => wpAny_pure ?_)
  have hTO2 : IsPair h₂ TO a b := sb2.extBut _ _ TO1 (hs₁.extBut _ _ (Ne.symm zTO) hTO)
  refine wpAny_bind (wpAny_seqItems hTO2 rfl (wpAny_bind (wpAny_updateSeq_pair hTO2 fun h₃ p3 sb3 => wpAny_bind (wpAny_letGo (wpAny_pure ?_)))))
  refine wpAny_bind (wpAny_bind (wpAny_onRaise ?_))
  change wpAny _ _ (bind (Builtin.SmallTypes.nextOf (Value.ref i2)) fun x => pure (some x)) _ _ _
  have k2 : h₃.IsStrIter i2 "str_ascii_iterator" y t2 k := ((h2.extBut hs₁.extBut (Ne.symm z2)).extBut sb2.extBut (Ne.symm i12)).extBut sb3.extBut (Ne.symm TO2)
  refine wpAny_bind (wpAny_nextOf_ascii_end hh k2 hy fun h₄ e sb4 he => ?_)
  have hz4 : IsZip h₄ z TI TO .ellipsis := sb4 _ _ z2 (sb3.extBut _ _ zTO (sb2.extBut _ _ z1 hz1))
  obtain ⟨o, ho, hc⟩ := he
  refine wpAny_setField_rec hz4 (by simp) fun h₅ hz5 sb5 => hE h₅ e (fun c u n1 n2 n3 n4 q => ?_) ⟨o, sb5.extBut _ _ (fun q => ?_) ho, hc⟩
  · exact sb5.extBut _ _ n1 (sb4 _ _ n4 (sb3.extBut _ _ n2 (sb2.extBut _ _ n3 (hs₁.extBut _ _ n1 q))))
  · subst q
    rw [show h₄.get? e = _ from hz4] at ho
    cases ho
    exact absurd (Value.type.inj hc) (by decide)
theorem nextZipS_item {prog : Program} {w : World} {A : Around} {E : Value → Shared → Prop} {s : Shared} {z TI TO i1 i2 : Addr} {k : Nat} {x y : Str} {t1 t2 : Tok} {c1 c2 : Nat} {a b : Value} {Q : Option Value → Shared → Prop}
    (d : [z, TI, TO, i1, i2].Nodup) (hz : IsZip s.heap z TI TO .none) (hTI : IsPair s.heap TI (.ref i1) (.ref i2)) (hTO : IsPair s.heap TO a b)
    (h1 : s.heap.IsStrIter i1 "str_ascii_iterator" x t1 k) (h2 : s.heap.IsStrIter i2 "str_ascii_iterator" y t2 k) (hx : x.cps[k]? = some c1) (hy : y.cps[k]? = some c2)
    (hQ : ∀ h' : Heap, IsZip h' z TI TO (rawInt ↑s.heap.objs.size) → (∃ a b, IsPair h' TO a b) → h'.IsStrIter i1 "str_ascii_iterator" x t1 (k + 1) → h'.IsStrIter i2 "str_ascii_iterator" y t2 (k + 1) →
      IsPair h' s.heap.objs.size (.str ⟨#[c1]⟩ s.toks) (.str ⟨#[c2]⟩ (s.toks + 1)) → h'.objs.size = s.heap.objs.size + 1 →
      (∀ c o, c ≠ z → c ≠ TO → c ≠ i1 → c ≠ i2 → s.heap.get? c = some o → h'.get? c = some o) → Q (some (.ref s.heap.objs.size)) { s with heap := h', toks := s.toks + 2 }) :
    wpAny (model prog w) A (pyNext (.ref z)) Q E s := by
  have hT : s.TypeIs (.ref z) "zip" := ⟨_, hz, rfl⟩
  exact wpAny_bind (wpAny_attempt (wpAny_callSpecial?_slot hT F.slot_zip_next (wpAny_call_entry F.slot_zip_next hT F.entry_zip_next
    (zipS_item d hz hTI hTO h1 h2 hx hy fun h' a1 a2 a3 a4 a5 a6 a7 => wpAny_pure (hQ h' a1 a2 a3 a4 a5 a6 a7)) (F.args_zip_next_1 (Value.ref z)))))
theorem nextZipS_end {prog : Program} {w : World} {A : Around} {E : Value → Shared → Prop} {s : Shared} {z TI TO i1 i2 : Addr} {k : Nat} {x y : Str} {t1 t2 : Tok} {c1 : Nat} {a b : Value} {Q : Option Value → Shared → Prop}
    (hh : A.handled = none) (d : [z, TI, TO, i1, i2].Nodup) (hz : IsZip s.heap z TI TO .none) (hTI : IsPair s.heap TI (.ref i1) (.ref i2)) (hTO : IsPair s.heap TO a b)
    (h1 : s.heap.IsStrIter i1 "str_ascii_iterator" x t1 k) (h2 : s.heap.IsStrIter i2 "str_ascii_iterator" y t2 k) (hx : x.cps[k]? = some c1) (hy : y.cps[k]? = none)
    (hQ : ∀ h' : Heap, (∀ c o, c ≠ z → c ≠ TO → c ≠ i1 → c ≠ i2 → s.heap.get? c = some o → h'.get? c = some o) → Q none { s with heap := h', toks := s.toks + 1 }) :
    wpAny (model prog w) A (pyNext (.ref z)) Q E s := by
  have hT : s.TypeIs (.ref z) "zip" := ⟨_, hz, rfl⟩
  exact wpAny_bind (wpAny_attempt (wpAny_callSpecial?_slot hT F.slot_zip_next (wpAny_call_entry F.slot_zip_next hT F.entry_zip_next
    (zipS_end hh d hz hTI hTO h1 h2 hx hy fun h' e hk ⟨o, ho, hc⟩ => wpAny_bind (wpAny_isInstance ⟨o, ho, hc⟩ isSubtype_stop (wpAny_pure (hQ h' hk)))) (F.args_zip_next_1 (Value.ref z)))))
end L3
namespace L3
open PySem L2
theorem newRec {M : Model} {A : Around} {E : Value → Shared → Prop} {s : Shared} {T : String} {vs : List Value} {Q : Value → Shared → Prop} (h : Q (.ref s.heap.objs.size) { s with heap := s.heap.push { cls := .type T, dict := none, data := .fields vs.toArray } }) (hs : sizeOk (.fields vs.toArray)) :
    wpAny M A (Builtin.SmallTypes.newRecord (.type T) vs) Q E s := by
  show wpAny M A (newObj (.type T) (.fields vs.toArray)) Q E s
  exact wpAny_newObj_type h hs
theorem zipS_new (x y : Str) (t1 t2 : Tok) (ax : (x.cps.all fun x => decide (x < 128)) = true) (ay : (y.cps.all fun x => decide (x < 128)) = true) :
    Meets (Builtin.«zip.__new__» { pos := [.type "zip", .str x t1, .str y t2] }) fun A R s =>
      ∀ h' : Heap, IsZip h' (s.heap.objs.size + 4) (s.heap.objs.size + 2) (s.heap.objs.size + 3) .none → IsPair h' (s.heap.objs.size + 2) (.ref s.heap.objs.size) (.ref (s.heap.objs.size + 1)) → IsPair h' (s.heap.objs.size + 3) .none .none →
        h'.IsStrIter s.heap.objs.size "str_ascii_iterator" x t1 0 → h'.IsStrIter (s.heap.objs.size + 1) "str_ascii_iterator" y t2 0 → h'.objs.size = s.heap.objs.size + 5 → (∀ c o, s.heap.get? c = some o → h'.get? c = some o) →
        R (.ok (.ret (.ref (s.heap.objs.size + 4)))) { s with heap := h' } := by
  refine Meets.of_wp fun prog w A R s h => ?_
  refine wpAny_bind (wpAny_bind (show wpAny _ _ (pure _) _ _ _ from wpAny_pure ?_))
  refine wpAny_ite_false rfl (wpAny_bind (wpAny_of_eq sub_zip (wpAny_ite_false rfl (wpAny_pure (wpAny_ite_false rfl ?_)))))
  refine wpAny_bind (wpAny_bind ?_)
  refine wpAny_bind (wpAny_bind (wpAny_holding (wpAny_pyIter_ascii ax (wpAny_pure ?_))))
  refine wpAny_bind (wpAny_bind (wpAny_holding (wpAny_pyIter_ascii ay (wpAny_pure ?_))))
  refine wpAny_pure (wpAny_pure ?_)
  refine wpAny_bind (wpAny_newTuple ?_ (show 2 ≤ sizeLine by decide))
  refine wpAny_bind (wpAny_newTuple ?_ (show 2 ≤ sizeLine by decide))
  refine wpAny_bind (newRec ?_ (show 5 ≤ sizeLine + 2 by decide))
  have z1 := Heap.size_push s.heap { cls := Value.type "str_ascii_iterator", data := Data.fields #[Value.str x t1, Value.int 0 0] }
  generalize e1 : s.heap.push { cls := Value.type "str_ascii_iterator", data := Data.fields #[Value.str x t1, Value.int 0 0] } = g1 at *
  have z2 := Heap.size_push g1 { cls := Value.type "str_ascii_iterator", data := Data.fields #[Value.str y t2, Value.int 0 0] }
  have p1 : g1.get? s.heap.objs.size = some { cls := Value.type "str_ascii_iterator", data := Data.fields #[Value.str x t1, Value.int 0 0] } := by rw [← e1]; exact Heap.get?_push_size _ rfl
  have q1 : ∀ c o, s.heap.get? c = some o → g1.get? c = some o := fun c o q => by rw [← e1]; exact Heap.get?_push_of_some _ q
  have p2 := Heap.get?_push_size g1 (o := { cls := Value.type "str_ascii_iterator", data := Data.fields #[Value.str y t2, Value.int 0 0] }) rfl
  have q2 : ∀ c o, g1.get? c = some o → (g1.push { cls := Value.type "str_ascii_iterator", data := Data.fields #[Value.str y t2, Value.int 0 0] }).get? c = some o := fun c o q => Heap.get?_push_of_some _ q
  generalize g1.push { cls := Value.type "str_ascii_iterator", data := Data.fields #[Value.str y t2, Value.int 0 0] } = g2 at *
  rw [z1] at z2 p2
  refine wpAny_pure ⟨_, rfl, ?_⟩
  have z3 := Heap.size_push g2 { cls := Value.type "tuple", data := Data.seq #[Value.ref s.heap.objs.size, Value.ref g1.objs.size] }
  have p3 := Heap.get?_push_size g2 (o := { cls := Value.type "tuple", data := Data.seq #[Value.ref s.heap.objs.size, Value.ref g1.objs.size] }) rfl
  have q3 : ∀ c o, g2.get? c = some o → (g2.push { cls := Value.type "tuple", data := Data.seq #[Value.ref s.heap.objs.size, Value.ref g1.objs.size] }).get? c = some o := fun c o q => Heap.get?_push_of_some _ q
  show R (Except.ok (Flow.ret (Value.ref ((g2.push { cls := Value.type "tuple", data := Data.seq #[Value.ref s.heap.objs.size, Value.ref g1.objs.size] }).push { cls := Value.type "tuple", data := Data.seq #[Value.none, Value.none] }).objs.size))) { s with heap := (((g2.push { cls := Value.type "tuple", data := Data.seq #[Value.ref s.heap.objs.size, Value.ref g1.objs.size] }).push { cls := Value.type "tuple", data := Data.seq #[Value.none, Value.none] }).push { cls := Value.type "zip", data := Data.fields #[Value.none, Value.bool false, Value.bool false, Value.ref g2.objs.size, Value.ref (g2.push { cls := Value.type "tuple", data := Data.seq #[Value.ref s.heap.objs.size, Value.ref g1.objs.size] }).objs.size] }) }
  generalize g2.push { cls := Value.type "tuple", data := Data.seq #[Value.ref s.heap.objs.size, Value.ref g1.objs.size] } = g3 at *
  have z4 := Heap.size_push g3 { cls := Value.type "tuple", data := Data.seq #[Value.none, Value.none] }
  have p4 := Heap.get?_push_size g3 (o := { cls := Value.type "tuple", data := Data.seq #[Value.none, Value.none] }) rfl
  have q4 : ∀ c o, g3.get? c = some o → (g3.push { cls := Value.type "tuple", data := Data.seq #[Value.none, Value.none] }).get? c = some o := fun c o q => Heap.get?_push_of_some _ q
  generalize g3.push { cls := Value.type "tuple", data := Data.seq #[Value.none, Value.none] } = g4 at *
  have s2 : g2.objs.size = s.heap.objs.size + 2 := z2
  have s3 : g3.objs.size = s.heap.objs.size + 3 := by rw [z3, s2]
  have s4 : g4.objs.size = s.heap.objs.size + 4 := by rw [z4, s3]
  rw [s2, s3, s4]
  have z5 := Heap.size_push g4 { cls := Value.type "zip", data := Data.fields #[Value.none, Value.bool false, Value.bool false, Value.ref (s.heap.objs.size + 2), Value.ref (s.heap.objs.size + 3)] }
  have p5 := Heap.get?_push_size g4 (o := { cls := Value.type "zip", data := Data.fields #[Value.none, Value.bool false, Value.bool false, Value.ref (s.heap.objs.size + 2), Value.ref (s.heap.objs.size + 3)] }) rfl
  have q5 : ∀ c o, g4.get? c = some o → (g4.push { cls := Value.type "zip", data := Data.fields #[Value.none, Value.bool false, Value.bool false, Value.ref (s.heap.objs.size + 2), Value.ref (s.heap.objs.size + 3)] }).get? c = some o := fun c o q => Heap.get?_push_of_some _ q
  rw [s4] at z5 p5
  rw [s3] at p4
  rw [s2, z1] at p3
  exact h _ p5 (q5 _ _ (q4 _ _ p3)) (q5 _ _ p4) ⟨_, q5 _ _ (q4 _ _ (q3 _ _ (q2 _ _ p1))), rfl, rfl⟩ ⟨_, q5 _ _ (q4 _ _ (q3 _ _ p2)), rfl, rfl⟩ z5 fun c o q => q5 _ _ (q4 _ _ (q3 _ _ (q2 _ _ (q1 _ _ q))))
theorem call_zipS {prog : Program} {w : World} {A : Around} {E : Value → Shared → Prop} {s : Shared} {x y : Str} {t1 t2 : Tok} {Q : Value → Shared → Prop} (ax : (x.cps.all fun x => decide (x < 128)) = true) (ay : (y.cps.all fun x => decide (x < 128)) = true)
    (h : ∀ h' : Heap, IsZip h' (s.heap.objs.size + 4) (s.heap.objs.size + 2) (s.heap.objs.size + 3) .none → IsPair h' (s.heap.objs.size + 2) (.ref s.heap.objs.size) (.ref (s.heap.objs.size + 1)) → IsPair h' (s.heap.objs.size + 3) .none .none →
        h'.IsStrIter s.heap.objs.size "str_ascii_iterator" x t1 0 → h'.IsStrIter (s.heap.objs.size + 1) "str_ascii_iterator" y t2 0 → h'.objs.size = s.heap.objs.size + 5 → (∀ c o, s.heap.get? c = some o → h'.get? c = some o) →
        Q (.ref (s.heap.objs.size + 4)) { s with heap := h' }) :
    wpAny (model prog w) A (call (.type "zip") [.str x t1, .str y t2]) Q E s :=
  callType_new F.called_zip (by decide) (F.typeCall_zip_2 _ _) (F.newCall_zip_2 _ _) (fun obj => F.args_object_init_3 obj _ _) F.entry_zip_new (zipS_new x y t1 t2 ax ay)
    fun h' a1 a2 a3 a4 a5 a6 a7 => ⟨⟨_, a1, rfl⟩, h h' a1 a2 a3 a4 a5 a6 a7⟩
end L3
namespace L3
open PySem L2
def Itz (x y : Str) : It :=
  ⟨fun i _ => i < y.cps.size, fun i H v H' => ∃ p c d, H p = none ∧ v = .ref p ∧ x.cps[i]? = some c ∧ y.cps[i]? = some d ∧ H' = upd H p (.tup [.str ⟨#[c]⟩, .str ⟨#[d]⟩]), fun i _ => i = y.cps.size⟩
theorem turn_zipS {P : Program} {w : World} {K : PySem.W.Frag} {elts : List Expr} {x1 : Nat} {pos : Pos} {x y : Str} {t1 t2 : Tok} {z TI TO i1 i2 : Addr} (d : [z, TI, TO, i1, i2].Nodup) (hlt : y.cps.size < x.cps.size) :
    Turn P w K (.Tuple elts x1 pos) (Itz x y) [z, TI, TO, i1, i2] z (fun i h => IsZip h z TI TO .none ∧ IsPair h TI (.ref i1) (.ref i2) ∧ (∃ a b, IsPair h TO a b) ∧ h.IsStrIter i1 "str_ascii_iterator" x t1 i ∧ h.IsStrIter i2 "str_ascii_iterator" y t2 i) where
  mem := by simp
  obj := fun i h st b hb => by
    obtain ⟨hz, hTI, ⟨a, c, hTO⟩, ⟨o1, e1, _, d1⟩, ⟨o2, e2, _, d2⟩⟩ := st
    have hb' : b = z ∨ b = TI ∨ b = TO ∨ b = i1 ∨ b = i2 := by simpa using hb
    rcases hb' with rfl | rfl | rfl | rfl | rfl
    · exact ⟨_, hz, fun v q => by cases (show Data.fields _ = Data.cell v from q)⟩
    · exact ⟨_, hTI, fun v q => by cases (show Data.seq _ _ = Data.cell v from q)⟩
    · exact ⟨_, hTO, fun v q => by cases (show Data.seq _ _ = Data.cell v from q)⟩
    · exact ⟨o1, e1, fun v q => by rw [d1] at q; cases q⟩
    · exact ⟨o2, e2, fun v q => by rw [d2] at q; cases q⟩
  keep := fun i h h' st k => by
    obtain ⟨hz, hTI, ⟨a, c, hTO⟩, ⟨o1, e1, c1, d1⟩, ⟨o2, e2, c2, d2⟩⟩ := st
    exact ⟨k z (by simp) _ hz, k TI (by simp) _ hTI, ⟨a, c, k TO (by simp) _ hTO⟩, ⟨o1, k i1 (by simp) o1 e1, c1, d1⟩, ⟨o2, k i2 (by simp) o2 e2, c2, d2⟩⟩
  item := by
    intro X hP hw hK hc i pins s σ H E I hf st hg
    subst hP hw hK
    obtain ⟨hz, hTI, ⟨a, b, hTO⟩, h1, h2⟩ := st
    have hi : i < y.cps.size := hg
    have hix : i < x.cps.size := Nat.lt_trans hi hlt
    have lts : ∀ b ∈ [z, TI, TO, i1, i2], b < s.heap.objs.size := fun b hb => by
      have hb' : b = z ∨ b = TI ∨ b = TO ∨ b = i1 ∨ b = i2 := by simpa using hb
      rcases hb' with rfl | rfl | rfl | rfl | rfl
      · exact Heap.lt_size hz
      · exact Heap.lt_size hTI
      · exact Heap.lt_size hTO
      · obtain ⟨o, e, _⟩ := h1; exact Heap.lt_size e
      · obtain ⟨o, e, _⟩ := h2; exact Heap.lt_size e
    refine nextZipS_item d hz hTI hTO h1 h2 (c1 := x.cps[i]) (c2 := y.cps[i]) (by simp [hix]) (by simp [hi]) fun g1 gz gTO gi1 gi2 gT gsz gk => ?_
    refine ⟨_, rfl, wpAny_letOwnedTupleGo_zip gz fun g2 hz2 hs2 => ?_⟩
    replace hs2 : Heap.SameBut z g1 g2 := hs2
    have hpn : H s.heap.objs.size = none := I.hok.fresh (Nat.le_refl _)
    have k2 : ∀ b o, b ∉ [z, TI, TO, i1, i2] → s.heap.get? b = some o → g2.get? b = some o := fun b o n q => by
      simp only [List.mem_cons, List.not_mem_nil, or_false, not_or] at n
      exact hs2.extBut b o n.1 (gk b o n.1 n.2.2.1 n.2.2.2.1 n.2.2.2.2 q)
    have hTI2 : IsPair g2 TI (.ref i1) (.ref i2) := by
      simp only [List.nodup_cons, List.mem_cons, List.not_mem_nil, or_false, not_or] at d
      exact hs2.extBut _ _ (Ne.symm d.1.1) (gk _ _ (Ne.symm d.1.1) d.2.1.1 d.2.1.2.1 d.2.1.2.2 hTI)
    have ht2 : g2.get? s.heap.objs.size = some { cls := .type "tuple", data := .seq #[.str ⟨#[x.cps[i]]⟩ s.toks, .str ⟨#[y.cps[i]]⟩ (s.toks + 1)] } := hs2.extBut _ _ (Nat.ne_of_gt (lts z (by simp))) gT
    have ne1 : ∀ b o, H b = some o → b ∉ [z, TI, TO, i1, i2] := fun b o q hb => by rw [(hf b hb).1] at q; cases q
    have lt : ∀ b o, s.heap.get? b = some o → b ≠ s.heap.objs.size := fun b o q => Nat.ne_of_lt (Heap.lt_size q)
    have hok : HOk X.prog X.w (upd H s.heap.objs.size (.tup [.str ⟨#[x.cps[i]]⟩, .str ⟨#[y.cps[i]]⟩])) g2 := fun b o q => by
      by_cases hb : b = s.heap.objs.size
      · subst hb
        rw [upd_same] at q
        cases q
        refine ⟨(by show 2 ≤ sizeLine; decide), [.str ⟨#[x.cps[i]]⟩ s.toks, .str ⟨#[y.cps[i]]⟩ (s.toks + 1)], .cons ⟨_, rfl⟩ (.cons ⟨_, rfl⟩ .nil), ⟨_, ht2, rfl, _, rfl⟩⟩
      · rw [upd_ne hb] at q
        refine (I.hok b o q).stay (fun c v hc' z => ?_) (fun c z => by rw [upd_ne (ne_of_none z hpn)]; exact z) fun c xs z => by rw [upd_ne (ne_of_none z hpn)]; exact z
        refine k2 c v ?_ z
        rcases hc' with rfl | hc'
        · exact ne1 _ _ q
        · exact ne1 _ _ hc'
    have un : Un (frs X.stack) [z, TI, TO, i1, i2] H (upd H s.heap.objs.size (.tup [.str ⟨#[x.cps[i]]⟩, .str ⟨#[y.cps[i]]⟩])) s.heap g2 := by
      refine ⟨fun b o q _ _ hb => k2 b o hb q, fun b o q _ _ hb => ⟨o.slots, k2 b o hb q⟩, fun b o q n _ => by rw [upd_ne (lt b o q)]; exact n,
        fun b o q hb => ⟨o, k2 b o hb q⟩, fun b xs q => by rw [upd_ne (ne_of_none q hpn)]; exact q, fun b o xs q => by rw [upd_ne (ne_of_none q hpn)]; exact q, fun b ps q => ⟨#[], by rw [upd_ne (ne_of_none q hpn), q]; simp⟩⟩
    have I2 : Inv X pins σ (upd H s.heap.objs.size (.tup [.str ⟨#[x.cps[i]]⟩, .str ⟨#[y.cps[i]]⟩])) { s with heap := g2, toks := s.toks + 2 } := I.call' (s' := { s with heap := g2, toks := s.toks + 2 }) rfl un hok I.bare fun b hb => by
      have q := hf b hb
      exact ⟨q.2.2.2.1, q.2.1, q.2.2.2.2.1, q.2.2.2.2.2⟩
    obtain ⟨a', b', gTO⟩ := gTO
    have d' := d
    simp only [List.nodup_cons, List.mem_cons, List.not_mem_nil, or_false, not_or] at d'
    refine ⟨.ref s.heap.objs.size, _, I2, rfl, ⟨s.heap.objs.size, x.cps[i], y.cps[i], hpn, rfl, by simp [hix], by simp [hi], rfl⟩, ⟨hz2, hTI2, ⟨_, _, hs2.extBut _ _ (Ne.symm d'.1.2.1) gTO⟩, gi1.extBut hs2.extBut (Ne.symm d'.1.2.2.1), gi2.extBut hs2.extBut (Ne.symm d'.1.2.2.2)⟩, fun b hb => ?_⟩
    rw [upd_ne (Nat.ne_of_lt (lts b hb))]
    exact (hf b hb).1
  done := by
    intro X hP hw hK hc i pins s σ H E I hf st hg
    subst hP hw hK
    obtain ⟨hz, hTI, ⟨a, b, hTO⟩, h1, h2⟩ := st
    have hi : i = y.cps.size := hg
    have hix : i < x.cps.size := by omega
    refine nextZipS_end (I.ok.hd hc) d hz hTI hTO h1 h2 (c1 := x.cps[i]) (by simp [hix]) (by simp [hi]) fun g2 gk => ⟨rfl, ?_⟩
    have k2 : ∀ b o, b ∉ [z, TI, TO, i1, i2] → s.heap.get? b = some o → g2.get? b = some o := fun b o n q => by
      simp only [List.mem_cons, List.not_mem_nil, or_false, not_or] at n
      exact gk b o n.1 n.2.2.1 n.2.2.2.1 n.2.2.2.2 q
    have ne1 : ∀ b o, H b = some o → b ∉ [z, TI, TO, i1, i2] := fun b o q hb => by rw [(hf b hb).1] at q; cases q
    have hok : HOk X.prog X.w H g2 := fun b o q => by
      refine (I.hok b o q).stay (fun c v hc' z => ?_) (fun c z => z) fun c xs z => z
      refine k2 c v ?_ z
      rcases hc' with rfl | hc'
      · exact ne1 _ _ q
      · exact ne1 _ _ hc'
    have un : Un (frs X.stack) [z, TI, TO, i1, i2] H H s.heap g2 := by
      refine ⟨fun b o q _ _ hb => k2 b o hb q, fun b o q _ _ hb => ⟨o.slots, k2 b o hb q⟩, fun b o q n _ => n,
        fun b o q hb => ⟨o, k2 b o hb q⟩, fun b xs q => q, fun b o xs q => q, fun b ps q => ⟨#[], by rw [q]; simp⟩⟩
    exact I.call' (s' := { s with heap := g2, toks := s.toks + 1 }) rfl un hok I.bare fun b hb => by
      have q := hf b hb
      exact ⟨q.2.2.2.1, q.2.1, q.2.2.2.2.1, q.2.2.2.2.2⟩
  self := fun _ _ _ _ _ st h => wpAny_pyIter_zip st.1 h
theorem nd5 (n : Nat) : [n + 4, n + 2, n + 3, n, n + 1].Nodup := by
  simp only [List.nodup_cons, List.mem_cons, List.not_mem_nil, or_false, not_or, not_false_eq_true, List.nodup_nil, and_true]
  omega
/-- zip(x, y) of two texts, the second one shorter -/
def iZipS (ta : TA) : TI := fun σ H R => ta σ H fun vs H1 => ∃ x y, vs = [.str x, .str y] ∧ (x.cps.all fun x => decide (x < 128)) = true ∧ (y.cps.all fun x => decide (x < 128)) = true ∧ y.cps.size < x.cps.size ∧ R (Itz x y) H1
theorem pi_zipS {X : Cx} {a b : Expr} {ta : TA} {p pos : Pos} {elts : List Expr} {x1 : Nat} {tp : Pos} (hg : Gl X "zip") (hm : X.mg "zip" = none) (ha : PA X [a, b] ta) (hs : starEach [a, b] X.env = (false, eval a X.env) :: starEach [b] X.env := by rfl) (hpl : ((backTo pos (starEach [b] X.env)).any fun x => x.fst) = false := by rfl) :
    PI X (.Tuple elts x1 tp) (.Call (.Name "zip" p) [a, b] [] pos) (iZipS ta) := by
  intro pins s σ H R I h
  refine wpAny_Call_Name_kw (ld_blt (u := .type "zip") I hg hm (by decide +kernel) ?_)
  refine PyProof.Rows.callWith_type1 (thn (ha pos pins s σ H _ I h) fun us s1 ⟨vs, H1, I1, r1, q1⟩ => ?_) hs hpl
  obtain ⟨x, y, rfl, ax, ay, hl, q⟩ := q1
  obtain ⟨u, v, rfl, ⟨t1, rfl⟩, ⟨t2, rfl⟩⟩ := r1.two
  refine call_zipS ax ay fun h' hz hTI hTO hi1 hi2 hz' hk => ?_
  refine wpAny_pyIter_zip hz ?_
  refine ⟨s1.heap.objs.size + 4, [s1.heap.objs.size + 4, s1.heap.objs.size + 2, s1.heap.objs.size + 3, s1.heap.objs.size, s1.heap.objs.size + 1], _, _, H1, rfl, I1.kept (t' := s1.toks) fun b o e => hk b o e, turn_zipS (t1 := t1) (t2 := t2) ?_ hl, ⟨hz, hTI, ⟨_, _, hTO⟩, hi1, hi2⟩, fun b hb => ?_, q⟩
  · exact nd5 s1.heap.objs.size
  · have hle : s1.heap.objs.size ≤ b := by
      have hb' : b = s1.heap.objs.size + 4 ∨ b = s1.heap.objs.size + 2 ∨ b = s1.heap.objs.size + 3 ∨ b = s1.heap.objs.size ∨ b = s1.heap.objs.size + 1 := by simpa using hb
      rcases hb' with rfl | rfl | rfl | rfl | rfl <;> first | exact Nat.le_add_right _ _ | exact Nat.le_refl _
    exact I1.fpOk hle (I1.hok.fresh hle)
end L3
namespace L2
open PySem PySem.Spec PyProof.Rows
abbrev tT2 (x y : Str) (px py : Pos) (kt : Nat) (pt : Pos) : Expr := .Tuple [.Name x px, .Name y py] kt pt
structure CompTwo (scope : Scope) (M : List Str) (ix : List (Option Nat)) (j2 : Nat) (y : Str) : Prop where
  tgt : M[j2]? = some y
  loc : scope.names.lookup y = some .local
  own : ix[j2]? = some none
theorem set_weak2 {c : St} {j j2 : Nat} {v u : V} (h : c[j]? = some none) (h2 : c[j2]? = some none) : ∀ (i : Nat) (z : V), c[i]? = some (some z) → ((c.set j (some v)).set j2 (some u))[i]? = some (some z) := fun i z e => by
  have n1 : j ≠ i := fun q => by subst q; rw [h] at e; cases e
  have n2 : j2 ≠ i := fun q => by subst q; rw [h2] at e; cases e
  rw [List.getElem?_set_ne n2, List.getElem?_set_ne n1]; exact e
def CompGo2 (K : PySem.W.Frag) (J : It) (ix : List (Option Nat)) (j j2 : Nat) (σ : St) (tf : TT) (te : TE) (Q : VK) (H1 : Hp) (acc : Addr) : Prop := ∃ W : Nat → Nat → Hp → Prop, (∃ m, W 0 m (upd H1 acc (.lst []))) ∧ ∀ i m H', W i m H' →
  (J.stop i H' ∧ Q (.ref acc) H') ∨ (J.go i H' ∧ ∀ x H2, J.yld i H' x H2 → ∃ a u1 u2, x = .ref a ∧ SqT K H2 a [u1, u2] ∧ tf (((cap ix σ).set j (some u1)).set j2 (some u2)) H2 fun b H3 =>
    if b = true then te (((cap ix σ).set j (some u1)).set j2 (some u2)) H3 fun y H4 => ∃ ys, H4 acc = some (.lst ys) ∧ ys.length < sizeLine ∧ ∃ m', m' < m ∧ W (i + 1) m' (upd H4 acc (.lst (ys ++ [y])))
    else ∃ m', m' < m ∧ W (i + 1) m' H3)
def tComp2 (K : PySem.W.Frag) (wi : TI) (ix : List (Option Nat)) (j j2 : Nat) (tf : TT) (te : TE) : TE := fun σ H Q => wi σ H fun J H1 => ∀ acc, H1 acc = none → CompGo2 K J ix j j2 σ tf te Q H1 acc
section
variable {X : Cx} {scope : Scope} {M : List Str} {ix : List (Option Nat)} {j : Nat} {x : Str}
/-- the block's run, from its first turn on -/
theorem comp_block2 {elt iter : Expr} {px py pt : Pos} {kt j2 : Nat} {y : Str} {ifs : List Expr} {pos : Pos} {tf : TT} {te : TE} {pins : List (Addr × Obj)} {σ : St} {H : Hp} {s : Shared} {fp : List Addr} {it : Addr} {tn : Nat → Heap → Prop} {J : It} {h1 : Heap} {tk : Nat} {Q : VK} {R : Result → Shared → Prop}
    (S : CompScope X.env.scope X.N scope M ix j x) (S2 : CompTwo scope M ix j2 y) (hc : X.calm = true) (I : Inv X pins σ H s)
    (hF : PF (cxComp X M scope (s.heap.objs.size + 1) s H fp) ifs tf) (hE : PE (cxComp X M scope (s.heap.objs.size + 1) s H fp) elt te)
    (T : Turn X.prog X.w X.K (tT2 x y px py kt pt) J fp it tn) (st : tn 0 s.heap) (hf : ∀ b ∈ fp, FpOk X pins H b)
    (I0 : Inv (cxComp X M scope (s.heap.objs.size + 1) s H fp) [] (cap ix σ) (upd H s.heap.objs.size (.lst [])) { s with heap := h1, toks := tk }) (old : ∀ b o, s.heap.get? b = some o → h1.get? b = some o)
    (q : CompGo2 X.K J ix j j2 σ tf te Q H s.heap.objs.size)
    (hR : ∀ H' s', Inv (cxComp X M scope (s.heap.objs.size + 1) s H fp) [] (cap ix σ) H' s' → Q (.ref s.heap.objs.size) H' → R (.ok .next) s') :
    codeAny (model X.prog X.w) X.A (.compLoop (.ListComp elt [⟨tT2 x y px py kt pt, iter, ifs, 0⟩] scope pos) 0 (.ref it) (.ref s.heap.objs.size) (compEnvC scope (clOf X.env.cells scope.names []) (s.heap.objs.size + 1) X.env)) R { s with heap := h1, toks := tk } := by
  obtain ⟨W, ⟨m0, w0⟩, turn⟩ := q
  have hD : s.heap.objs.size ∉ fp := fun z => by
    obtain ⟨o, e, _⟩ := T.obj 0 s.heap st _ z
    exact absurd (Heap.lt_size e) (Nat.lt_irrefl _)
  have hlt : ∀ b ∈ fp, b < s.heap.objs.size := fun b hb => by
    obtain ⟨o, e, _⟩ := T.obj 0 s.heap st b hb
    exact Heap.lt_size e
  have stat : ∀ {H' : Hp}, (∀ b ∈ fp, H' b = none) → ∀ b ∈ fp, FpOk (cxComp X M scope (s.heap.objs.size + 1) s H fp) [] H' b := fun hn b hb =>
    ⟨hn b hb, Nat.ne_of_lt (Nat.lt_succ_of_lt (hlt b hb)), I0.ok.exfs b hb, .inl hb, (I0.ok.exf b hb).2, fun p hp => absurd (show p ∈ ([] : List (Addr × Obj)) from hp) (by simp)⟩
  have own := cap_own S.own σ
  have own2 := cap_own S2.own σ
  refine compLoop_own rfl (fun n s' => ∃ i H', Inv (cxComp X M scope (s.heap.objs.size + 1) s H fp) [] (cap ix σ) H' s' ∧ tn i s'.heap ∧ (∀ b ∈ fp, H' b = none) ∧ W i n H') ?_ m0
    ⟨0, _, I0, T.keep 0 _ _ st fun b _ o e => old b o e, fun b hb => by rw [upd_ne (Nat.ne_of_lt (hlt b hb))]; exact (hf b hb).1, w0⟩
  rintro n s3 ⟨i, H3, I3, st3, fr3, w3⟩
  rcases turn i n H3 w3 with ⟨stop, qn⟩ | ⟨go, step⟩
  · refine wpAny_mono (T.done (cxComp X M scope (s.heap.objs.size + 1) s H fp) rfl rfl rfl hc i [] s3 (cap ix σ) H3 (fun _ _ => False) I3 (stat fr3) st3 stop) (fun r s4 ⟨hr, I4⟩ => ?_) (fun _ _ z => z.elim)
    subst hr
    exact hR H3 s4 I4 qn
  · refine wpAny_mono (T.item (cxComp X M scope (s.heap.objs.size + 1) s H fp) rfl rfl rfl hc i [] s3 (cap ix σ) H3 (fun _ _ => False) I3 (stat fr3) st3 go) (fun r s4 ⟨u, hr, h4⟩ => ?_) (fun _ _ z => z.elim)
    subst hr
    refine wpAny_mono h4 (fun _ s5 ⟨yv, H5, I5, r5, y5, st5, fr5⟩ => ?_) (fun _ _ z => z.elim)
    have I5' := I5.pinned (stat fr5) (T.obj _ _ st5)
    have pg : PG (cxComp X M scope (s.heap.objs.size + 1) s H fp) (tT2 x y px py kt pt) (gTup X.K 2 (gCons (gName j) (gCons (gName j2) gNil))) :=
      pg_tup hc (pgs_cons (pg_name S.nd S.tgt (.inl (by show (relabel scope X.env).names.lookup x = some .local; exact lookup_relabel_local S.loc)) (.inr (by show (relabel scope X.env).names.lookup x = some .local; exact lookup_relabel_local S.loc)))
        (pgs_cons (pg_name S.nd S2.tgt (.inl (by show (relabel scope X.env).names.lookup y = some .local; exact lookup_relabel_local S2.loc)) (.inr (by show (relabel scope X.env).names.lookup y = some .local; exact lookup_relabel_local S2.loc))) pgs_nil))
    obtain ⟨ta, u1, u2, et, sq, step⟩ := step yv _ y5
    refine wpAny_mono (pg _ s5 (cap ix σ) H5 yv u (fun σ2 H2 => σ2 = ((cap ix σ).set j (some u1)).set j2 (some u2) ∧ H2 = H5) I5' r5 ⟨ta, [u1, u2], et, sq, rfl, u1, [u2], rfl, u2, [], rfl, rfl, rfl, rfl⟩) (fun _ s6 ⟨σ6, H6, I6, e6, eh6⟩ => ?_) (fun _ _ z => z.elim)
    subst e6; subst eh6
    have again : ∀ {H7 : Hp} {s7 : Shared}, Inv (cxComp X M scope (s.heap.objs.size + 1) s H fp) ([] ++ pinsAt fp s5.heap) (((cap ix σ).set j (some u1)).set j2 (some u2)) H7 s7 → (∃ m', m' < n ∧ W (i + 1) m' H7) →
        ∃ m, m < n ∧ ∃ i H', Inv (cxComp X M scope (s.heap.objs.size + 1) s H fp) [] (cap ix σ) H' s7 ∧ tn i s7.heap ∧ (∀ b ∈ fp, H' b = none) ∧ W i m H' := fun {H7 s7} I7 ⟨m', hm, w7⟩ => by
      have Iw : Inv (cxComp X M scope (s.heap.objs.size + 1) s H fp) [] (cap ix σ) H7 s7 := (Inv.unpinned (pins := []) I7).weak (by simp) (set_weak2 own own2)
      refine ⟨m', hm, i + 1, H7, Iw, T.keep _ _ _ st5 fun b hb o e => (I7.pin (b, o) (List.mem_append_right _ (List.mem_append_right _ (mem_pinsAt hb e)))).1, fun b hb => ?_, w7⟩
      obtain ⟨o, e, d⟩ := T.obj _ _ st5 b hb
      exact (I7.pin (b, o) (List.mem_append_right _ (List.mem_append_right _ (mem_pinsAt hb e)))).2.1
    refine wpAny_mono (hF _ s6 _ _ _ I6 step) (fun b s7 ⟨H7, I7, q7⟩ => ?_) (fun _ _ z => z.elim)
    cases b with
    | false =>
      simp only [Bool.false_eq_true, if_false] at q7 ⊢
      exact again I7 q7
    | true =>
      simp only [if_true] at q7 ⊢
      refine wpAny_mono (hE _ s7 _ H7 _ I7 q7) (fun v s8 ⟨z, H8, I8, r8, ys, hy, hz, q8⟩ => ?_) (fun _ _ z => z.elim)
      refine wpAny_mono (mt_append (X := cxComp X M scope (s.heap.objs.size + 1) s H fp) _ s8 _ H8 (.ref s.heap.objs.size) [z] (.ref s.heap.objs.size) [v] (fun _ H' => H' = upd H8 s.heap.objs.size (.lst (ys ++ [z]))) I8 rfl (.cons r8 .nil) ⟨s.heap.objs.size, ys, z, rfl, rfl, hy, hz, rfl⟩) (fun w s9 ⟨_, H9, I9, _, e9⟩ => ?_) (fun _ _ z => z.elim)
      subst e9
      exact again I9 q8

theorem pe_comp2 {elt iter : Expr} {px py pt : Pos} {kt j2 : Nat} {y : Str} {ifs : List Expr} {pos : Pos} {wi : TI} {tf : TT} {te : TE} (S : CompScope X.env.scope X.N scope M ix j x) (S2 : CompTwo scope M ix j2 y) (hc : X.calm = true) (hi : PI X (tT2 x y px py kt pt) iter wi)
    (hb : ∀ C s H fp, PF (cxComp X M scope C s H fp) ifs tf ∧ PE (cxComp X M scope C s H fp) elt te) (hs : ∀ x, foldedSetIterable iter X.env x = pure x := by intro _; rfl) :
    PE X (.ListComp elt [⟨tT2 x y px py kt pt, iter, ifs, 0⟩] scope pos) (tComp2 X.K wi ix j j2 tf te) := by
  intro pins s σ H Q I h
  rw [eval_ListComp]
  refine wpAny_comprehension_free (use := none) rfl hs (closureFor_cl fun y hy e => I.ok.has y.1 (S.free y hy e)) S.kind S.names (wpAny_mono (hi pins s σ H _ I h) (fun xv s₁ h₁ => wpAny_mono h₁ (fun it s₂ h₂ => ?_) fun _ _ e => e) fun _ _ e => e)
  obtain ⟨it, fp, tn, J, H2, rfl, I2, T, st2, f2, q⟩ := h₂
  refine wpAny_newObj_type (wpAny_newFunctionEnv S.nocell (by intro y hy; simp at hy) (fun h₁ hns₁ hsb₁ => ?_) S.kind)
  dsimp only at hns₁ hsb₁ ⊢
  have hC : (s₂.heap.push { cls := .type "list", dict := none, data := .seq ([] : List Value).toArray }).objs.size = s₂.heap.objs.size + 1 := Heap.size_push ..
  rw [hC] at hns₁ hsb₁ ⊢
  have below : ∀ b, b < s₂.heap.objs.size → b ≠ s₂.heap.objs.size + 1 := fun b hb => Nat.ne_of_lt (Nat.lt_succ_of_lt hb)
  have old : ∀ b o, s₂.heap.get? b = some o → h₁.get? b = some o := fun b o e => hsb₁.extBut b o (below b (Heap.lt_size e)) (Heap.get?_push_of_some _ (Heap.get?_push_of_some _ e))
  have hD : h₁.get? s₂.heap.objs.size = some { cls := .type "list", data := .seq ([] : List Value).toArray 0 } := hsb₁.extBut _ _ (Nat.ne_of_lt (Nat.lt_succ_self _)) (Heap.get?_push_of_some _ (Heap.get?_push_size _ rfl))
  have ns : h₁.Ns (s₂.heap.objs.size + 1) fun _ => none := hns₁
  have hft : ∀ b ∈ fp, b < s₂.heap.objs.size := fun b hb => by
    obtain ⟨o, e, _⟩ := T.obj 0 s₂.heap st2 b hb
    exact Heap.lt_size e
  have I0 := (comp_start (h1 := h₁) S I2 f2 hft old hD ns).tok s₂.toks
  have hfr : H2 s₂.heap.objs.size = none := I2.hok.fresh (Nat.le_refl _)
  have loop : codeAny (model X.prog X.w) X.A (.compLoop (.ListComp elt [⟨tT2 x y px py kt pt, iter, ifs, 0⟩] scope pos) 0 (.ref it) (.ref s₂.heap.objs.size) (compEnvC scope (clOf X.env.cells scope.names []) (s₂.heap.objs.size + 1) X.env))
      (compPost (model X.prog X.w) X.A X.xe none (EP X pins σ Q) (.ref s₂.heap.objs.size) (s₂.heap.objs.size + 1)) { s₂ with heap := h₁, toks := s₂.toks } := by
    refine comp_block2 (Q := Q) S S2 hc I2 (hb _ _ _ _).1 (hb _ _ _ _).2 T st2 f2 I0 old (q _ hfr) fun H' s' I' qq => ?_
    obtain ⟨m, hn, _⟩ := I'.loc
    exact ⟨m, hn, fun h' hb' => ⟨.ref s₂.heap.objs.size, H', comp_end I2 (Nat.le_succ _) f2 I' hb', rfl, qq⟩⟩
  exact codeAny_compStart_list loop (T.self _ 0 _ _ _ (T.keep 0 _ _ st2 fun b _ o e => old b o e) loop)
end
end L2
namespace L3
open PySem L2
theorem u200 {k : Nat} {A : Around} (r : Room k A) : A.units + 200 < cLine := by have := r.un; omega
theorem ex2 {α : Type} {P Q : α → Prop} {t : α} (a : P t) (b : Q t) : ∃ t, P t ∧ Q t := ⟨t, a, b⟩
theorem boot_isinst : bootBuiltins "isinstance" = some (.builtin "isinstance") := by decide +kernel
theorem boot_int : bootBuiltins "int" = some (.type "int") := by decide +kernel
theorem boot_bool : bootBuiltins "bool" = some (.type "bool") := by decide +kernel
theorem boot_str : bootBuiltins "str" = some (.type "str") := by decide +kernel
theorem boot_tuple : bootBuiltins "tuple" = some (.type "tuple") := by decide +kernel
theorem boot_all : bootBuiltins "all" = some (.builtin "all") := by decide +kernel
theorem boot_any : bootBuiltins "any" = some (.builtin "any") := by decide +kernel
theorem boot_max : bootBuiltins "max" = some (.builtin "max") := by decide +kernel
theorem boot_sum : bootBuiltins "sum" = some (.builtin "sum") := by decide +kernel
theorem boot_sorted : bootBuiltins "sorted" = some (.builtin "sorted") := by decide +kernel
/-- these names are the builtins' -/
def bnames : List Str := ["isinstance", "int", "bool", "str", "tuple", "list", "range", "all", "any", "max", "sum", "sorted", "len", "enumerate", "min", "zip", "set", "dict"]
def BN (mg : Str → Option Value) : Prop := ∀ x : Str, bnames.contains x = true → mg x = none
theorem BN.len {mg : Str → Option Value} (h : BN mg) : mg "len" = none := h _ (by decide +kernel)
theorem BN.isinstance {mg : Str → Option Value} (h : BN mg) : mg "isinstance" = none := h _ (by decide +kernel)
theorem BN.int {mg : Str → Option Value} (h : BN mg) : mg "int" = none := h _ (by decide +kernel)
theorem BN.bool {mg : Str → Option Value} (h : BN mg) : mg "bool" = none := h _ (by decide +kernel)
theorem BN.str {mg : Str → Option Value} (h : BN mg) : mg "str" = none := h _ (by decide +kernel)
theorem BN.tuple {mg : Str → Option Value} (h : BN mg) : mg "tuple" = none := h _ (by decide +kernel)
theorem BN.range {mg : Str → Option Value} (h : BN mg) : mg "range" = none := h _ (by decide +kernel)
theorem BN.all {mg : Str → Option Value} (h : BN mg) : mg "all" = none := h _ (by decide +kernel)
theorem BN.any {mg : Str → Option Value} (h : BN mg) : mg "any" = none := h _ (by decide +kernel)
theorem BN.max {mg : Str → Option Value} (h : BN mg) : mg "max" = none := h _ (by decide +kernel)
theorem BN.sum {mg : Str → Option Value} (h : BN mg) : mg "sum" = none := h _ (by decide +kernel)
theorem BN.sorted {mg : Str → Option Value} (h : BN mg) : mg "sorted" = none := h _ (by decide +kernel)
section
variable {X : Cx} {e : Expr} {es : List Expr} {t : A2} {p pos : Pos}
theorem jc_len (B : BN X.mg) (ha : JA X (e :: es) t) (hg : Gl X "len" := by rfl) (he : starEach (e :: es) X.env = (false, eval e X.env) :: starEach es X.env := by rfl) (hpl : (backTo pos (starEach es X.env)).any (·.1) = false := by rfl) : JE X (.Call (.Name "len" p) (e :: es) [] pos) (eCl len2 t) := j_callB c_len B.len PySem.boot_len ha hg (by decide) (by decide) he hpl
theorem jc_inst (B : BN X.mg) (ha : JA X (e :: es) t) (hg : Gl X "isinstance" := by rfl) (he : starEach (e :: es) X.env = (false, eval e X.env) :: starEach es X.env := by rfl) (hpl : (backTo pos (starEach es X.env)).any (·.1) = false := by rfl) : JE X (.Call (.Name "isinstance" p) (e :: es) [] pos) (eCl inst2 t) := j_callB c_inst B.isinstance boot_isinst ha hg (by decide) (by decide) he hpl
theorem jc_all (B : BN X.mg) (hc : X.calm = true) (ha : JA X (e :: es) t) (hg : Gl X "all" := by rfl) (he : starEach (e :: es) X.env = (false, eval e X.env) :: starEach es X.env := by rfl) (hpl : (backTo pos (starEach es X.env)).any (·.1) = false := by rfl) : JE X (.Call (.Name "all" p) (e :: es) [] pos) (eCl all2 t) := j_callB (c_all hc) B.all boot_all ha hg (by decide) (by decide) he hpl
theorem jc_any (B : BN X.mg) (hc : X.calm = true) (ha : JA X (e :: es) t) (hg : Gl X "any" := by rfl) (he : starEach (e :: es) X.env = (false, eval e X.env) :: starEach es X.env := by rfl) (hpl : (backTo pos (starEach es X.env)).any (·.1) = false := by rfl) : JE X (.Call (.Name "any" p) (e :: es) [] pos) (eCl any2 t) := j_callB (c_any hc) B.any boot_any ha hg (by decide) (by decide) he hpl
theorem jc_max (B : BN X.mg) (hc : X.calm = true) (ha : JA X (e :: es) t) (hg : Gl X "max" := by rfl) (he : starEach (e :: es) X.env = (false, eval e X.env) :: starEach es X.env := by rfl) (hpl : (backTo pos (starEach es X.env)).any (·.1) = false := by rfl) : JE X (.Call (.Name "max" p) (e :: es) [] pos) (eCl max22 t) := j_callB (c_max2 hc) B.max boot_max ha hg (by decide) (by decide) he hpl
theorem jc_sum (B : BN X.mg) (hc : X.calm = true) (ha : JA X (e :: es) t) (hg : Gl X "sum" := by rfl) (he : starEach (e :: es) X.env = (false, eval e X.env) :: starEach es X.env := by rfl) (hpl : (backTo pos (starEach es X.env)).any (·.1) = false := by rfl) : JE X (.Call (.Name "sum" p) (e :: es) [] pos) (eCl sum2 t) := j_callB (c_sum hc) B.sum boot_sum ha hg (by decide) (by decide) he hpl
theorem jc_tuple (B : BN X.mg) (ha : JA X (e :: es) t) (hg : Gl X "tuple" := by rfl) (he : starEach (e :: es) X.env = (false, eval e X.env) :: starEach es X.env := by rfl) (hpl : (backTo pos (starEach es X.env)).any (·.1) = false := by rfl) : JE X (.Call (.Name "tuple" p) (e :: es) [] pos) (eCl tuple2 t) := j_callTy c_tuple B.tuple boot_tuple ha hg (by decide) (by decide) he hpl
theorem jn_int (B : BN X.mg) (hg : Gl X "int" := by rfl) : JE X (.Name "int" pos) (eC (.ty "int")) := j_ty B.int boot_int hg
theorem jn_bool (B : BN X.mg) (hg : Gl X "bool" := by rfl) : JE X (.Name "bool" pos) (eC (.ty "bool")) := j_ty B.bool boot_bool hg
theorem jn_str (B : BN X.mg) (hg : Gl X "str" := by rfl) : JE X (.Name "str" pos) (eC (.ty "str")) := j_ty B.str boot_str hg
theorem jn_tuple (B : BN X.mg) (hg : Gl X "tuple" := by rfl) : JE X (.Name "tuple" pos) (eC (.ty "tuple")) := j_ty B.tuple boot_tuple hg
end
section
variable {X : Cx} {a b : Expr} {ta tb : E2} {pos : Pos}
theorem jb_add (ha : JE X a ta) (hb : JE X b tb) : JE X (.BinOp a .Add b pos) (eOp add2 ta tb) := j_op o_add ha hb
theorem jb_sub (ha : JE X a ta) (hb : JE X b tb) : JE X (.BinOp a .Sub b pos) (eOp sub2 ta tb) := j_op o_sub ha hb
theorem jb_mul (ha : JE X a ta) (hb : JE X b tb) : JE X (.BinOp a .Mult b pos) (eOp mul2 ta tb) := j_op o_mul ha hb
theorem jb_mod (ha : JE X a ta) (hb : JE X b tb) : JE X (.BinOp a .Mod b pos) (eOp mod2 ta tb) := j_op o_mod ha hb
theorem jb_fdiv (ha : JE X a ta) (hb : JE X b tb) : JE X (.BinOp a .FloorDiv b pos) (eOp fdiv2 ta tb) := j_op o_fdiv ha hb
theorem jb_pow (ha : JE X a ta) (hb : JE X b tb) : JE X (.BinOp a .Pow b pos) (eOp pow2 ta tb) := j_op o_pow ha hb
theorem jk_eq (hu : X.A.units + 200 < cLine) (ha : JE X a ta) (hb : JE X b tb) : JE X (.Compare a [.Eq] [b] pos) (eOp eq2 ta tb) := j_cmp (op_eqD hu) ha hb (nomark _)
theorem jk_ne (hu : X.A.units + 200 < cLine) (ha : JE X a ta) (hb : JE X b tb) : JE X (.Compare a [.NotEq] [b] pos) (eOp ne2 ta tb) := j_cmp (op_neD hu) ha hb (nomark _)
theorem jk_le (ha : JE X a ta) (hb : JE X b tb) : JE X (.Compare a [.LtE] [b] pos) (eOp le2 ta tb) := j_cmp o_le ha hb (nomark _)
theorem jk_in (ha : JE X a ta) (hb : JE X b tb) (hm : behindInMarks .In b = false) : JE X (.Compare a [.In] [b] pos) (eOp (in2 false) ta tb) := j_cmp o_in ha hb hm
theorem jt_eq (hu : X.A.units + 200 < cLine) (ha : JE X a ta) (hb : JE X b tb) : JT X (.Compare a [.Eq] [b] pos) (tBl (eOp eq2 ta tb)) := jt_cmp (op_eqD hu) ha hb (nomark _)
theorem jt_ne (hu : X.A.units + 200 < cLine) (ha : JE X a ta) (hb : JE X b tb) : JT X (.Compare a [.NotEq] [b] pos) (tBl (eOp ne2 ta tb)) := jt_cmp (op_neD hu) ha hb (nomark _)
theorem jt_lt (ha : JE X a ta) (hb : JE X b tb) : JT X (.Compare a [.Lt] [b] pos) (tBl (eOp lt2 ta tb)) := jt_cmp o_lt ha hb (nomark _)
theorem jt_gt (ha : JE X a ta) (hb : JE X b tb) : JT X (.Compare a [.Gt] [b] pos) (tBl (eOp gt2 ta tb)) := jt_cmp o_gt ha hb (nomark _)
theorem jt_in (ha : JE X a ta) (hb : JE X b tb) (hm : behindInMarks .In b = false) : JT X (.Compare a [.In] [b] pos) (tBl (eOp (in2 false) ta tb)) := jt_cmp o_in ha hb hm
theorem j_ixS (ha : JE X a ta) (hb : JE X b tb) (hs : PlainIx b := by exact fun _ _ => rfl) : JE X (.Subscript a b pos) (eOp ix2 ta tb) := j_ix x_seq ha hb hs
theorem jw_t (h : JW X a tA) : JT X a tA := h.jt
end
section
variable {X : Cx} {o e : Expr} {to : E2} {t : A2} {apos cpos pos : Pos}
theorem jm_append (ho : JE X o to) (ha : JA X [e] t)
    (hbase : attributeBase o "append" X.env (eval o X.env) = eval o X.env := by rfl) (hfew : ((backTo cpos (starEach [e] X.env)).all (fun x => !x.1) && (backToKw cpos (keywordEach [] X.env)).all (fun x => x.1.isSome) && decide (([e] : List Expr).length + ([] : List Keyword).length + (if ([] : List Keyword).isEmpty then 0 else 1) < 30)) = true := by rfl)
    (hline : (apos.endLine == cpos.line) = true := by rfl) (hs : starEach [e] X.env = (false, eval e X.env) :: starEach [] X.env := by rfl) : JE X (.Call (.Attribute o "append" apos) [e] [] cpos) (eMtL append2 to t) := j_mtL PySem.F.slot_list_append PySem.F.type_list_append m_append ho ha hbase hfew hline hs rfl
theorem jm_extend (ho : JE X o to) (ha : JA X [e] t)
    (hbase : attributeBase o "extend" X.env (eval o X.env) = eval o X.env := by rfl) (hfew : ((backTo cpos (starEach [e] X.env)).all (fun x => !x.1) && (backToKw cpos (keywordEach [] X.env)).all (fun x => x.1.isSome) && decide (([e] : List Expr).length + ([] : List Keyword).length + (if ([] : List Keyword).isEmpty then 0 else 1) < 30)) = true := by rfl)
    (hline : (apos.endLine == cpos.line) = true := by rfl) (hs : starEach [e] X.env = (false, eval e X.env) :: starEach [] X.env := by rfl) : JE X (.Call (.Attribute o "extend" apos) [e] [] cpos) (eMtL extend2 to t) := j_mtL PySem.F.slot_list_extend PySem.F.type_list_extend m_extend ho ha hbase hfew hline hs rfl
theorem jm_join (ho : JE X o to) (ha : JA X [e] t)
    (hbase : attributeBase o "join" X.env (eval o X.env) = eval o X.env := by rfl) (hfew : ((backTo cpos (starEach [e] X.env)).all (fun x => !x.1) && (backToKw cpos (keywordEach [] X.env)).all (fun x => x.1.isSome) && decide (([e] : List Expr).length + ([] : List Keyword).length + (if ([] : List Keyword).isEmpty then 0 else 1) < 30)) = true := by rfl)
    (hline : (apos.endLine == cpos.line) = true := by rfl) (hs : starEach [e] X.env = (false, eval e X.env) :: starEach [] X.env := by rfl) : JE X (.Call (.Attribute o "join" apos) [e] [] cpos) (eMtS join2 to t) := j_mtS PySem.F.slot_str_join PySem.F.type_str_join m_join ho ha hbase hfew hline hs rfl
theorem jm_pop (ho : JE X o to) (hbase : attributeBase o "pop" X.env (eval o X.env) = eval o X.env := by rfl) (hline : (apos.endLine == cpos.line) = true := by rfl) : JE X (.Call (.Attribute o "pop" apos) [] [] cpos) (eMtL0 pop2 to) := j_mtL0 PySem.F.slot_list_pop PySem.F.type_list_pop m_pop ho hbase hline
end
end L3
namespace L3
open PySem L2
def zipP (x y : Str) : List PV := (List.range y.cps.size).map fun (i : Nat) => .tup [.str ⟨#[(x.cps[i]?).getD 0]⟩, .str ⟨#[(y.cps[i]?).getD 0]⟩]
theorem zipP_length (x y : Str) : (zipP x y).length = y.cps.size := by unfold zipP; simp
theorem it_zip {K : PySem.W.Frag} {H1 : Hp} {x y : Str} : ItOk K H1 (Itz x y) (zipP x y) (fun _ => True) := fun i H G k r _ => by
  have hl := zipP_length x y
  refine ⟨fun hi => by rw [hl] at hi; exact hi, fun hi => by rw [hl] at hi; exact hi, fun v H' hi h => ?_⟩
  obtain ⟨p, c, d, hp, rfl, hc, hd, rfl⟩ := h
  have kn : Keep K H (upd H p (.tup [.str ⟨#[c]⟩, .str ⟨#[d]⟩])) := keep_new hp
  refine ⟨.tup [.str ⟨#[c]⟩, .str ⟨#[d]⟩], ?_, kn, r.tup hp, p, _, rfl, .of upd_same, .cons rfl (.cons rfl .nil)⟩
  unfold zipP
  rw [List.getElem?_map, List.getElem?_range (by omega)]
  show some (PV.tup [.str ⟨#[(x.cps[i]?).getD 0]⟩, .str ⟨#[(y.cps[i]?).getD 0]⟩]) = _
  rw [hc, hd]
  rfl
abbrev itZ (t : A2) : TI2 := fun τ G R => t τ G fun ps G1 => match ps with
  | [.str x, .str y] => (x.cps.all fun x => decide (x < 128)) = true ∧ (y.cps.all fun x => decide (x < 128)) = true ∧ y.cps.size < x.cps.size ∧ R (zipP x y) (fun _ => True) G1
  | _ => False
theorem ji_zip {X : Cx} {a b : Expr} {ta : A2} {p pos tp : Pos} {elts : List Expr} {x1 : Nat} (hm : X.mg "zip" = none) (ha : JA X [a, b] ta) (hg : Gl X "zip" := by rfl) (hs : starEach [a, b] X.env = (false, eval a X.env) :: starEach [b] X.env := by rfl) (hpl : ((backTo pos (starEach [b] X.env)).any fun x => x.fst) = false := by rfl) :
    JI X (.Tuple elts x1 tp) (.Call (.Name "zip" p) [a, b] [] pos) (itZ ta) := .of (pi_zipS hg hm ha.h hs hpl) fun σ H R ⟨τ, G, R2, rs, rp, h, cl⟩ => by
  refine ⟨τ, G, _, rs, rp, h, fun ps G1 vs H1 q d r k => ?_⟩
  split at q
  · rename_i x y
    obtain ⟨v, vr, rfl, d1, u, vr2, rfl, d2, d3⟩ := d
    obtain rfl : vr2 = [] := d3
    obtain rfl : v = .str x := d1
    obtain rfl : u = .str y := d2
    obtain ⟨ax, ay, hl, q⟩ := q
    exact ⟨x, y, rfl, ax, ay, hl, cl _ _ _ _ _ q r k it_zip⟩
  · exact q.elim
def cGo2 (items : List PV) (c : Gp → Prop) (ix : List (Option Nat)) (j j2 : Nat) (τ : St2) (tf : T2) (te : E2) (Q : K2) (G1 : Gp) (acc : Addr) : Prop :=
  ∃ W : Nat → List PV → Gp → Prop, W 0 [] (up G1 acc (.lst [])) ∧ (∀ i ys G, i ≤ items.length → W i ys G → c G ∧ G acc = some (.lst ys) ∧ ys.length < 1000000) ∧
    (∀ i ys G x, items[i]? = some x → W i ys G → ∃ p q, x = .tup [p, q] ∧ tf (st (st (cap2 ix τ) j (some p)) j2 (some q)) G fun b G2 => way2 b (te (st (st (cap2 ix τ) j (some p)) j2 (some q)) G2 fun y G3 => G3 acc = some (.lst ys) ∧ W (i + 1) (ys ++ [y]) (up G3 acc (.lst (ys ++ [y])))) (W (i + 1) ys G2)) ∧ ∀ ys G, W items.length ys G → Q (.ref acc) G
abbrev eComp2 (ti : TI2) (ix : List (Option Nat)) (j j2 : Nat) (tf : T2) (te : E2) : E2 := fun τ G Q => ti τ G fun items c G1 => ∀ acc, G1 acc = none → cGo2 items c ix j j2 τ tf te Q G1 acc
section
variable {X : Cx}
theorem low_comp2 {ti : TI2} {ix : List (Option Nat)} {j j2 : Nat} {tf : T2} {te : E2} {σ : L2.St} {H : Hp} {Q : VK} (q : lowE X.K (eComp2 ti ix j j2 tf te) σ H Q) : tComp2 X.K (lowI X.K ti) ix j j2 (lowT X.K tf) (lowE X.K te) σ H Q := by
  obtain ⟨τ, G, Q2, rs, rp, q, cl⟩ := q
  refine ⟨τ, G, _, rs, rp, q, fun items c G1 J H1 q1 r1 k1 ok acc hacc => ?_⟩
  obtain ⟨W, w0, hW, turn, done⟩ := q1 acc (r1.none hacc)
  have kn : Keep X.K H1 (upd H1 acc (.lst [])) := keep_new hacc
  refine ⟨fun i m H' => m = items.length - i ∧ i ≤ items.length ∧ ∃ ys G', W i ys G' ∧ Rep X.K H' G' ∧ Keep X.K H1 H', ⟨_, rfl, Nat.zero_le _, [], _, w0, r1.new hacc .nil, kn⟩, ?_⟩
  rintro i m H2 ⟨rfl, hi, ys, G2, w2, r2, k2⟩
  obtain ⟨hc, hacc2, hys⟩ := hW i ys G2 hi w2
  obtain ⟨o1, o2, o3⟩ := ok i H2 G2 k2 r2 hc
  by_cases hlt : i < items.length
  · refine .inr ⟨o1 hlt, fun x H3 y => ?_⟩
    obtain ⟨p, ep, k3, r3, d3⟩ := o3 x H3 hlt y
    obtain ⟨pa, pb, rfl, turn'⟩ := turn i ys G2 p ep w2
    obtain ⟨ta, vs, rfl, sq, u1, vr, rfl, du1, u2, vr2, rfl, du2, e3⟩ := d3
    obtain rfl : vr2 = [] := e3
    have k13 := k2.trans k3
    refine ⟨ta, u1, u2, rfl, sq, ?_⟩
    have rs3 : RSt X.K H3 (((cap ix σ).set j (some u1)).set j2 (some u2)) (st (st (cap2 ix τ) j (some pa)) j2 (some pb)) := ((cap_rst ix (rs.keep (k1.trans k13))).set du1 j).set du2 j2
    refine ⟨_, G2, _, rs3, r3, turn', fun b G4 H4 q4 r4 k4 => ?_⟩
    have k14 := k13.trans k4
    cases b with
    | false => exact iteF ⟨items.length - (i + 1), by omega, rfl, hlt, ys, G4, q4, r4, k14⟩
    | true =>
      refine iteT ⟨_, G4, _, rs3.keep k4, r4, q4, fun y G5 v H5 q5 d5 r5 k5 => ?_⟩
      obtain ⟨ea, w5⟩ := q5
      obtain ⟨vs, hv, dv⟩ := r5.lst ea
      refine ⟨vs, hv, by rw [dv.length]; exact bigLt (Nat.le_of_lt hys), items.length - (i + 1), by omega, rfl, hlt, ys ++ [y], _, w5, r5.put hv (dv.append (.cons d5 .nil)), (k14.trans k5).trans (keep_lst hv)⟩
  · have e : i = items.length := by omega
    subst e
    exact .inl ⟨o2 rfl, cl _ _ _ _ (done ys G2 w2) rfl r2 (k1.trans k2)⟩
theorem j_comp2 {scope : Scope} {M : List Str} {ix : List (Option Nat)} {j j2 kt : Nat} {x y : Str} {elt iter : Expr} {px py pt pos : Pos} {ifs : List Expr} {ti : TI2} {tf : T2} {te : E2} (S : compOkB X.env.scope X.N scope M ix j x = true) (S2 : CompTwo scope M ix j2 y) (hc : X.calm = true) (hi : JI X (tT2 x y px py kt pt) iter ti)
    (hb : ∀ C s H fp, JF (cxComp X M scope C s H fp) ifs tf ∧ JE (cxComp X M scope C s H fp) elt te) (hs : ∀ x, foldedSetIterable iter X.env x = pure x := by intro _; rfl) :
    JE X (.ListComp elt [⟨tT2 x y px py kt pt, iter, ifs, 0⟩] scope pos) (eComp2 ti ix j j2 tf te) := .of (pe_comp2 (compS S) S2 hc hi.h (fun C s H fp => ⟨(hb C s H fp).1.h, (hb C s H fp).2.h⟩) hs) fun σ H Q q => low_comp2 q
/-- the turns, where no turn changes anything, and none is left out -/
theorem cGo2_pure {items : List PV} {c : Gp → Prop} {ix : List (Option Nat)} {j j2 : Nat} {τ : St2} {te : E2} {Q : K2} {G1 : Gp} {acc : Addr} (g : PV → PV) (hz : items.length < 1000000)
    (hc : ∀ ys, c (up G1 acc (.lst ys)))
    (he : ∀ x ys (R : K2), x ∈ items → R (g x) (up G1 acc (.lst ys)) → ∃ p q, x = .tup [p, q] ∧ te (st (st (cap2 ix τ) j (some p)) j2 (some q)) (up G1 acc (.lst ys)) R)
    (hq : Q (.ref acc) (up G1 acc (.lst (items.map g)))) : cGo2 items c ix j j2 τ tYes2 te Q G1 acc := by
  refine ⟨fun i ys G => ys = (items.take i).map g ∧ G = up G1 acc (.lst ys), ⟨by simp, rfl⟩, ?_, ?_, ?_⟩
  · rintro i ys G hi ⟨rfl, rfl⟩
    refine ⟨hc _, up_same, ?_⟩
    rw [List.length_map, List.length_take]
    omega
  · rintro i ys G x hx ⟨rfl, rfl⟩
    have hm := List.mem_of_getElem? hx
    have tk : items.take (i + 1) = items.take i ++ [x] := by rw [List.take_add_one, hx]; rfl
    obtain ⟨p, q, rfl, h⟩ := he x ((items.take i).map g) (fun y G3 => G3 acc = some (.lst ((items.take i).map g)) ∧ ((items.take i).map g) ++ [y] = (items.take (i + 1)).map g ∧ (up G3 acc (.lst (((items.take i).map g) ++ [y]))) = up G1 acc (.lst (((items.take i).map g) ++ [y]))) hm ⟨up_same, by rw [tk, List.map_append]; rfl, up_up⟩
    exact ⟨p, q, rfl, ifT rfl h⟩
  · rintro ys G ⟨rfl, rfl⟩
    rw [List.take_length]
    exact hq
end
abbrev eChain (r r' : B2) (ta tb tc : E2) : E2 := fun τ G Q => ta τ G fun x G1 => tb τ G1 fun y G2 => r x y G2 fun z G3 => match z with
  | .bl k => way2 k (tc τ G3 fun w G4 => r' y w G4 Q) (Q (.bl false) G3)
  | _ => False
section
variable {X : Cx} {a b c : Expr} {ta tb tc : E2} {pos : Pos}
theorem low_chain {r r' : B2} {σ : L2.St} {H : Hp} {Q : VK} (q : lowE X.K (eChain r r' ta tb tc) σ H Q) : tChain (lowB X.K r) (lowB X.K r') (lowE X.K ta) (lowE X.K tb) (lowE X.K tc) σ H Q := by
  obtain ⟨τ, G, Q2, rs, rp, q, cl⟩ := q
  refine ⟨τ, G, _, rs, rp, q, fun x G1 vx H1 q1 d1 r1 k1 => ⟨τ, G1, _, rs.keep k1, r1, q1, fun y G2 vy H2 q2 d2 r2 k2 => ⟨x, y, G2, _, d1.keep k2, d2, r2, q2, fun z G3 vz H3 q3 d3 r3 k3 => ?_⟩⟩⟩
  split at q3
  · rename_i k
    obtain rfl : vz = .bl k := d3
    refine ⟨k, rfl, ?_⟩
    cases k with
    | false => exact iteF (cl _ _ _ _ q3 rfl r3 ((k1.trans k2).trans k3))
    | true =>
      exact iteT ⟨τ, G3, _, rs.keep ((k1.trans k2).trans k3), r3, q3, fun w' G4 vw H4 q4 d4 r4 k4 => ⟨y, w', G4, Q2, d2.keep (k3.trans k4), d4, r4, q4, cl.keep (((k1.trans k2).trans k3).trans k4)⟩⟩
  · exact q3.elim
theorem j_chain {op op' : CmpOp} {r r' : B2} (ho : OpR X (compareOp op) (lowB X.K r)) (ho' : OpR X (compareOp op') (lowB X.K r')) (ha : JE X a ta) (hb : JE X b tb) (hc : JE X c tc) (hm : lastMarks [op, op'] [b, c] = false := by with_unfolding_all rfl) :
    JE X (.Compare a [op, op'] [b, c] pos) (eChain r r' ta tb tc) := .of (pe_chain ho ho' ha.h hb.h hc.h hm) fun σ H Q q => low_chain q
theorem jt_chain {op op' : CmpOp} {r r' : B2} (ho : OpR X (compareOp op) (lowB X.K r)) (ho' : OpR X (compareOp op') (lowB X.K r')) (ha : JE X a ta) (hb : JE X b tb) (hc : JE X c tc) (hm : lastMarks [op, op'] [b, c] = false := by with_unfolding_all rfl) :
    JT X (.Compare a [op, op'] [b, c] pos) (tBl (eChain r r' ta tb tc)) := .of (pt_chain ho ho' ha.h hb.h hc.h hm) fun σ H Q q => low_tBl (fun σ H Q q => low_chain q) q
theorem jk_lele (ha : JE X a ta) (hb : JE X b tb) (hc : JE X c tc) (hm : lastMarks [.LtE, .LtE] [b, c] = false := by with_unfolding_all rfl) : JE X (.Compare a [.LtE, .LtE] [b, c] pos) (eChain le2 le2 ta tb tc) := j_chain o_le o_le ha hb hc hm
theorem jt_lele (ha : JE X a ta) (hb : JE X b tb) (hc : JE X c tc) (hm : lastMarks [.LtE, .LtE] [b, c] = false := by with_unfolding_all rfl) : JT X (.Compare a [.LtE, .LtE] [b, c] pos) (tBl (eChain le2 le2 ta tb tc)) := jt_chain o_le o_le ha hb hc hm
end
def ltS2 : B2 := fun p q G Q => match p, q with
  | .str x, .str y => Q (.bl (decide (x.cps.toList < y.cps.toList))) G
  | _, _ => False
section
variable {X : Cx} {a b e : Expr} {ta tb : E2} {t : A2} {es : List Expr} {p pos : Pos}
theorem o_ltS : OpR X (compareOp .Lt) (lowB X.K ltS2) := by
  intro pins s σ H x y v u Q I rx ry h
  obtain ⟨p, q, G, Q2, d1, d2, rp, h, cl⟩ := h
  unfold ltS2 at h
  split at h
  · rename_i i j
    obtain rfl : x = .str i := d1
    obtain rfl : y = .str j := d2
    exact op_lt_str pins s σ H _ _ v u Q I rx ry ⟨i, j, rfl, rfl, cl _ _ _ _ h rfl rp .refl⟩
  · exact h.elim
theorem jk_ltS (ha : JE X a ta) (hb : JE X b tb) : JE X (.Compare a [.Lt] [b] pos) (eOp ltS2 ta tb) := j_cmp o_ltS ha hb (nomark _)
end
end L3
namespace L3
open PySem L2
theorem args_max_d (a v : Value) : argsOk "max" { pos := [a], kw := [("default", v)] } := rfl
theorem call_tree_kw {prog : Program} {w : World} {A : Around} {E : Value → Shared → Prop} {s : Shared} {id : String} {b : Builtin} {args : List Value} {kw : List (Str × Value)} {Q : Value → Shared → Prop}
    (hk : builtinKind id = none) (hp : plainId id = true) (hb : entryFor table id = some b) (ha : argsOk id { pos := args, kw := kw })
    (h : wpAny (model prog w) A.in1 (b { pos := args, kw := kw }) (fun fin s' => match fin with
      | .done f => (match (Except.ok f : Result) with | .ok (.ret v) => Q v s' | .ok _ => False | .error e => E e s')
      | .again c' => c'.quiet = true ∧ codeAny (model prog w) A c' (fun r s' => match r with | .ok (.ret v) => Q v s' | .ok _ => False | .error e => E e s') s') E s) :
    wpAny (model prog w) A (call (.builtin id) args kw) Q E s := by
  refine wpAny_call (codeAny_call_builtin hp hb ?_)
  have e : checkBuiltinCall id { pos := args, kw := kw } = pure () := by
    unfold checkBuiltinCall
    rw [hk]
    unfold argsOk at ha
    revert ha
    cases Manifest.signature? id with
    | none => intro _; cases splitId id <;> rfl
    | some sig => intro ha; cases splitId id <;> exact ha
  rw [e]
  exact wpAny_pure h
/-- the least one of some -/
def bestI (f : Int → Int → Bool) : List Int → Int
  | [] => 0
  | x :: r => r.foldl (fun a b => if f b a = true then b else a) x
theorem bestI_snoc (f : Int → Int → Bool) (xs : List Int) (b : Int) (h : xs ≠ []) : bestI f (xs ++ [b]) = if f b (bestI f xs) = true then b else bestI f xs := by
  cases xs with
  | nil => exact absurd rfl h
  | cons x r =>
    show List.foldl _ x (r ++ [b]) = _
    rw [List.foldl_append]
    rfl
end L3
namespace L3
open PySem L2
theorem BN.zip {mg : Str → Option Value} (h : BN mg) : mg "zip" = none := h _ (by decide +kernel)
end L3
namespace L3
open PySem L2
/-- a module's dict from texts to whole numbers -/
structure DGet (P : Program) (w : World) (K : PySem.W.Frag) (d : Addr) (f : Str → Option Int) : Prop where
  ns : (d == sysModules) = false
  lk : ∃ o es ep, K.lookup d = some o ∧ o.ExactDict ∧ o.data = .dict es ep ∧ KeysOf (mixKind P w) es ∧ ∀ k : Str, (findBy keyIs es (.inr k) = none ∧ f k = none) ∨ ∃ n t, findBy keyIs es (.inr k) = some (.int n t) ∧ f k = some n
@[reducible] def getD2 (f : Str → Option Int) (p : PV) (G : Gp) (Q : K2) : Prop := match p with
  | .str k => match f k with
    | some n => Q (.int n) G
    | none => Q .non G
  | _ => False
abbrev eGetD (f : Str → Option Int) (te : E2) : E2 := fun τ G Q => te τ G fun p G1 => getD2 f p G1 Q
theorem j_getD {X : Cx} {x : Str} {e : Expr} {te : E2} {d : Addr} {f : Str → Option Int} {px apos cpos : Pos} (D : DGet X.prog X.w X.K d f) (hm : X.mg x = some (.ref d)) (he : JE X e te) (hg : Gl X x := by rfl) (hdb : (x == ("__debug__" : Str)) = false := by decide)
    (hbase : attributeBase (.Name x px) "get" X.env (eval (.Name x px) X.env) = eval (.Name x px) X.env := by rfl)
    (hfew : ((backTo cpos (starEach [e] X.env)).all (fun x => !x.1) && (backToKw cpos (keywordEach [] X.env)).all (fun x => x.1.isSome)
      && decide (([e] : List Expr).length + ([] : List Keyword).length + (if ([] : List Keyword).isEmpty then 0 else 1) < 30)) = true := by rfl)
    (hline : (apos.endLine == cpos.line) = true := by rfl) (hs : backTo cpos (starEach [e] X.env) = [(false, eval e X.env)] := by rfl) :
    JE X (.Call (.Attribute (.Name x px) "get" apos) [e] [] cpos) (eGetD f te) := ⟨by
  intro pins s σ H Q I h
  obtain ⟨τ, G, Q2, rs, rp, q, cl⟩ := h
  obtain ⟨o, es, ep, ho, ex, hdat, hk, hf⟩ := D.lk
  refine wpAny_Call_method_late hbase hfew hline rfl (ld_glob I hg hm ?_ hdb)
  refine ⟨"dict", "dict.get", F.plainAttrs_dict, F.slot_dict_get, F.type_dict_get, ⟨o, I.kIn d o ho, ex.1⟩, fun a e => ?_, ?_⟩
  · cases e
    exact ⟨o, I.kIn d o ho, ex.2.1⟩
  · rw [hs]
    refine wpAny_dict_get1 (knd := mixKind X.prog X.w) D.ns (thn (he.h pins s σ H (fun y H1 => ∃ p G1, Dv X.K H1 p y ∧ Rep X.K H1 G1 ∧ Keep X.K H H1 ∧ getD2 f p G1 Q2) I ⟨τ, G, _, rs, rp, q, fun p G1 y H1 q1 d1 r1 k1 => ⟨p, G1, d1, r1, k1, q1⟩⟩) fun u s1 ⟨y, H1, I1, r1, p, G1, d1, rp1, k1, q1⟩ => ?_)
    unfold getD2 at q1
    split at q1
    · rename_i k
      obtain rfl : y = .str k := d1
      obtain ⟨t, rfl⟩ := r1
      refine ⟨.inr k, findBy keyIs es, by show Value.isStrOf k (.str k t) = true; simp [Value.isStrOf], ⟨o, es, ep, I1.kIn d o ho, ex, hdat, hk, fun k => rfl⟩, ?_⟩
      rcases hf k with ⟨e1, e2⟩ | ⟨n, t', e1, e2⟩
      · rw [e1]
        rw [e2] at q1
        exact ⟨.non, H1, I1.tok _, rfl, cl _ _ _ _ q1 rfl rp1 k1⟩
      · rw [e1]
        rw [e2] at q1
        exact ⟨.int n, H1, I1.tok _, ⟨_, rfl⟩, cl _ _ _ _ q1 rfl rp1 k1⟩
    · exact q1.elim⟩
theorem j_gint {X : Cx} {x : Str} {i : Int} {t : Tok} {pos : Pos} (hm : X.mg x = some (.int i t)) (hg : Gl X x := by rfl) (hd : (x == ("__debug__" : Str)) = false := by decide) : JE X (.Name x pos) (eC (.int i)) := j_glob (v := .int i) hm ⟨t, rfl⟩ (fun _ => rfl) hg hd
theorem j_gstr {X : Cx} {x z : Str} {t : Tok} {pos : Pos} (hm : X.mg x = some (.str z t)) (hg : Gl X x := by rfl) (hd : (x == ("__debug__" : Str)) = false := by decide) : JE X (.Name x pos) (eC (.str z)) := j_glob (v := .str z) hm ⟨t, rfl⟩ (fun _ => rfl) hg hd
end L3
namespace L3
open PySem L2
theorem max_loop {prog : Program} {w : World} {A : Around} {R : Result → Shared → Prop} (hh : A.handled = none) {l I S : Addr} {us : List Value} {vs : List Int} {d : Value} (nIS : I ≠ S) (nlS : l ≠ S) (nlI : l ≠ I) (hlen : us.length = vs.length)
    (hv : ∀ (i : Nat) (u : Value), us[i]? = some u → ∃ n t, vs[i]? = some n ∧ u = .int n t) :
    ∀ (k i : Nat) (s : Shared), us.length - i = k → i ≤ us.length → s.heap.IsListIter I l i → s.heap.IsList l us.toArray →
      ((i = 0 ∧ ∃ c, s.heap.get? S = some { cls := .type "list", data := .seq #[] c }) ∨ (0 < i ∧ ∃ t c, s.heap.get? S = some { cls := .type "list", data := .seq #[.int (bestI (fun a b => decide (b < a)) (vs.take i)) t, .int (bestI (fun a b => decide (b < a)) (vs.take i)) t] c })) →
      (∀ (v : Value) (h' : Heap) (tk : Nat), (vs = [] ∧ v = d ∨ vs ≠ [] ∧ ∃ t, v = .int (bestI (fun a b => decide (b < a)) vs) t) → (∀ b o, b ≠ I → b ≠ S → s.heap.get? b = some o → h'.get? b = some o) → R (.ok (.ret v)) { s with heap := h', toks := tk }) →
      codeAny (model prog w) A (.builtin "max.loop" { pos := [.ref I, .none, .ref S], kw := [("default", d)] }) R s := by
  intro k
  induction k with
  | zero =>
    intro i s hk hi hI hl hS hR
    have ei : i = us.length := by omega
    refine codeAny_builtin F.entry_max_loop ?_
    rcases hS with ⟨e0, c, hS⟩ | ⟨e0, t, c, hS⟩
    · refine wpAny_bind (wpAny_seqItems hS rfl ?_)
      refine wpAny_bind (wpAny_tryCatch (wpAny_pyNext_list_end hh hI hl (by simp; omega) fun h' ex => ?_))
      refine wpAny_bind (wpAny_rule (wpAny_pure ?_))
      refine hR d h' s.toks (.inl ⟨List.length_eq_zero_iff.mp (by omega), rfl⟩) fun b o n1 n2 e => ex b o n1 e
    · refine wpAny_bind (wpAny_seqItems hS rfl ?_)
      refine wpAny_bind (wpAny_tryCatch (wpAny_pyNext_list_end hh hI hl (by simp; omega) fun h' ex => ?_))
      have hS' := ex S _ (Ne.symm nIS) hS
      have hne0 : vs ≠ [] := fun q => by
        have : vs.length = 0 := by rw [q]; rfl
        omega
      refine wpAny_bind (wpAny_updateSeq (s := { s with heap := h' }) hS' rfl ?_ (show 2 ≤ sizeLine by decide) (show 0 ≤ sizeLine + 1 by decide))
      refine wpAny_bind (wpAny_letGo (wpAny_pure ?_))
      refine hR _ _ s.toks (.inr ⟨hne0, t, ?_⟩) fun b o n1 n2 e => Heap.get?_update_of_ne _ (Ne.symm n2) (ex b o n1 e)
      rw [show vs.take i = vs from List.take_of_length_le (by omega)]
  | succ k ih =>
    intro i s hk hi hI hl hS hR
    have hlt : i < us.length := by omega
    obtain ⟨n, t', hn, hu⟩ := hv i us[i] (by simp [hlt])
    have tk1 : vs.take (i + 1) = vs.take i ++ [n] := by rw [List.take_add_one, hn]; rfl
    refine codeAny_builtin F.entry_max_loop ?_
    rcases hS with ⟨e0, c, hS⟩ | ⟨e0, t, c, hS⟩
    · refine wpAny_bind (wpAny_seqItems hS rfl ?_)
      refine wpAny_bind (wpAny_tryCatch (wpAny_pyNext_list_item hI hl (x := .int n t') (by simp [hlt, hu]) fun h' hI' sb => ?_))
      have hS' := sb.extBut S _ (Ne.symm nIS) hS
      refine wpAny_bind (wpAny_pure ?_)
      refine wpAny_bind (wpAny_updateSeq (s := { s with heap := h' }) hS' rfl ?_ (show 0 ≤ sizeLine by decide) (show 2 ≤ sizeLine + 1 by decide))
      refine wpAny_pure ⟨plainId_quiet F.plain_max_loop _, ih (i + 1) _ (by omega) (by omega) (hI'.extBut (fun b o nb e => Heap.get?_update_of_ne _ (Ne.symm nb) e) nIS) ?_ (.inr ⟨by omega, t', c + 1, ?_⟩) fun v h2 tk hvv kk => hR v h2 tk hvv fun b o n1 n2 e => kk b o n1 n2 (Heap.get?_update_of_ne _ (Ne.symm n2) (sb.extBut b o n1 e))⟩
      · obtain ⟨o, ho, ho2⟩ := hl
        exact ⟨o, Heap.get?_update_of_ne _ (Ne.symm nlS) (sb.extBut _ _ nlI ho), ho2⟩
      · show (h'.update S _).get? S = _
        rw [Heap.get?_update_self _ hS' rfl, tk1, e0]
        rfl
    · refine wpAny_bind (wpAny_seqItems hS rfl ?_)
      refine wpAny_bind (wpAny_tryCatch (wpAny_pyNext_list_item hI hl (x := .int n t') (by simp [hlt, hu]) fun h' hI' sb => ?_))
      have hS' := sb.extBut S _ (Ne.symm nIS) hS
      refine wpAny_bind (wpAny_pure ?_)
      refine wpAny_bind (wpAny_tryCatch (wpAny_holding (wpAny_bind ?_)))
      have hc : CmpOf prog w A.in1 .Gt (fun j v => ∃ t, v = .int (if j = 0 then n else bestI (fun a b => decide (b < a)) (vs.take i)) t) _ := CmpOf.ints_gt (fun j => if j = 0 then n else bestI (fun a b => decide (b < a)) (vs.take i)) fun j v h => h
      have hne : vs.take i ≠ [] := fun q => by
        have h9 : (vs.take i).length = 0 := by rw [q]; rfl
        rw [List.length_take] at h9
        omega
      have hbest := bestI_snoc (fun a b => decide (b < a)) (vs.take i) n hne
      rw [← tk1] at hbest
      have hcm : ∀ (Q E : Value → Shared → Prop) (s : Shared), Q (.bool (decide (bestI (fun a b => decide (b < a)) (vs.take i) < n))) s → wpAny (model prog w) A.in1 (richCompare .Gt (.int n t') (.int (bestI (fun a b => decide (b < a)) (vs.take i)) t)) Q E s := fun Q E s q => hc 0 1 _ _ s Q E ⟨t', rfl⟩ ⟨t, rfl⟩ q
      refine hcm _ _ _ ?_
      refine wpAny_bind (wpAny_holding (wpAny_truthy_bool ?_))
      refine wpAny_bind (wpAny_letGo (wpAny_pure ?_))
      cases hb : decide (bestI (fun a b => decide (b < a)) (vs.take i) < n) with
      | true =>
        rw [if_pos hb] at hbest
        rw [if_pos rfl]
        refine wpAny_bind (wpAny_updateSeq (s := { s with heap := h' }) hS' rfl ?_ (show 2 ≤ sizeLine by decide) (show 2 ≤ sizeLine + 1 by decide))
        refine wpAny_bind (wpAny_letGo ?_)
        refine wpAny_pure ⟨plainId_quiet F.plain_max_loop _, ih (i + 1) _ (by omega) (by omega) (hI'.extBut (fun b o nb e => Heap.get?_update_of_ne _ (Ne.symm nb) e) nIS) ?_ (.inr ⟨by omega, t', c, ?_⟩) fun v h2 tk hvv kk => hR v h2 tk hvv fun b o n1 n2 e => kk b o n1 n2 (Heap.get?_update_of_ne _ (Ne.symm n2) (sb.extBut b o n1 e))⟩
        · obtain ⟨o, ho, ho2⟩ := hl
          exact ⟨o, Heap.get?_update_of_ne _ (Ne.symm nlS) (sb.extBut _ _ nlI ho), ho2⟩
        · show (h'.update S _).get? S = _
          rw [Heap.get?_update_self _ hS' rfl, hbest]
          rfl
      | false =>
        rw [if_neg (by rw [hb]; simp)] at hbest
        rw [if_neg (by simp)]
        refine wpAny_bind (wpAny_letGo ?_)
        refine wpAny_pure ⟨plainId_quiet F.plain_max_loop _, ih (i + 1) _ (by omega) (by omega) hI' ?_ (.inr ⟨by omega, t, c, ?_⟩) fun v h2 tk hvv kk => hR v h2 tk hvv fun b o n1 n2 e => kk b o n1 n2 (sb.extBut b o n1 e)⟩
        · obtain ⟨o, ho, ho2⟩ := hl
          exact ⟨o, sb.extBut _ _ nlI ho, ho2⟩
        · rw [hbest]; exact hS'
theorem call_max_d {prog : Program} {w : World} {A : Around} {E : Value → Shared → Prop} {s : Shared} {l : Addr} {us : List Value} {vs : List Int} {d : Value} {Q : Value → Shared → Prop} (hh : A.handled = none) (hl : s.heap.IsList l us.toArray) (hlen : us.length = vs.length)
    (hv : ∀ (i : Nat) (u : Value), us[i]? = some u → ∃ n t, vs[i]? = some n ∧ u = .int n t)
    (h : ∀ (v : Value) (h' : Heap) (tk : Nat), (vs = [] ∧ v = d ∨ vs ≠ [] ∧ ∃ t, v = .int (bestI (fun a b => decide (b < a)) vs) t) → (∀ b o, s.heap.get? b = some o → h'.get? b = some o) → Q v { s with heap := h', toks := tk }) :
    wpAny (model prog w) A (call (.builtin "max") [.ref l] [("default", d)]) Q E s := by
  refine call_tree_kw F.kind_max F.plain_max F.entry_max (args_max_d _ _) ?_
  refine wpAny_bind (show wpAny _ _ (pure [none, some d]) _ _ _ from wpAny_pure ?_)
  refine wpAny_bind (wpAny_pure ?_)
  refine wpAny_bind (wpAny_pyIter_list hl ?_)
  refine wpAny_bind (show wpAny _ _ (newObj _ _) _ _ _ from wpAny_newObj_type ?_ (show 0 ≤ sizeLine by decide))
  have ll : l < s.heap.objs.size := by obtain ⟨o, ho, _⟩ := hl; exact Heap.lt_size ho
  have z1 := Heap.size_push s.heap { cls := Value.type "list_iterator", data := Data.fields #[Value.ref l, Value.int 0 0] }
  refine wpAny_pure ⟨plainId_quiet F.plain_max_loop _, max_loop hh (l := l) (I := s.heap.objs.size) (us := us) (vs := vs) ?_ ?_ (Nat.ne_of_lt ll) hlen hv us.length 0 _ (by omega) (Nat.zero_le _) ?_ ?_ (.inl ⟨rfl, 0, Heap.get?_push_size _ rfl⟩) fun v h' tk hvv kk => ?_⟩
  · show s.heap.objs.size ≠ (s.heap.push _).objs.size
    rw [z1]
    exact Nat.ne_of_lt (Nat.lt_succ_self _)
  · show l ≠ (s.heap.push _).objs.size
    rw [z1]
    exact Nat.ne_of_lt (Nat.lt_succ_of_lt ll)
  · exact ⟨_, Heap.get?_push_of_some _ (Heap.get?_push_size _ rfl), rfl, rfl⟩
  · obtain ⟨o, ho, r⟩ := hl
    exact ⟨o, Heap.get?_push_of_some _ (Heap.get?_push_of_some _ ho), r⟩
  · refine h v h' tk hvv fun b o e => kk b o (Nat.ne_of_lt (Heap.lt_size e)) ?_ (Heap.get?_push_of_some _ (Heap.get?_push_of_some _ e))
    show b ≠ (s.heap.push _).objs.size
    rw [z1]
    exact Nat.ne_of_lt (Nat.lt_succ_of_lt (Heap.lt_size e))
/-- min(xs, default=d) -/
@[reducible] def maxD2 (p q : PV) (G : Gp) (Q : K2) : Prop := match p, q with
  | .ref a, .int d => match lk G a with
    | some ps => ∃ vs : List Int, ps = vs.map PV.int ∧ Q (.int (if vs = [] then d else bestI (fun a b => decide (b < a)) vs)) G
    | none => False
  | _, _ => False
abbrev eMaxD (tl td : E2) : E2 := fun τ G Q => tl τ G fun p G1 => td τ G1 fun q G2 => maxD2 p q G2 Q
theorem j_maxD {X : Cx} {e d : Expr} {tl td : E2} {p kp pos : Pos} (B : BN X.mg) (hc : X.calm = true) (he : JE X e tl) (hd : JE X d td) (hg : Gl X "max" := by rfl)
    (h1 : backTo pos (starEach [e] X.env) = (false, eval e X.env) :: backTo pos (starEach [] X.env) := by rfl) (h2 : ((backTo pos (starEach [e] X.env)).any fun x => x.fst) = false := by rfl)
    (h3 : ((backToKw pos (keywordEach [⟨some "default", d, kp⟩] X.env)).all fun x => x.fst.isSome) = true := by rfl) (h4 : ((backToKw pos (keywordEach [⟨some "default", d, kp⟩] X.env)).any fun x => x.fst.isNone) = false := by rfl)
    (h5 : backToKw pos (keywordEach [⟨some "default", d, kp⟩] X.env) = [(some ("default" : Str), (do let v ← eval d X.env; standAt pos; pure v))] := by rfl)
    (hs : starEach [e] X.env = (false, eval e X.env) :: starEach [] X.env := by rfl) :
    JE X (.Call (.Name "max" p) [e] [⟨some "default", d, kp⟩] pos) (eMaxD tl td) := ⟨by
  intro pins s σ H Q I h
  obtain ⟨τ, G, Q2, rs, rp, q, cl⟩ := h
  refine wpAny_Call_Name_kw (ld_blt (u := .builtin "max") I hg B.max boot_max ?_)
  refine PyProof.Rows.callWith_kw (thn ((ja_cons (X := X) he ja_nil hs).h pos pins s σ H (fun vs H1 => ∃ v p G1, vs = [v] ∧ Dv X.K H1 p v ∧ Rep X.K H1 G1 ∧ Keep X.K H H1 ∧ td τ G1 fun q G2 => maxD2 p q G2 Q2) I
    ⟨τ, G, fun ps G1 => match ps with
      | [p] => td τ G1 fun q G2 => maxD2 p q G2 Q2
      | _ => False, rs, rp, q, ?_⟩) fun us s1 ⟨vs, H1, I1, r1, v, pp, G1, ev, dv, rp1, k1, q1⟩ => ?_) h1 h2 h3 h4
  · rintro ps G1 vs H1 q1 d1 r1 k1
    split at q1
    · rename_i p
      obtain ⟨v, vr, rfl, d1, d2⟩ := d1
      obtain rfl : vr = [] := d2
      exact ⟨v, p, G1, rfl, d1, r1, k1, q1⟩
    · exact q1.elim
  · subst ev
    obtain ⟨u1, rfl, ru1⟩ := r1.one
    rw [h5]
    refine PyProof.Rows.evalAll_cons (wpAny_bind (thn (hd.h pins s1 σ H1 (fun y H2 => ∃ q G2, Dv X.K H2 q y ∧ Rep X.K H2 G2 ∧ Keep X.K H1 H2 ∧ maxD2 pp q G2 Q2) I1 ⟨τ, G1, _, rs.keep k1, rp1, q1, fun q G2 y H2 q2 d2 r2 k2 => ⟨q, G2, d2, r2, k2, q2⟩⟩) fun u2 s2 ⟨y, H2, I2, r2, qq, G2, d2, rp2, k2, q2⟩ => wpAny_bind (wpAny_standAt (wpAny_pure (PyProof.Rows.evalAll_nil ?_)))))
    unfold maxD2 at q2
    split at q2
    · rename_i a dd _
      split at q2
      · rename_i ps el
        obtain ⟨vs, rfl, q2⟩ := q2
        obtain rfl : v = .ref a := dv
        obtain rfl : y = .int dd := d2
        cases ru1
        obtain ⟨t2, rfl⟩ := r2
        obtain ⟨xs, sq, dx⟩ := lk_sq rp2 el
        obtain ⟨its, rv, pl, hz⟩ := I2.list sq
        have hlen : its.length = vs.length := by rw [← rv.length, dx.length, List.length_map]
        refine call_max_d (us := its) (vs := vs) (I2.ok.hd hc) pl.isList hlen (fun i u hu => ?_) fun v h' tk hv hk => ?_
        · have hi : i < xs.length := by
            have h0 := (List.getElem?_eq_some_iff.mp hu).1
            rw [rv.length]; exact h0
          obtain ⟨u', hu', ru⟩ := rv.get (List.getElem?_eq_getElem hi)
          rw [hu] at hu'
          cases hu'
          obtain ⟨pq, ep, dq⟩ := dx.get (List.getElem?_eq_getElem hi)
          rw [List.getElem?_map] at ep
          cases hn : vs[i]? with
          | none => rw [hn] at ep; cases ep
          | some n =>
            rw [hn] at ep
            cases ep
            have dq' : xs[i] = .int n := dq
            rw [dq'] at ru
            obtain ⟨t, rfl⟩ := ru
            exact ⟨n, t, rfl, rfl⟩
        · refine ⟨.int (if vs = [] then dd else bestI (fun a b => decide (b < a)) vs), H2, I2.kept hk, ?_, cl _ _ _ _ q2 rfl rp2 (k1.trans k2)⟩
          rcases hv with ⟨e, rfl⟩ | ⟨e, t, rfl⟩
          · rw [if_pos e]; exact ⟨_, rfl⟩
          · rw [if_neg e]; exact ⟨_, rfl⟩
      · exact q2.elim
    · exact q2.elim⟩
end L3
namespace L3
open PySem L2
theorem lek {n : Nat} (h : Nat.ble n 1000 = true := by rfl) : n ≤ 1000 := Nat.le_of_ble_eq_true h
theorem lk_lst {G : Gp} {a : Addr} {ps : List PV} (h : G a = some (.lst ps)) : lk G a = some ps := by unfold lk; rw [h]
theorem lk_up {G : Gp} {a : Addr} {ps : List PV} : lk (up G a (.lst ps)) a = some ps := lk_lst up_same
theorem up_none {G : Gp} {a b : Addr} {o : MO} (h : up G a o b = none) : b ≠ a ∧ G b = none := by
  have ne : b ≠ a := fun z => by subst z; rw [up_same] at h; cases h
  exact ⟨ne, by rw [up_ne ne] at h; exact h⟩
theorem GE.mod {G0 G : Gp} {a : Addr} {o : MO} (h : GE G0 G) (n : G0 a = none) : GE G0 (up G a o) := fun b u q => by
  have : b ≠ a := fun z => by subst z; rw [n] at q; cases q
  rw [up_ne this]; exact h b u q
theorem GE.at {G0 G : Gp} {a : Addr} {o : MO} (h : GE G0 G) (n : G a = some o) : GE (up G0 a o) G := fun b u q => by
  by_cases hb : b = a
  · subst hb; rw [up_same] at q; cases q; exact n
  · rw [up_ne hb] at q; exact h b u q
section
variable {G : Gp} {a b : Addr} {xs ys : List PV} {x y : PV} {i k : Int} {j : Nat} {Q : K2}
theorem pop_i (h : G a = some (.lst (xs ++ [y]))) (q : Q y (up G a (.lst xs))) : pop2 (.ref a) [] G Q := by
  unfold pop2
  simp only [h]
  rw [List.length_append, List.getElem?_append_right (by simp)]
  simp only [List.length_cons, List.length_nil, Nat.add_sub_cancel, Nat.sub_self, List.getElem?_cons_zero, List.dropLast_concat]
  exact q
theorem append_i (h : G a = some (.lst xs)) (hl : xs.length < 1000000) (q : Q .non (up G a (.lst (xs ++ [y])))) : append2 (.ref a) [y] G Q := by
  unfold append2; simp only [h]; exact ⟨hl, q⟩
theorem extT_i (h : G a = some (.lst xs)) (hl : xs.length + ys.length ≤ 1000000) (q : Q .non (up G a (.lst (xs ++ ys)))) : extend2 (.ref a) [.tup ys] G Q := by
  unfold extend2; simp only [h]; exact ⟨hl, q⟩
theorem extL_i (h : G a = some (.lst xs)) (h2 : G b = some (.lst ys)) (hl : xs.length + ys.length ≤ 1000000) (q : Q .non (up G a (.lst (xs ++ ys)))) : extend2 (.ref a) [.ref b] G Q := by
  unfold extend2; simp only [h, h2]; exact ⟨hl, q⟩
theorem len_i (h : lk G a = some xs) (q : Q (.int xs.length) G) : len2 [.ref a] G Q := by
  unfold len2; simp only [h]; exact q
theorem ixL_i (h : lk G a = some xs) (e : atI xs i = some x) (q : Q x G) : ix2 (.ref a) (.int i) G Q := by
  unfold ix2; simp only [h, e]; exact q
theorem ixG_i (h : lk G a = some xs) (e : atI xs i = some x) (q : Q x G) : ixL2 (.ref a) (.int i) G Q := by
  unfold ixL2; simp only [h, e]; exact q
theorem addR_i (h : lk G a = some xs) (hl : xs.length + ys.length ≤ 1000000) (q : ∀ c, G c = none → Q (.ref c) (up G c (.lst (xs ++ ys)))) : add2 (.ref a) (.ro ys) G Q := by
  unfold add2; simp only [h]; exact ⟨hl, q⟩
theorem ixT_i (e : atI xs i = some x) (q : Q x G) : ix2 (.tup xs) (.int i) G Q := by
  unfold ix2; simp only [e]; exact q
theorem ixS_i {z : Str} {c : Nat} (hz : z.length ≤ 1000000) (e : atI z.cps.toList i = some c) (q : Q (.str ⟨#[c]⟩) G) : ix2 (.str z) (.int i) G Q := by
  unfold ix2; simp only [e]; exact ⟨hz, q⟩
theorem setL_i {v : PV} {R : Gp → Prop} (h : G a = some (.lst xs)) (e : ixN xs.length k = some j) (q : R (up G a (.lst (xs.set j v)))) : setL (.ref a) (.int k) v G R := by
  unfold setL; simp only [h, e]; exact q
theorem mulL_i (h : G a = some (.lst xs)) (hk : -(2 ^ 63) ≤ k ∧ k < 2 ^ 63) (hl : xs.length * k.toNat ≤ 1000000) (q : ∀ c, G c = none → Q (.ref c) (up G c (.lst (List.replicate k.toNat xs).flatten))) : mul2 (.ref a) (.int k) G Q := by
  unfold mul2; simp only [h]; exact ⟨hk, hl, q⟩
theorem eqL_i (h : lk G a = some xs) (h2 : lk G b = some ys) (f1 : pureL 100 xs = true) (f2 : pureL 100 ys = true) (q : Q (.bl (deqs xs ys)) G) : eq2 (.ref a) (.ref b) G Q := by
  unfold eq2; simp only [h, h2]; exact ⟨f1, f2, q⟩
theorem neL_i (h : lk G a = some xs) (h2 : lk G b = some ys) (f1 : pureL 100 xs = true) (f2 : pureL 100 ys = true) (q : Q (.bl (!deqs xs ys)) G) : ne2 (.ref a) (.ref b) G Q := by
  unfold ne2; simp only [h, h2]; exact ⟨f1, f2, q⟩
theorem tupL_i (h : lk G a = some xs) (q : Q (.tup xs) G) : tuple2 [.ref a] G Q := by
  unfold tuple2; simp only [h]; exact q
theorem sumL_i {ns : List Int} (h : lk G a = some (ns.map PV.int)) (q : Q (.int ns.sum) G) : sum2 [.ref a] G Q := by
  unfold sum2; simp only [h, intsOf_map]; exact q
theorem allL_i {bs : List Bool} (h : lk G a = some (bs.map PV.bl)) (q : Q (.bl (bs.all id)) G) : all2 [.ref a] G Q := by
  unfold all2; simp only [h, blsOf_map]; exact q
theorem anyL_i {bs : List Bool} (h : lk G a = some (bs.map PV.bl)) (q : Q (.bl (bs.any id)) G) : any2 [.ref a] G Q := by
  unfold any2; simp only [h, blsOf_map]; exact q
theorem joinL_i {z : Str} {zs : List Str} (h : lk G a = some (zs.map PV.str)) (hl : (zs.map (·.length)).sum + zs.length * z.length ≤ 1000000) (q : Q (.str (Txt.join z zs)) G) : join2 (.str z) [.ref a] G Q := by
  unfold join2; simp only [h, strsOf_map]; exact ⟨hl, q⟩
end
/-- the second way serves the first, too -/
theorem way_keep {c : Bool} {A B : Prop} (hB : B) (hA : c = true → B → A) : way2 c A B := by
  cases c with
  | true => exact hA rfl hB
  | false => exact hB
/-- all but what is named is as it was -/
def Ch (l : List Addr) (G G' : Gp) : Prop := ∀ c o, c ∉ l → G c = some o → G' c = some o
theorem Ch.refl {l : List Addr} {G : Gp} : Ch l G G := fun _ _ _ h => h
theorem Ch.trans {l : List Addr} {G G1 G2 : Gp} (a : Ch l G G1) (b : Ch l G1 G2) : Ch l G G2 := fun c o n h => b c o n (a c o n h)
theorem Ch.new {l : List Addr} {G G1 : Gp} {a : Addr} {o : MO} (h : Ch l G G1) (n : G1 a = none) : Ch l G (up G1 a o) := fun b u hb q => by
  have := h b u hb q
  have ne : b ≠ a := fun z => by subst z; rw [n] at this; cases this
  rw [up_ne ne]; exact this
theorem Ch.put {l : List Addr} {G G1 : Gp} {a : Addr} {o : MO} (h : Ch l G G1) (n : a ∈ l) : Ch l G (up G1 a o) := fun b u hb q => by
  have ne : b ≠ a := fun z => by subst z; exact hb n
  rw [up_ne ne]; exact h b u hb q
theorem Ch.mod' {l : List Addr} {G G1 : Gp} {a : Addr} {o : MO} (h : Ch l G G1) (n : G a = none) : Ch l G (up G1 a o) := fun b u hb q => by
  have ne : b ≠ a := fun z => by subst z; rw [n] at q; cases q
  rw [up_ne ne]; exact h b u hb q
theorem Ch.mono {l l' : List Addr} {G G1 : Gp} (h : Ch l G G1) (s : ∀ a ∈ l, a ∈ l') : Ch l' G G1 := fun b u hb q => h b u (fun z => hb (s b z)) q
/-- the laws' pool -/
def Pool (G : Gp) (a : Addr) : Prop := ∃ x y z : Int, G a = some (.lst [.int x, .int y, .int z]) ∧ 0 ≤ x
theorem Pool.new {G : Gp} {a b : Addr} {o : MO} (h : Pool G a) (n : G b = none) : Pool (up G b o) a := by
  obtain ⟨x, y, z, e, hx⟩ := h
  exact ⟨x, y, z, by rw [up_ne (fun q => by subst q; rw [n] at e; cases e)]; exact e, hx⟩
theorem Pool.ne {G : Gp} {a b : Addr} {o : MO} (h : Pool G a) (n : b ≠ a) : Pool (up G b o) a := by
  obtain ⟨x, y, z, e, hx⟩ := h
  exact ⟨x, y, z, by rw [up_ne (Ne.symm n)]; exact e, hx⟩
theorem ne_none {G : Gp} {a b : Addr} {o : MO} (h : G a = some o) (n : G b = none) : a ≠ b := fun z => by subst z; rw [h] at n; cases n
theorem Pool.some {G : Gp} {a : Addr} (h : Pool G a) : ∃ o, G a = some o := by obtain ⟨x, y, z, e, _⟩ := h; exact ⟨_, e⟩
/-- nothing is promised -/
theorem never_ok {P : Program} {w : World} {K : PySem.W.Frag} {mg : Str → Option Value} {base : Heap} {k : Nat} {f : Addr} {fd : FuncData} {ps : List Str} {sp : Sp2} (h : ∀ as G Q, ¬ sp as G Q) : Ok2 P w K mg base k f fd ps sp :=
  ⟨fun vs H Q E ⟨as, G, Q2, _, _, q, _⟩ => absurd q (h as G Q2), fun A outer s H args us vs Q E _ _ _ _ ⟨as, G, Q2, _, _, q, _⟩ => absurd q (h as G Q2)⟩
def spPool : Sp2 := fun ps G Q => ∃ c : Int, ps = [.int c] ∧ ∀ a G', G a = none → Pool G' a → Ch [a] G G' → Q (.ref a) G'
def spNext : Sp2 := fun ps G Q => ∃ (a : Addr) (b : Int), ps = [.ref a, .int b] ∧ Pool G a ∧ 1 ≤ b ∧ b ≤ 1000000 ∧ ∀ (n : Int) G', 0 ≤ n → n < b → Pool G' a → Ch [a] G G' → Q (.int n) G'
inductive Pt where
  | none | blank | sign (s : Str) | row (ps : List Pt) | pick (ps : List Pt) | again (p : Pt) | held (n : Str) (p : Pt) | price (n : Int) (p : Pt)
mutual
def enc : Pt → PV
  | .none => .tup [.str "none"]
  | .blank => .tup [.str "blank"]
  | .sign s => .tup [.str "sign", .str s]
  | .row ps => .tup [.str "row", .tup (encs ps)]
  | .pick ps => .tup [.str "pick", .tup (encs ps)]
  | .again p => .tup [.str "again", enc p]
  | .held n p => .tup [.str "held", .str n, enc p]
  | .price n p => .tup [.str "price", .int n, enc p]
def encs : List Pt → List PV
  | [] => []
  | p :: ps => enc p :: encs ps
end
theorem encs_map : ∀ ps : List Pt, encs ps = ps.map enc
  | [] => rfl
  | p :: ps => by show enc p :: encs ps = _; rw [encs_map ps]; rfl
theorem encs_append (ps qs : List Pt) : encs (ps ++ qs) = encs ps ++ encs qs := by rw [encs_map, encs_map, encs_map, List.map_append]
theorem encs_reverse (ps : List Pt) : encs ps.reverse = (encs ps).reverse := by rw [encs_map, encs_map, List.map_reverse]
theorem encs_length (ps : List Pt) : (encs ps).length = ps.length := by rw [encs_map, List.length_map]
def inner : Pt → List Pt
  | .row ps => ps
  | .pick ps => ps
  | .again p => [p]
  | .held _ p => [p]
  | .price _ p => [p]
  | _ => []
mutual
def size : Pt → Nat
  | .row ps => 1 + sizes ps
  | .pick ps => 1 + sizes ps
  | .again p => 1 + size p
  | .held _ p => 1 + size p
  | .price _ p => 1 + size p
  | _ => 1
def sizes : List Pt → Nat
  | [] => 0
  | p :: ps => size p + sizes ps
end
theorem size_inner (p : Pt) : size p = 1 + sizes (inner p) := by
  cases p <;> simp [size, inner, sizes]
theorem size_pos (p : Pt) : 0 < size p := by rw [size_inner]; omega
theorem sizes_append (ps qs : List Pt) : sizes (ps ++ qs) = sizes ps + sizes qs := by
  induction ps with
  | nil => simp [sizes]
  | cons p ps ih => simp [sizes, ih]; omega
theorem length_le_sizes : ∀ ps : List Pt, ps.length ≤ sizes ps
  | [] => Nat.zero_le _
  | p :: ps => by
    have := length_le_sizes ps
    have := size_pos p
    simp [sizes]; omega
mutual
/-- all makes, in the order of writing -/
def makes : Pt → List Pt
  | .row ps => .row ps :: makess ps
  | .pick ps => .pick ps :: makess ps
  | .again p => .again p :: makes p
  | .held n p => .held n p :: makes p
  | .price n p => .price n p :: makes p
  | p => [p]
def makess : List Pt → List Pt
  | [] => []
  | p :: ps => makes p ++ makess ps
end
theorem makes_inner (p : Pt) : makes p = p :: makess (inner p) := by
  cases p <;> simp [makes, inner, makess]
theorem makess_append (ps qs : List Pt) : makess (ps ++ qs) = makess ps ++ makess qs := by
  induction ps with
  | nil => simp [makess]
  | cons p ps ih => simp [makess, ih]
mutual
theorem makes_length : ∀ p : Pt, (makes p).length = size p
  | .row ps => by simp [makes, size, makess_length ps]; omega
  | .pick ps => by simp [makes, size, makess_length ps]; omega
  | .again p => by simp [makes, size, makes_length p]; omega
  | .held n p => by simp [makes, size, makes_length p]; omega
  | .price n p => by simp [makes, size, makes_length p]; omega
  | .none => rfl
  | .blank => rfl
  | .sign s => rfl
theorem makess_length : ∀ ps : List Pt, (makess ps).length = sizes ps
  | [] => rfl
  | p :: ps => by simp [makess, sizes, makes_length p, makess_length ps]
end
def oneS (c : Nat) : Str := ⟨#[c]⟩
theorem join_cps : ∀ zs : List Str, (Str.join (Str.ofString "") zs).cps.toList = (zs.map fun z => z.cps.toList).flatten
  | [] => rfl
  | [z] => by simp [Str.join]
  | z :: y :: r => by
    show (z ++ Str.ofString "" ++ Str.join (Str.ofString "") (y :: r)).cps.toList = _
    have h := join_cps (y :: r)
    rw [List.map_cons, List.flatten_cons, ← h]
    show (z.cps ++ (Str.ofString "").cps ++ (Str.join (Str.ofString "") (y :: r)).cps).toList = _
    rw [Array.toList_append, Array.toList_append]
    simp [show (Str.ofString "").cps.toList = [] from rfl]
theorem joinE_cps (zs : List Str) : (Txt.join (Str.ofString "") zs).cps.toList = (zs.map fun z => z.cps.toList).flatten := by
  have e : Txt.join (Str.ofString "") zs = Str.join (Str.ofString "") zs := StrLaws.glued_eq_join _ _
  rw [e, join_cps]
theorem join_chars (cs : List Nat) : (Txt.join (Str.ofString "") (cs.map oneS)).cps.toList = cs := by
  rw [joinE_cps]
  induction cs with
  | nil => rfl
  | cons c cs ih => rw [List.map_cons, List.map_cons, List.flatten_cons, ih]; rfl
theorem signs_at {z : Str} {i : Nat} {x : PV} (h : (signsP z)[i]? = some x) : ∃ c, z.cps.toList[i]? = some c ∧ x = .str (oneS c) := by
  unfold signsP at h
  rw [List.getElem?_map] at h
  cases e : z.cps.toList[i]? with
  | none => rw [e] at h; cases h
  | some c => rw [e] at h; cases h; exact ⟨c, rfl, rfl⟩
theorem pure_strs (cs : List Nat) : pureL 100 (cs.map fun c => .str (oneS c)) = true := by
  induction cs with
  | nil => rfl
  | cons c cs ih => rw [List.map_cons]; unfold pureL; rw [ih]; rfl
theorem sum_ones (cs : List Nat) : ((cs.map oneS).map (·.length)).sum = cs.length := by
  induction cs with
  | nil => rfl
  | cons c cs ih => rw [List.map_cons, List.map_cons, List.sum_cons, ih, List.length_cons]; show 1 + cs.length = _; omega
mutual
def depth : Pt → Nat
  | .row ps => 1 + depths ps
  | .pick ps => 1 + depths ps
  | .again p => 1 + depth p
  | .held _ p => 1 + depth p
  | .price _ p => 1 + depth p
  | _ => 1
def depths : List Pt → Nat
  | [] => 0
  | p :: ps => max (depth p) (depths ps)
end
mutual
def canB : Pt → Bool
  | .none => false
  | .blank => true
  | .sign _ => false
  | .row ps => allB ps
  | .pick ps => anyB ps
  | .again _ => true
  | .held _ p => canB p
  | .price _ p => canB p
def allB : List Pt → Bool
  | [] => true
  | p :: ps => canB p && allB ps
def anyB : List Pt → Bool
  | [] => false
  | p :: ps => canB p || anyB ps
end
def nameS : List Str := ["x", "yy", "left", "pick", "none", "abcdefgh"]
mutual
/-- drawn of the letters z -/
def wf (z : Str) : Pt → Prop
  | .none => True
  | .blank => True
  | .sign s => s.cps.toList ≠ [] ∧ s.cps.toList.Sublist z.cps.toList
  | .row ps => 2 ≤ ps.length ∧ ps.length ≤ 6 ∧ wfs z ps
  | .pick ps => 2 ≤ ps.length ∧ ps.length ≤ 6 ∧ wfs z ps
  | .again p => canB p = false ∧ wf z p
  | .held n p => n ∈ nameS ∧ wf z p
  | .price n p => 0 ≤ n ∧ n ≤ 1000 ∧ wf z p
def wfs (z : Str) : List Pt → Prop
  | [] => True
  | p :: ps => wf z p ∧ wfs z ps
end
theorem wfs_append {z : Str} {ps qs : List Pt} : wfs z (ps ++ qs) ↔ wfs z ps ∧ wfs z qs := by
  induction ps with
  | nil => simp [wfs]
  | cons p ps ih => simp [wfs, ih, and_assoc]
theorem depths_append (ps qs : List Pt) : depths (ps ++ qs) = max (depths ps) (depths qs) := by
  induction ps with
  | nil => simp [depths]
  | cons p ps ih => simp [depths, ih, Nat.max_assoc]
theorem allB_at : ∀ {ps : List Pt} {i : Nat} {p : Pt}, ps[i]? = some p → allB ps = true → canB p = true
  | [], _, _, h, _ => by simp at h
  | p :: ps, 0, q, h, e => by
    simp at h; subst h
    simp [allB] at e; exact e.1
  | p :: ps, i + 1, q, h, e => by
    simp [allB] at e
    exact allB_at (i := i) (by simpa using h) e.2
theorem anyB_at : ∀ {ps : List Pt}, anyB ps = true → ∃ (i : Nat) (p : Pt), ps[i]? = some p ∧ canB p = true
  | [], e => by simp [anyB] at e
  | p :: ps, e => by
    simp [anyB] at e
    rcases e with e | e
    · exact ⟨0, p, rfl, e⟩
    · obtain ⟨i, q, h, c⟩ := anyB_at e
      exact ⟨i + 1, q, by simpa using h, c⟩
theorem size_depth_inner (p : Pt) : depth p = 1 + depths (inner p) := by
  cases p <;> simp [depth, inner, depths]
mutual
/-- a pattern holds nothing that can change -/
theorem enc_pure : ∀ (p : Pt) (n : Nat), 2 * depth p ≤ n → pureP n (enc p) = true
  | .none, n, h => by
    simp [depth] at h
    obtain ⟨n, rfl⟩ : ∃ m, n = m + 1 := ⟨n - 1, by omega⟩
    simp [enc, pureP, pureL]
  | .blank, n, h => by
    simp [depth] at h
    obtain ⟨n, rfl⟩ : ∃ m, n = m + 1 := ⟨n - 1, by omega⟩
    simp [enc, pureP, pureL]
  | .sign s, n, h => by
    simp [depth] at h
    obtain ⟨n, rfl⟩ : ∃ m, n = m + 1 := ⟨n - 1, by omega⟩
    simp [enc, pureP, pureL]
  | .row ps, n, h => by
    simp [depth] at h
    obtain ⟨n, rfl⟩ : ∃ m, n = m + 2 := ⟨n - 2, by omega⟩
    simp [enc, pureP, pureL, encs_pure ps n (by omega)]
  | .pick ps, n, h => by
    simp [depth] at h
    obtain ⟨n, rfl⟩ : ∃ m, n = m + 2 := ⟨n - 2, by omega⟩
    simp [enc, pureP, pureL, encs_pure ps n (by omega)]
  | .again p, n, h => by
    simp [depth] at h
    obtain ⟨n, rfl⟩ : ∃ m, n = m + 1 := ⟨n - 1, by omega⟩
    simp [enc, pureP, pureL, enc_pure p n (by omega)]
  | .held s p, n, h => by
    simp [depth] at h
    obtain ⟨n, rfl⟩ : ∃ m, n = m + 1 := ⟨n - 1, by omega⟩
    simp [enc, pureP, pureL, enc_pure p n (by omega)]
  | .price s p, n, h => by
    simp [depth] at h
    obtain ⟨n, rfl⟩ : ∃ m, n = m + 1 := ⟨n - 1, by omega⟩
    simp [enc, pureP, pureL, enc_pure p n (by omega)]
theorem encs_pure : ∀ (ps : List Pt) (n : Nat), 2 * depths ps ≤ n → pureL n (encs ps) = true
  | [], n, h => by simp [encs, pureL]
  | p :: ps, n, h => by
    simp [depths] at h
    simp [encs, pureL, enc_pure p n (by omega), encs_pure ps n (by omega)]
end
theorem atI_of {α : Type} {xs : List α} {n : Int} (h0 : 0 ≤ n) (h1 : n < xs.length) : ∃ x, atI xs n = some x ∧ x ∈ xs := by
  have hl : n.toNat < xs.length := by omega
  refine ⟨xs[n.toNat], ?_, List.getElem_mem hl⟩
  have := atI_nat (xs := xs) (j := n.toNat) (v := xs[n.toNat]) (List.getElem?_eq_getElem hl)
  rwa [show ((n.toNat : Nat) : Int) = n by omega] at this
theorem depth_pos (p : Pt) : 1 ≤ depth p := by rw [size_depth_inner]; omega
end L3
namespace L3
open PySem L2
def childN : Nat → List Pt → List Nat
  | _, [] => []
  | b, p :: ps => b :: childN (b + size p) ps
theorem childN_append (b : Nat) (ps qs : List Pt) : childN b (ps ++ qs) = childN b ps ++ childN (b + sizes ps) qs := by
  induction ps generalizing b with
  | nil => simp [childN, sizes]
  | cons p ps ih => simp [childN, sizes, ih, Nat.add_assoc]
theorem childN_length (b : Nat) (ps : List Pt) : (childN b ps).length = ps.length := by
  induction ps generalizing b with
  | nil => rfl
  | cons p ps ih => simp [childN, ih]
mutual
theorem seg : ∀ (p : Pt) (j : Nat) (q : Pt), (makes p)[j]? = some q → ∃ r, (makes p).drop j = makes q ++ r
  | .row ps, j, q, h => by
    cases j with
    | zero => simp [makes] at h; subst h; exact ⟨[], by simp⟩
    | succ j => simp [makes] at h ⊢; exact segs ps j q h
  | .pick ps, j, q, h => by
    cases j with
    | zero => simp [makes] at h; subst h; exact ⟨[], by simp⟩
    | succ j => simp [makes] at h ⊢; exact segs ps j q h
  | .again p, j, q, h => by
    cases j with
    | zero => simp [makes] at h; subst h; exact ⟨[], by simp⟩
    | succ j => simp [makes] at h ⊢; exact seg p j q h
  | .held n p, j, q, h => by
    cases j with
    | zero => simp [makes] at h; subst h; exact ⟨[], by simp⟩
    | succ j => simp [makes] at h ⊢; exact seg p j q h
  | .price n p, j, q, h => by
    cases j with
    | zero => simp [makes] at h; subst h; exact ⟨[], by simp⟩
    | succ j => simp [makes] at h ⊢; exact seg p j q h
  | .none, j, q, h => by
    cases j with
    | zero => simp [makes] at h; subst h; exact ⟨[], by simp⟩
    | succ j => simp [makes] at h
  | .blank, j, q, h => by
    cases j with
    | zero => simp [makes] at h; subst h; exact ⟨[], by simp⟩
    | succ j => simp [makes] at h
  | .sign s, j, q, h => by
    cases j with
    | zero => simp [makes] at h; subst h; exact ⟨[], by simp⟩
    | succ j => simp [makes] at h
theorem segs : ∀ (ps : List Pt) (j : Nat) (q : Pt), (makess ps)[j]? = some q → ∃ r, (makess ps).drop j = makes q ++ r
  | [], j, q, h => by simp [makess] at h
  | p :: ps, j, q, h => by
    simp only [makess] at h ⊢
    by_cases hj : j < (makes p).length
    · rw [List.getElem?_append_left hj] at h
      obtain ⟨r, e⟩ := seg p j q h
      refine ⟨r ++ makess ps, ?_⟩
      rw [List.drop_append_of_le_length (Nat.le_of_lt hj), e, List.append_assoc]
    · rw [List.getElem?_append_right (by omega)] at h
      obtain ⟨r, e⟩ := segs ps _ q h
      refine ⟨r, ?_⟩
      rw [List.drop_append, List.drop_of_length_le (by omega), List.nil_append, e]
end
/-- behind make j come its parts -/
theorem seg_inner {p q : Pt} {j : Nat} (h : (makes p)[j]? = some q) : ∃ r, (makes p).drop (j + 1) = makess (inner q) ++ r := by
  obtain ⟨r, e⟩ := seg p j q h
  refine ⟨r, ?_⟩
  have : (makes p).drop (j + 1) = ((makes p).drop j).drop 1 := by rw [List.drop_drop]
  rw [this, e, makes_inner q]
  rfl
/-- the part behind others -/
theorem seg_part {p q c : Pt} {j : Nat} {pre post : List Pt} (h : (makes p)[j]? = some q) (hi : inner q = pre ++ c :: post) : (makes p)[j + 1 + sizes pre]? = some c := by
  obtain ⟨r, e⟩ := seg_inner h
  have e2 : ((makes p).drop (j + 1))[sizes pre]? = some c := by
    rw [e, hi, makess_append, List.append_assoc, List.getElem?_append_right (by rw [makess_length]; exact Nat.le_refl _), makess_length, Nat.sub_self]
    simp only [makess]
    rw [makes_inner c]
    rfl
  rw [List.getElem?_drop] at e2
  exact e2
theorem seg_size {p q : Pt} {j : Nat} (h : (makes p)[j]? = some q) : j + size q ≤ size p := by
  obtain ⟨r, e⟩ := seg p j q h
  have := congrArg List.length e
  rw [List.length_drop, List.length_append, makes_length, makes_length] at this
  have hj := (List.getElem?_eq_some_iff.mp h).1
  rw [makes_length] at hj
  omega
def intN (n : Nat) : PV := .int n
/-- the numbers of the parts, by number -/
def partsP (p : Pt) : List PV := (List.range (size p)).map fun j => .tup ((childN (j + 1) (inner ((makes p).getD j .none))).map intN)
theorem partsP_length (p : Pt) : (partsP p).length = size p := by unfold partsP; simp
theorem partsP_at {p q : Pt} {j : Nat} (h : (makes p)[j]? = some q) : (partsP p)[j]? = some (.tup ((childN (j + 1) (inner q)).map intN)) := by
  have hj := (List.getElem?_eq_some_iff.mp h).1
  rw [makes_length] at hj
  unfold partsP
  rw [List.getElem?_map, List.getElem?_range hj]
  show some (PV.tup ((childN (j + 1) (inner ((makes p).getD j .none))).map intN)) = _
  rw [List.getD_eq_getElem?_getD, h]
  rfl
theorem getD_cons_succ {α : Type} (a : α) (l : List α) (j : Nat) (d : α) : (a :: l).getD (j + 1) d = l.getD j d := by simp
mutual
theorem deq_refl : ∀ (n : Nat) (p : PV), pureP n p = true → deq p p = true
  | _, .non, _ => rfl
  | _, .bl b, _ => by unfold deq; simp
  | _, .int b, _ => by unfold deq; simp
  | _, .str b, _ => by unfold deq; simp
  | n, .tup xs, h => by
    cases n with
    | zero => cases h
    | succ n => unfold deq; exact deqs_refl n xs h
  | n, .ref _, h => by cases n <;> cases h
  | n, .ty _, h => by cases n <;> cases h
  | n, .ro _, h => by cases n <;> cases h
theorem deqs_refl : ∀ (n : Nat) (xs : List PV), pureL n xs = true → deqs xs xs = true
  | _, [], _ => rfl
  | n, x :: xs, h => by
    unfold pureL at h
    rw [Bool.and_eq_true] at h
    unfold deqs
    rw [deq_refl n x h.1, deqs_refl n xs h.2]
    rfl
end
end L3
namespace L3
open PySem L2
section
variable {G : Gp} {a b : Addr} {xs ys : List PV} {x y p : PV} {i k : Int} {j : Nat} {Q : K2}
theorem inL_i (h : lk G a = some xs) (f1 : flatP p = true) (f2 : xs.all flatP = true) (q : Q (.bl (inP p xs)) G) : in2 false p (.ref a) G Q := by
  unfold in2; simp only [h]; exact ⟨f1, f2, q⟩
theorem inst_i {ty T : String} (h : tyN p G = some ty) (hT : T ∈ Tys) (q : Q (.bl (isT ty T)) G) : inst2 [p, .ty T] G Q := by
  unfold inst2; simp only [h]; exact ⟨hT, q⟩
theorem neP_i (f1 : pureP 100 x = true) (f2 : pureP 100 y = true) (q : Q (.bl (!deq x y)) G) : ne2 x y G Q := by
  cases x with
  | ref a => cases f1
  | ty a => cases f1
  | ro a => cases f1
  | _ => cases y with
    | ref a => cases f2
    | ty a => cases f2
    | ro a => cases f2
    | _ => exact ⟨f1, f2, q⟩
theorem eqP_i (f1 : pureP 100 x = true) (f2 : pureP 100 y = true) (q : Q (.bl (deq x y)) G) : eq2 x y G Q := by
  cases x with
  | ref a => cases f1
  | ty a => cases f1
  | ro a => cases f1
  | _ => cases y with
    | ref a => cases f2
    | ty a => cases f2
    | ro a => cases f2
    | _ => exact ⟨f1, f2, q⟩
theorem addI_i {i j : Int} (q : Q (.int (i + j)) G) : add2 (.int i) (.int j) G Q := q
end
theorem pure_ints (ns : List Nat) (n : Nat) : pureL n (ns.map intN) = true := by
  induction ns with
  | nil => rfl
  | cons c cs ih => rw [List.map_cons]; unfold pureL; rw [ih]; rfl
end L3
namespace PyProof.Rows
open PySem
section
variable {prog : Program} {w : World} {A : Around} {E : Value → Shared → Prop} {s : Shared}
end
end PyProof.Rows
namespace PySem
open Sem (wp)
open Builtin
end PySem
namespace L3
open PySem L2
theorem vals_strs {ns : List Str} {us : List Value} (h : PyProof.Rows.StrsAre us ns) : Vals (ns.map V.str) us := by
  induction h with
  | nil => exact .nil
  | cons n t _ ih => exact .cons ⟨t, rfl⟩ ih
theorem strs_D {K : PySem.W.Frag} {H : Hp} : ∀ (l : List Str), Dvs K H (l.map PV.str) (l.map V.str)
  | [] => rfl
  | i :: l => ⟨_, _, rfl, rfl, strs_D l⟩
section
variable {X : Cx}
end
end L3
namespace PySem
open PyProof.Rows (StrsAre)
theorem layNew_led (t : SetTable) (es : Array (Int × Value)) (h : Int) (x : Value) : (layNew t es h x).2.1.led = t.led := by
  unfold layNew
  split
  · simp only [SetTable.orStandIn]
    split <;> rfl
  · rfl
theorem relayAll_led (t : SetTable) (es : Array (Int × Value)) (n : Nat) : (relayAll t es n).2.1.led = t.led ∧ (t.plain = false → (relayAll t es n).2.1.plain = false) := by
  unfold relayAll
  split
  · rename_i t' order hr
    have key : t'.led = t.led ∧ t'.plain = t.plain := by
      unfold SetTable.relaid SetTable.laid at hr
      cases hc : SetTable.layClean (SetTable.sizeAbove n - 1) (es.map (·.1)) with
      | none => rw [hc] at hr; cases hr
      | some owner =>
        rw [hc] at hr
        simp only [Option.bind_eq_bind, Option.bind_some, Option.pure_def, Option.some.injEq, Prod.mk.injEq] at hr
        rw [← hr.1]
        exact ⟨rfl, rfl⟩
    dsimp only
    split
    · exact ⟨key.1, fun h => key.2.trans h⟩
    · exact ⟨rfl, fun _ => rfl⟩
  · exact ⟨rfl, fun _ => rfl⟩
/-- a set of texts -/
def TS (prog : Program) (w : World) (h : Heap) (S : Addr) (ks : List Str) : Prop :=
  ∃ es ep t, h.get? S = some { cls := .type "set", dict := none, data := .set es ep t, slots := #[] } ∧ ElemsOf (strKind prog w) es.toList ∧ es.size < scanBound ∧ t.fits es.size = true ∧
    (w.params.followText "set-order" = false → t.led = true) ∧ (es.size ≠ 0 → t.plain = false) ∧ StrsAre (es.toList.map (·.2)) ks ∧ ks.Nodup
theorem strsAre_len : ∀ {vs : List Value} {ss : List Str}, StrsAre vs ss → vs.length = ss.length
  | _, _, .nil => rfl
  | _, _, .cons _ _ h => by rw [List.length_cons, List.length_cons, strsAre_len h]
theorem strsAre_is {prog : Program} {w : World} {z : Str} : ∀ {l : List (Int × Value)} {ks : List Str}, StrsAre (l.map (·.2)) ks → ((∃ e ∈ l, (strKind prog w).is z e.2 = true) ↔ z ∈ ks)
  | [], ks, h => by
    have h' : StrsAre [] ks := h
    cases h'
    simp
  | e :: l, ks, h => by
    have h' : StrsAre (e.2 :: l.map (·.2)) ks := h
    generalize hv : e.2 = v at h'
    cases h' with
    | cons y t h2 =>
      have ih := strsAre_is (prog := prog) (w := w) (z := z) h2
      simp only [List.mem_cons]
      rw [← ih]
      have he : (strKind prog w).is z e.2 = true ↔ z = y := by
        rw [hv]
        show Value.isStrOf z (.str y t) = true ↔ _
        simp only [Value.isStrOf, beq_iff_eq]
        exact ⟨fun h => h.symm, fun h => h.symm⟩
      constructor
      · rintro ⟨x, rfl | hx, hp⟩
        · exact .inl (he.mp hp)
        · exact .inr ⟨x, hx, hp⟩
      · rintro (rfl | ⟨x, hx, hp⟩)
        · exact ⟨e, .inl rfl, he.mpr rfl⟩
        · exact ⟨x, .inr hx, hp⟩
theorem strsAre_perm {vs vs' : List Value} (p : vs'.Perm vs) : ∀ {ss : List Str}, StrsAre vs ss → ∃ ss', StrsAre vs' ss' ∧ ss'.Perm ss := by
  induction p with
  | nil => intro ss h; cases h; exact ⟨[], .nil, .nil⟩
  | cons x p ih =>
    intro ss h
    cases h with
    | cons y t h => obtain ⟨ss', a, b⟩ := ih h; exact ⟨y :: ss', .cons y t a, b.cons y⟩
  | swap x y l =>
    intro ss h
    cases h with
    | cons a t h => cases h with
      | cons b u h => exact ⟨_, .cons b u (.cons a t h), .swap _ _ _⟩
  | trans p q ih1 ih2 =>
    intro ss h
    obtain ⟨s1, a1, b1⟩ := ih2 h
    obtain ⟨s2, a2, b2⟩ := ih1 a1
    exact ⟨s2, a2, b2.trans b1⟩
theorem strsAre_snoc {z : Str} {t : Tok} : ∀ {vs : List Value} {ss : List Str}, StrsAre vs ss → StrsAre (vs ++ [.str z t]) (ss ++ [z])
  | _, _, .nil => .cons z t .nil
  | _, _, .cons y u h => .cons y u (strsAre_snoc h)
section
variable {prog : Program} {w : World} {A : Around} {E : Value → Shared → Prop} {s : Shared}
theorem storeTS {S : Addr} {es : Array (Int × Value)} {ep : Nat} {t : SetTable} {ks : List Str} {es' : Array (Int × Value)} {t' : SetTable}
    (ho : s.heap.get? S = some { cls := .type "set", dict := none, data := .set es ep t, slots := #[] }) (h1 : ElemsOf (strKind prog w) es'.toList) (h2 : es'.size < scanBound) (h3 : t'.fits es'.size = true)
    (h4 : w.params.followText "set-order" = false → t'.led = true) (h5 : t'.plain = false) (h6 : StrsAre (es'.toList.map (·.2)) ks) (h7 : ks.Nodup) :
    (s.heap.update S (Obj.putSet es' t')).get? S = some { cls := .type "set", dict := none, data := .set es' (ep + 1) t', slots := #[] } ∧ TS prog w (s.heap.update S (Obj.putSet es' t')) S ks := by
  have hg : (s.heap.update S (Obj.putSet es' t')).get? S = some { cls := .type "set", dict := none, data := .set es' (ep + 1) t', slots := #[] } := by
    have := Heap.get?_update_self (Obj.putSet es' t') ho (by rw [putSet_of es' t' rfl]; rfl)
    rw [putSet_of es' t' rfl] at this; exact this
  exact ⟨hg, es', ep + 1, t', hg, h1, h2, h3, h4, fun _ => h5, h6, h7⟩
set_option maxHeartbeats 4000000 in
theorem setAdd_str {S : Addr} {ks : List Str} (z : Str) (tok : Tok) {Q : Bool → Shared → Prop} (hS : TS prog w s.heap S ks) (hroom : ks.length + 1 < scanBound)
    (hQ : ∀ (h' : Heap) (b : Bool) (ks' : List Str), Heap.SameBut S s.heap h' → TS prog w h' S ks' → ks'.Perm (if z ∈ ks then ks else ks ++ [z]) → Q b { s with heap := h', toks := s.toks + 1 }) :
    wpAny (model prog w) A (setAdd S (.str z tok)) Q E s := by
  obtain ⟨es, ep, t, ho, hel, hb, hf, hled, hpl, hst, hnd⟩ := id hS
  have hlen : es.size = ks.length := by
    have := strsAre_len hst
    rw [List.length_map, Array.length_toList] at this
    exact this
  have hkey : (strKind prog w).is z (.str z tok) = true := strKind_is prog w z tok
  have hmem := strsAre_is (prog := prog) (w := w) (z := z) hst
  unfold setAdd
  refine wpAny_holding (wpAny_bind ((strKind prog w).pyHash hkey ?_))
  unfold setAddHashed setAddHashedIn
  refine wpAny_holding (wpAny_bind (wpAny_setState_of (s := { s with toks := s.toks + 1 }) ho rfl hf ?_))
  dsimp only
  rw [byScan_of (knd := strKind prog w) (x := .str z tok) rfl hb hel]
  simp only [↓reduceIte]
  unfold setAddByScan
  refine wpAny_bind ?_
  refine wpAny_bind (wpAny_rule ?_)
  refine wpAny_bind (wpAny_setScan_of (s := { s with toks := s.toks + 1 }) hkey ho rfl hf hel ?_)
  have hgw : ∀ (b : Bool) {s₁ : Shared} {Q' : Unit → Shared → Prop}, Q' () s₁ → wpAny (model prog w) A (match b with | true => rule "set.scan.the-table-gave-way" | false => pure ()) Q' E s₁ :=
    fun b s₁ Q' hq => by cases b <;> first | exact wpAny_pure hq | exact wpAny_rule hq
  cases hr : List.findIdx? (fun e => (strKind prog w).is z e.2) es.toList with
  | some j =>
    dsimp only
    obtain ⟨hj, hpj, _⟩ := List.findIdx?_eq_some_iff_getElem.mp hr
    have hz : z ∈ ks := hmem.mp ⟨es.toList[j], List.getElem_mem hj, hpj⟩
    refine wpAny_pure (wpAny_pure ?_)
    exact hQ s.heap false ks (Heap.SameBut.refl S s.heap) hS (by rw [if_pos hz])
  | none =>
    dsimp only
    have hz : z ∉ ks := fun hz => by
      obtain ⟨e, he, hp⟩ := hmem.mpr hz
      have := List.findIdx?_eq_none_iff.mp hr e he
      rw [hp] at this
      exact Bool.noConfusion this
    have hperm := layNew_perm t es ((strKind prog w).hash z) (.str z tok)
    have hfits := layNew_fits t es ((strKind prog w).hash z) (.str z tok)
    have hlay := layNew_led t es ((strKind prog w).hash z) (.str z tok)
    generalize hL : layNew t es ((strKind prog w).hash z) (.str z tok) = L at hperm hfits hlay ⊢
    obtain ⟨es1, t1, wasDummy, gave⟩ := L
    dsimp only at hperm hfits hlay ⊢
    rw [Array.toList_push] at hperm
    have hel1 : ElemsOf (strKind prog w) es1.toList := (hel.push hkey rfl).perm hperm
    have hsz1 : es1.size = ks.length + 1 := by rw [← Array.length_toList, hperm.length_eq, List.length_append, Array.length_toList, hlen]; rfl
    have hb1 : es1.size < scanBound := by rw [hsz1]; exact hroom
    obtain ⟨ks1, hst1, hp1⟩ : ∃ ks1, StrsAre (es1.toList.map (·.2)) ks1 ∧ ks1.Perm (ks ++ [z]) := by
      have h0 : StrsAre ((es.toList ++ [((strKind prog w).hash z, Value.str z tok)]).map (·.2)) (ks ++ [z]) := by
        rw [List.map_append]
        exact strsAre_snoc hst
      exact strsAre_perm (hperm.map (·.2)) h0
    have hnd1 : ks1.Nodup := hp1.nodup_iff.mpr (List.nodup_append.mpr ⟨hnd, by simp, by
      intro a ha b hb
      have hbz : b = z := List.mem_singleton.mp hb
      subst hbz
      intro e
      subst e
      exact hz ha⟩)
    have fin : ∀ (h' : Heap) (k2 : List Str), Heap.SameBut S s.heap h' → TS prog w h' S k2 → k2.Perm ks1 → Q true { s with heap := h', toks := s.toks + 1 } := fun h' k2 a b c => hQ h' true k2 a b (by rw [if_neg hz]; exact c.trans hp1)
    have tail : ∀ (t2 : SetTable), t2.fits es1.size = true → t2.led = t1.led → t2.plain = false →
        wpAny (model prog w) A (do
          storeSet S es1 t2
          if (!wasDummy && t2.tooFull) = true then do
              (match (relayAll t2 es1 (SetTable.grown es1.size)).2.2 with | true => rule "set.scan.the-table-gave-way" | false => pure ())
              storeSet S (relayAll t2 es1 (SetTable.grown es1.size)).1 (relayAll t2 es1 (SetTable.grown es1.size)).2.1
              pure (some true)
            else pure (some true)) (fun r s' => ∃ h' k2, r = some true ∧ s' = { s with heap := h', toks := s.toks + 1 } ∧ Heap.SameBut S s.heap h' ∧ TS prog w h' S k2 ∧ k2.Perm ks1) E { s with toks := s.toks + 1 } := by
      intro t2 f2 l2 p2
      refine wpAny_bind (wpAny_storeSet_of (s := { s with toks := s.toks + 1 }) ho rfl ?_ (fits_of_scanBound hb1))
      obtain ⟨ho1, hS1⟩ := storeTS (prog := prog) (w := w) (s := { s with toks := s.toks + 1 }) (t' := t2) ho hel1 hb1 f2 (fun hb => by rw [l2, hlay]; exact hled hb) p2 hst1 hnd1
      have hsb1 := Heap.SameBut.update s.heap S (Obj.putSet es1 t2)
      split
      · have hp := relayAll_perm t2 es1 (SetTable.grown es1.size)
        have hfr := relayAll_fits t2 es1 (SetTable.grown es1.size)
        have hle := relayAll_led t2 es1 (SetTable.grown es1.size)
        generalize hRl : relayAll t2 es1 (SetTable.grown es1.size) = Rl at hp hfr hle ⊢
        obtain ⟨es2, t3, gave2⟩ := Rl
        dsimp only at hp hfr hle ⊢
        have hsz : es2.size = es1.size := by rw [← Array.length_toList, hp.length_eq, Array.length_toList]
        have hb2 : es2.size < scanBound := by rw [hsz]; exact hb1
        refine wpAny_bind (hgw _ ?_)
        obtain ⟨ks2, hst2, hp2⟩ := strsAre_perm (hp.map (·.2)) hst1
        refine wpAny_bind (wpAny_storeSet_of (s := { s with heap := s.heap.update S (Obj.putSet es1 t2), toks := s.toks + 1 }) ho1 rfl ?_ (fits_of_scanBound hb2))
        obtain ⟨ho2, hS2⟩ := storeTS (prog := prog) (w := w) (s := { s with heap := s.heap.update S (Obj.putSet es1 t2), toks := s.toks + 1 }) (t' := t3) ho1 (hel1.perm hp) hb2 hfr (fun hb => by rw [hle.1, l2, hlay]; exact hled hb) (hle.2 p2) hst2 (hp2.nodup_iff.mpr hnd1)
        exact wpAny_pure ⟨_, ks2, rfl, rfl, hsb1.trans (Heap.SameBut.update _ S _), hS2, hp2⟩
      · exact wpAny_pure ⟨_, ks1, rfl, rfl, hsb1, hS1, .refl _⟩
    refine wpAny_bind (hgw _ ?_)
    have done : ∀ (r : Option Bool) (s' : Shared), (∃ h' k2, r = some true ∧ s' = { s with heap := h', toks := s.toks + 1 } ∧ Heap.SameBut S s.heap h' ∧ TS prog w h' S k2 ∧ k2.Perm ks1) → wpAny (model prog w) A (match r with | some added => (pure added : Sem Bool) | none => setAddHashedIn S (.str z tok) ((strKind prog w).hash z) 99999) Q E s' := by
      rintro r s' ⟨h', k2, rfl, rfl, a, b, c⟩
      exact wpAny_pure (fin h' k2 a b c)
    split
    · rename_i hpl1
      refine wpAny_bind ?_
      rw [hashByValue_scannable 8 (show (Value.str z tok).scannable = true from rfl)]
      refine wpAny_pure ?_
      refine wpAny_mono (tail { t1 with plain := false } (SetTable.fits_plain_off hfits) rfl rfl) (fun r s' h => ?_) fun _ _ x => x
      exact done r s' h
    · rename_i hpl1
      refine wpAny_bind (wpAny_pure ?_)
      simp only [↓reduceIte]
      refine wpAny_mono (tail t1 hfits rfl (by simpa using hpl1)) (fun r s' h => ?_) fun _ _ x => x
      exact done r s' h
end
end PySem
namespace PySem
open PyProof.Rows (StrsAre)
theorem TS.at {prog : Program} {w : World} {h h' : Heap} {S : Addr} {ks : List Str} (x : TS prog w h S ks) (e : ∀ o, h.get? S = some o → h'.get? S = some o) : TS prog w h' S ks := by
  obtain ⟨es, ep, t, ho, r⟩ := x
  exact ⟨es, ep, t, e _ ho, r⟩
def sgs (x : Str) (i : Nat) : List Str := (x.cps.toList.take i).map fun c => ⟨#[c]⟩
theorem sgs_succ {x : Str} {i c : Nat} (h : x.cps[i]? = some c) : sgs x (i + 1) = sgs x i ++ [⟨#[c]⟩] := by
  unfold sgs
  have h' : x.cps.toList[i]? = some c := by simpa using h
  rw [List.take_add_one, h', List.map_append]
  rfl
section
variable {prog : Program} {w : World} {A : Around} {R : Result → Shared → Prop} {I : Addr} {fp wr : List Addr} {G : Array GenState → Array GenState → Prop} {n : Nat} {P : Nat → Value → Prop} {St : Nat → Shared → Prop}
theorem update_loop_str (W : WalksS prog w A.in1 I fp wr G n P St) (S : Addr) (hSf : S ∉ fp) (x : Str) (hval : ∀ i v, P i v → SignAt x i v) (hb : n + 1 < scanBound) :
    ∀ (k i : Nat) (s : Shared) (ks : List Str), n - i = k → i ≤ n → St i s → TS prog w s.heap S ks → ks.length ≤ i → (∀ z, z ∈ ks ↔ z ∈ sgs x i) →
      (∀ (s' : Shared) (ks' : List Str), Moved (S :: wr) G s s' → TS prog w s'.heap S ks' → ks'.length ≤ n → (∀ z, z ∈ ks' ↔ z ∈ sgs x n) → R (.ok (.ret .none)) s') →
      codeAny (model prog w) A (.builtin "set.update.loop" ⟨[.ref S, .ref I], []⟩) R s := by
  have hSw : S ∉ wr := fun h => hSf (W.sub _ h)
  have hsub : ∀ b ∈ wr, b ∈ S :: wr := fun b hb => List.mem_cons_of_mem _ hb
  intro k
  induction k with
  | zero =>
    intro i s ks hk hi hst hS hkl hmem hR
    have hin : i = n := by omega
    subst hin
    refine codeAny_builtin PyProof.Rows.F.entry_set_update_loop ?_
    rw [Around.under_plainId PyProof.Rows.F.plain_set_update_loop _]
    show wpAny _ A.in1 (pyNext (.ref I) >>= _) _ _ s
    refine wpAny_bind (W.done s _ _ hst fun s' hm => ?_)
    show wpAny _ A.in1 (ret Value.none) _ _ s'
    exact wpAny_pure (hR s' ks (hm.mono hsub) (hS.at fun o e => hm.heap S o hSw e) hkl hmem)
  | succ k ih =>
    intro i s ks hk hi hst hS hkl hmem hR
    have hlt : i < n := by omega
    refine codeAny_builtin PyProof.Rows.F.entry_set_update_loop ?_
    rw [Around.under_plainId PyProof.Rows.F.plain_set_update_loop _]
    show wpAny _ A.in1 (pyNext (.ref I) >>= _) _ _ s
    refine wpAny_bind (W.item i s _ _ hlt hst fun v s' hP hst' hm => ?_)
    obtain ⟨c, u, hc, rfl⟩ := hval i v hP
    have hS' : TS prog w s'.heap S ks := hS.at fun o e => hm.heap S o hSw e
    show wpAny _ A.in1 (holding [Value.str ⟨#[c]⟩ u] (setAdd S (.str ⟨#[c]⟩ u)) >>= _) _ _ s'
    refine wpAny_bind (wpAny_holding (setAdd_str ⟨#[c]⟩ u hS' (by omega) fun h' b ks' hsb hS2 hp => ?_))
    refine wpAny_pure ⟨plainId_quiet PyProof.Rows.F.plain_set_update_loop _, ih (i + 1) _ ks' (by omega) hlt (W.frame _ s' _ _ hst' (Nat.le_succ _) fun b hb o e => ?_) hS2 ?_ ?_ fun s'' k2 hm'' hS'' hl'' hmem'' => ?_⟩
    · rw [hsb.2 b (fun h : b = S => hSf (by rw [← h]; exact hb))]; exact e
    · rw [hp.length_eq]
      split
      · omega
      · rw [List.length_append]; simp; omega
    · intro z
      rw [hp.mem_iff, sgs_succ hc, List.mem_append, List.mem_singleton]
      by_cases hz : (⟨#[c]⟩ : Str) ∈ ks
      · rw [if_pos hz, hmem z]
        constructor
        · exact .inl
        · rintro (h | rfl)
          · exact h
          · exact (hmem _).mp hz
      · rw [if_neg hz, List.mem_append, List.mem_singleton, hmem z]
    · refine hR s'' k2 (Moved.trans W.gtrans ((hm.mono hsub).then_heap (Nat.le_succ _) fun b o hb e => ?_) hm'') hS'' hl'' hmem''
      rw [hsb.2 b (fun h : b = S => hb (by rw [h]; exact List.mem_cons_self))]; exact e
end
section
variable {prog : Program} {w : World} {A : Around} {E : Value → Shared → Prop} {s : Shared}
theorem code_set_newT (a : Value) {Q₁ : Value → Shared → Prop}
    (h : Q₁ (.ref s.heap.objs.size) { s with heap := s.heap.push { cls := .type "set", dict := none, data := .set #[] 0 (.fresh 0 0 (!w.params.followText "set-order")) } }) :
    codeAny (model prog w) A (.call (.builtin "set.__new__") ⟨[.type "set", a], []⟩) (wants Q₁ E) s := by
  refine codeAny_of_tree ?_
  show wpAny _ A.in1 (do checkBuiltinCall "set.__new__" ⟨[.type "set", a], []⟩; again (.builtin "set.__new__" ⟨[.type "set", a], []⟩)) _ _ s
  refine wpAny_bind (wpAny_of_eq (F.newCall_set_1 a) (wpAny_pure ⟨plainId_quiet F.plain_set_new _, codeAny_builtin F.entry_set_new ?_⟩))
  rw [Around.under_plainId F.plain_set_new _]
  unfold Builtin.«set.__new__» Builtin.Frozenset.newClass
  have hsub := sub_set_self
  obtain ⟨hp, g, d, tk, os⟩ := s
  dsimp only
  wp_walk
  refine wpAny_askSetting (wpAny_pure ?_)
  dsimp only
  simp only [newObj]
  refine wpAny_bind (wpAny_alloc (wpAny_pure ?_))
  exact wpAny_pure h
theorem TS_fresh {h : Heap} : TS prog w (h.push { cls := .type "set", dict := none, data := .set #[] 0 (.fresh 0 0 (!w.params.followText "set-order")) }) h.objs.size [] := by
  refine ⟨#[], 0, _, Heap.get?_push_size _ rfl, fun e he => by simp at he, by decide, by rfl, fun hb => ?_, fun h0 => absurd rfl h0, .nil, .nil⟩
  show (!w.params.followText "set-order") = true
  rw [hb]
  rfl
set_option maxRecDepth 100000 in
set_option maxHeartbeats 3200000 in
theorem call_set_str (x : Str) (t : Tok) {Q : Value → Shared → Prop} (hh : A.handled = none) (hb : x.cps.size + 1 < scanBound)
    (h : ∀ (h' : Heap) (tk : Nat) (ks : List Str), TS prog w h' s.heap.objs.size ks → ks.length ≤ x.cps.size → (∀ z, z ∈ ks ↔ z ∈ sgs x x.cps.size) →
      (∀ b o, b < s.heap.objs.size → s.heap.get? b = some o → h'.get? b = some o) → Q (.ref s.heap.objs.size) { s with heap := h', toks := tk }) :
    wpAny (model prog w) A (call (.type "set") [.str x t]) Q E s := by
  obtain ⟨c, tl, hmro⟩ := F.called_set.mro
  have hmade := F.called_set.made
  have hsub := F.called_set.sub
  refine wpAny_call (codeAny_of_tree ?_)
  show wpAny _ _ (callAny (.type "set") _) _ _ _
  refine wpAny_pure ⟨Code.quiet_builtin _ (by decide +kernel), codeAny_builtin F.entry_type_call ?_⟩
  rw [Around.under_plain (weight_type_call_type "set" [.str x t] []) rfl]
  have h1 := F.called_set.notType
  have h2 := F.called_set.canCreate
  have hct := F.typeCall_set_1 (.str x t)
  repeat (any_goals (first | assumption | wp_step))
  refine codeAny_mono (code_set_newT (.str x t) (E := E) (Q₁ := fun obj s₁ => obj = .ref s.heap.objs.size ∧ s₁ = { s with heap := s.heap.push { cls := .type "set", dict := none, data := .set #[] 0 (.fresh 0 0 (!w.params.followText "set-order")) } }) ⟨rfl, rfl⟩) fun r s₁ hr => ?_
  cases r with
  | error e => exact hr
  | ok fl =>
    cases fl with
    | ret obj =>
      obtain ⟨rfl, rfl⟩ := hr
      have hS : (s.heap.push { cls := .type "set", dict := none, data := .set #[] 0 (.fresh 0 0 (!w.params.followText "set-order")) }).get? s.heap.objs.size = some { cls := .type "set", dict := none, data := .set #[] 0 (.fresh 0 0 (!w.params.followText "set-order")) } := Heap.get?_push_size _ rfl
      have hTS : TS prog w (s.heap.push { cls := .type "set", dict := none, data := .set #[] 0 (.fresh 0 0 (!w.params.followText "set-order")) }) s.heap.objs.size [] := TS_fresh
      have hsz := Heap.size_push s.heap { cls := .type "set", dict := none, data := .set #[] 0 (.fresh 0 0 (!w.params.followText "set-order")) }
      have hkp : ∀ b o, s.heap.get? b = some o → (s.heap.push { cls := .type "set", dict := none, data := .set #[] 0 (.fresh 0 0 (!w.params.followText "set-order")) }).get? b = some o := fun b o e => Heap.get?_push_of_some _ e
      generalize s.heap.push { cls := .type "set", dict := none, data := .set #[] 0 (.fresh 0 0 (!w.params.followText "set-order")) } = g1 at hS hTS hsz hkp ⊢
      have hT : Shared.TypeIs { s with heap := g1 } (.ref s.heap.objs.size) "set" := ⟨_, hS, rfl⟩
      have hli := F.called_set.init.lookup
      have hbi := F.called_set.init.bind (.ref s.heap.objs.size)
      repeat (any_goals (first | assumption | wp_step))
      refine codeAny_mono (codeAny_call_builtin (R := wants (fun r s₂ => r = .none ∧ ∃ h' tk ks, s₂ = { s with heap := h', toks := tk } ∧
          TS prog w h' s.heap.objs.size ks ∧ ks.length ≤ x.cps.size ∧ (∀ z, z ∈ ks ↔ z ∈ sgs x x.cps.size) ∧
          (∀ b o, b < s.heap.objs.size → s.heap.get? b = some o → h'.get? b = some o)) E) F.called_set.init.plain F.entry_set_init (check_set_init_1 hT ?_)) fun r₂ s₂ hr₂ => ?_
      · have hsls := F.sub_str_set
        have hslf := F.sub_str_frozenset
        have hne : (Value.type "str" == Value.type "dict") = false := by decide
        unfold Builtin.«set.__init__» noKeywords Builtin.Frozenset.updateFrom
        generalize hPI : pyIter = PI
        wp_walk
        subst hPI
        refine wpAny_pyIter_str fun o St W hst => ?_
        refine wpAny_bind (wpAny_runValue ?_)
        have hh3 : A.in1.in1.in1.handled = none := by simp [hh]
        have hSf : s.heap.objs.size ∉ [g1.objs.size] := by
          rw [hsz]; simp only [List.mem_singleton]; exact Nat.ne_of_lt (Nat.lt_succ_self _)
        refine update_loop_str ((W _ hh3).toS) s.heap.objs.size hSf x (fun i v h => h) hb (x.cps.size - 0) 0 _ [] (by omega) (Nat.zero_le _) hst (hTS.at fun o e => Heap.get?_push_of_some _ e) (Nat.le_refl _) (by simp [sgs]) ?hR
        case hR =>
          intro s' ks' hm hS' hkl hmem
          obtain ⟨h', g', d', tk', os'⟩ := s'
          have eg : g' = s.gens := hm.gens
          have ed : d' = s.drawn := hm.drawn
          have eo : os' = s.os := hm.os
          subst eg; subst ed; subst eo
          show wpAny _ _ _ _ _ _
          refine wpAny_pure ?_
          show wpAny _ _ (ret Value.none) _ _ _
          refine wpAny_pure ⟨rfl, h', tk', ks', rfl, hS', hkl, hmem, fun b o hb e => ?_⟩
          refine hm.heap b o ?_ (Heap.get?_push_of_some _ (hkp b o e))
          simp only [List.mem_cons, List.mem_singleton, List.not_mem_nil, or_false, not_or]
          refine ⟨Nat.ne_of_lt hb, ?_⟩
          rw [hsz]
          exact Nat.ne_of_lt (Nat.lt_succ_of_lt hb)
      · cases r₂ with
        | error e => exact hr₂
        | ok fl₂ =>
          cases fl₂ with
          | ret r =>
            obtain ⟨rfl, h', tk, ks, rfl, hS', hkl, hmem, hk'⟩ := hr₂
            repeat (any_goals (first | assumption | wp_step))
            exact h _ _ ks hS' hkl hmem hk'
          | _ => exact hr₂.elim
    | _ => exact hr.elim
end
end PySem
namespace PySem
open PyProof.Rows (StrsAre)
theorem erase_perm {α : Type} : ∀ {l : List α} {i : Nat} {x : α}, l[i]? = some x → (x :: l.eraseIdx i).Perm l
  | a :: l, 0, x, h => by
    have : a = x := by simpa using h
    subst this
    exact .refl _
  | a :: l, i + 1, x, h => by
    have h' : l[i]? = some x := by simpa using h
    show (x :: a :: l.eraseIdx i).Perm (a :: l)
    exact (List.Perm.swap _ _ _).trans ((erase_perm h').cons a)
theorem pickGo_perm {α : Type} (f : Nat → Nat) : ∀ (fuel k : Nat) (left : List α) (out : Array α), left.length ≤ fuel → (pickOrder.go f fuel k left out).toList.Perm (out.toList ++ left)
  | 0, k, left, out, h => by
    have : left = [] := List.eq_nil_of_length_eq_zero (by omega)
    subst this
    rw [List.append_nil]
    exact .refl _
  | fuel + 1, k, left, out, h => by
    unfold pickOrder.go
    cases hl : left with
    | nil => simp
    | cons a l =>
      have hlt : f k % left.length < left.length := Nat.mod_lt _ (by rw [hl]; simp)
      have hx : left[f k % left.length]? = some (left[f k % left.length]) := List.getElem?_eq_getElem hlt
      rw [← hl, hx]
      dsimp only
      have he := erase_perm hx
      have hlen : (left.eraseIdx (f k % left.length)).length + 1 = left.length := by
        have := he.length_eq
        rwa [List.length_cons] at this
      refine (pickGo_perm f fuel (k + 1) _ _ (by omega)).trans ?_
      rw [Array.toList_push, List.append_assoc]
      exact List.Perm.append_left _ he
theorem pick_perm {α : Type} (f : Nat → Nat) (xs : Array α) : (pickOrder f xs).toList.Perm xs.toList := by
  unfold pickOrder
  exact pickGo_perm f xs.size 0 xs.toList #[] (by simp)
section
variable {M : Model} {A : Around} {E : Value → Shared → Prop}
theorem wpAny_choose {src : Source} {n : Nat} {s : Shared} {Q : Nat → Shared → Prop} (hn : n ≠ 0) (h : ∀ i d, i < n → Q i { s with drawn := d }) : wpAny M A (choose src n) Q E s := by
  intro p st hs
  unfold choose
  rw [Sem.wp_choose]
  refine ⟨hn, ?_⟩
  exact h _ _ (Nat.mod_lt _ (Nat.pos_of_ne_zero hn))
theorem drawOrder_wp {α : Type} : ∀ (n : Nat) (xs : List α) (s : Shared) (Q : List α → Shared → Prop), xs.length ≤ n → (∀ ys d, ys.Perm xs → Q ys { s with drawn := d }) → wpAny M A (drawOrder n xs) Q E s
  | 0, xs, s, Q, h, hq => by
    have : xs = [] := List.eq_nil_of_length_eq_zero (by omega)
    subst this
    unfold drawOrder
    exact wpAny_pure (hq [] s.drawn (.refl _))
  | n + 1, [], s, Q, h, hq => by
    unfold drawOrder
    exact wpAny_pure (hq [] s.drawn (.refl _))
  | n + 1, x :: xs, s, Q, h, hq => by
    unfold drawOrder
    refine wpAny_bind (wpAny_choose (by simp) fun i d hi => ?_)
    have hx : (x :: xs)[i]? = some ((x :: xs)[i]) := List.getElem?_eq_getElem hi
    rw [hx]
    dsimp only
    have he := erase_perm hx
    have hlen : ((x :: xs).eraseIdx i).length + 1 = (x :: xs).length := by
      have := he.length_eq
      rwa [List.length_cons] at this
    refine wpAny_bind (drawOrder_wp n _ _ _ (by simp only [List.length_cons] at hlen h; omega) fun ys d' hp => ?_)
    exact wpAny_pure (hq _ _ ((hp.cons _).trans he))
end
namespace F
theorem slot_setiter_next : Slot "set_iterator" "__next__" "set_iterator.__next__" :=
  .of (owner := "set_iterator") (n := "__next__") (by rw [typeLookup_type, builtinLookup_eq_fast]; kernel_rfl) (by decide +kernel) (by decide +kernel) (by decide +kernel)
    (by first | exact .inl (by decide +kernel) | exact .inr (by decide +kernel)) (by rw [isSubtype_type]; kernel_rfl)
theorem entry_setiter_next : entryFor table "set_iterator.__next__" = some Builtin.«set_iterator.__next__» := entryFor_of_tree (by kernel_rfl)
theorem args_setiter_next (a : Value) : argsOk "set_iterator.__next__" ⟨[a], []⟩ := by unfold argsOk; kernel_rfl
theorem slot_setiter_iter : Slot "set_iterator" "__iter__" "set_iterator.__iter__" :=
  .of (owner := "set_iterator") (n := "__iter__") (by rw [typeLookup_type, builtinLookup_eq_fast]; kernel_rfl) (by decide +kernel) (by decide +kernel) (by decide +kernel)
    (by first | exact .inl (by decide +kernel) | exact .inr (by decide +kernel)) (by rw [isSubtype_type]; kernel_rfl)
theorem entry_set_iter : entryFor table "set.__iter__" = some Builtin.«frozenset.__iter__» :=
  entryFor_alias (id' := "frozenset.__iter__") (by kernel_rfl) rfl (by decide +kernel) (by kernel_rfl)
theorem args_set_iter (a : Value) : argsOk "set.__iter__" ⟨[a], []⟩ := by unfold argsOk; kernel_rfl
end F
end PySem
namespace PySem
open PyProof.Rows (StrsAre)
abbrev SIt (h : Heap) (I : Addr) (f : Value) (i : Nat) (S : Addr) (n ep : Nat) : Prop := h.get? I = some { cls := .type "set_iterator", dict := none, data := .fields #[f, .int i 0, .ref S, .int n 0, .int ep 0], slots := #[] }
abbrev SOb (h : Heap) (S : Addr) (es : Array (Int × Value)) (ep : Nat) (t : SetTable) : Prop := h.get? S = some { cls := .type "set", dict := none, data := .set es ep t, slots := #[] }
section
variable {prog : Program} {w : World} {A : Around} {E : Value → Shared → Prop} {s : Shared} {I S T : Addr} {i ep : Nat} {es : Array (Int × Value)} {t : SetTable} {ps : List Nat}
theorem stop_wp {α : Type} {Q : α → Shared → Prop} (hh : A.handled = none) (h : ∀ (h' : Heap) (e : Addr), (∀ b o, s.heap.get? b = some o → h'.get? b = some o) → (∃ o, h'.get? e = some o ∧ o.cls = .type "StopIteration") → E (.ref e) { s with heap := h' }) :
    wpAny (model prog w) A (do raiseNew (← newExc (.type "StopIteration") []) : Sem α) Q E s := by
  refine wpAny_bind ?_
  simp only [newExc, newTuple]
  refine wpAny_bind (wpAny_newObj_type ?_ (by size_fits))
  refine wpAny_bind (m := firstArgMember _ _) (wpAny_of_eq (a := Value.none) (by first | rfl | (simp only [firstArgMember]; rfl)) ?_)
  refine wpAny_newObj_type ?_ (by size_fits)
  refine wpAny_raiseNew_none hh ?_
  exact h _ _ (fun b o e => Heap.get?_push_of_some _ (Heap.get?_push_of_some _ e)) ⟨_, Heap.get?_push_size _ rfl, rfl⟩
theorem nextD_item {p : Nat} {hx : Int} {x : Value} {n : Nat} {Q : Option Value → Shared → Prop} (hit : SIt s.heap I (.ref T) i S es.size ep) (hS : SOb s.heap S es ep t) (hf : t.fits es.size = true)
    (hT : s.heap.get? T = some { cls := .type "tuple", dict := none, data := .seq (ps.map fun (p : Nat) => Value.int p 0).toArray n, slots := #[] }) (hp : ps[i]? = some p) (he : es[p]? = some (hx, x))
    (hQ : ∀ h' : Heap, SIt h' I (.ref T) (i + 1) S es.size ep → Heap.SameBut I s.heap h' → Q (some x) { s with heap := h' }) :
    wpAny (model prog w) A (pyNext (.ref I)) Q E s := by
  have hTy : s.TypeIs (.ref I) "set_iterator" := ⟨_, hit, rfl⟩
  refine wpAny_bind (wpAny_attempt (wpAny_callSpecial?_slot hTy F.slot_setiter_next (wpAny_call_entry F.slot_setiter_next hTy F.entry_setiter_next ?_ (F.args_setiter_next _))))
  refine wpAny_bind (show wpAny _ _ (pure (Value.ref I, ([] : List Value))) _ _ _ from wpAny_pure ?_)
  refine wpAny_bind (wpAny_fieldsOf hit rfl ?_)
  refine wpAny_bind (wpAny_setEntries_of hS rfl hf ?_)
  refine wpAny_ite_false (by simp) ?_
  refine wpAny_bind (wpAny_seqItems hT rfl ?_)
  have e1 : (ps.map fun (p : Nat) => Value.int p 0).toArray[(i : Int).toNat]? = some (.int p 0) := by
    rw [Int.toNat_natCast, List.getElem?_toArray, List.getElem?_map, hp]; rfl
  simp only [e1]
  refine wpAny_bind ?_
  unfold setNextDrawn
  refine wpAny_bind (wpAny_setState_of hS rfl hf ?_)
  refine wpAny_ite_false (by simp) ?_
  simp only [Int.toNat_natCast, he]
  refine wpAny_pure ?_
  refine wpAny_bind (wpAny_setField hit rfl (by simp) (wpAny_pure ⟨x, rfl, wpAny_pure (hQ _ ?_ (Heap.SameBut.update ..))⟩))
  exact Heap.get?_update_self (Obj.mapFields (·.setIfInBounds 1 (rawInt ((i : Int) + 1)))) hit (Obj.isFreed_of_fields (Obj.data_mapFields rfl _))
theorem nextD_end {n : Nat} {Q : Option Value → Shared → Prop} (hh : A.handled = none) (hit : SIt s.heap I (.ref T) i S es.size ep) (hS : SOb s.heap S es ep t) (hf : t.fits es.size = true)
    (hT : s.heap.get? T = some { cls := .type "tuple", dict := none, data := .seq (ps.map fun (p : Nat) => Value.int p 0).toArray n, slots := #[] }) (hp : ps[i]? = none)
    (hQ : ∀ h' : Heap, (∀ b o, b ≠ I → s.heap.get? b = some o → h'.get? b = some o) → Q none { s with heap := h' }) :
    wpAny (model prog w) A (pyNext (.ref I)) Q E s := by
  have hTy : s.TypeIs (.ref I) "set_iterator" := ⟨_, hit, rfl⟩
  refine wpAny_bind (wpAny_attempt (wpAny_callSpecial?_slot hTy F.slot_setiter_next (wpAny_call_entry F.slot_setiter_next hTy F.entry_setiter_next ?_ (F.args_setiter_next _))))
  refine wpAny_bind (show wpAny _ _ (pure (Value.ref I, ([] : List Value))) _ _ _ from wpAny_pure ?_)
  refine wpAny_bind (wpAny_fieldsOf hit rfl ?_)
  refine wpAny_bind (wpAny_setEntries_of hS rfl hf ?_)
  refine wpAny_ite_false (by simp) ?_
  refine wpAny_bind (wpAny_seqItems hT rfl ?_)
  have e1 : (ps.map fun (p : Nat) => Value.int p 0).toArray[(i : Int).toNat]? = none := by
    rw [Int.toNat_natCast, List.getElem?_toArray, List.getElem?_map, hp]; rfl
  simp only [e1]
  refine wpAny_bind (wpAny_setField hit rfl (by simp) ?_)
  have h1 := Heap.get?_update_self (Obj.mapFields (·.setIfInBounds 0 (rawInt 0))) hit (Obj.isFreed_of_fields (Obj.data_mapFields rfl _))
  refine wpAny_bind (wpAny_setField h1 (Obj.data_mapFields rfl _) (by simp) ?_)
  refine stop_wp hh fun h' e hk ⟨o, ho, hc⟩ => ?_
  refine wpAny_bind (wpAny_isInstance ⟨o, ho, hc⟩ isSubtype_stop (wpAny_pure (hQ h' fun b ob hb q => hk b ob ?_)))
  rw [Heap.get?_update_other _ _ (Ne.symm hb), Heap.get?_update_other _ _ (Ne.symm hb)]
  exact q
/-- by number: what comes next is told by setNext -/
theorem nextN_item {slot next : Nat} {x : Value} {Q : Option Value → Shared → Prop} (hit : SIt s.heap I (.int slot 0) i S es.size ep) (hS : SOb s.heap S es ep t) (hf : t.fits es.size = true)
    (hn : ∀ (R : Option (Value × Nat) → Shared → Prop) (E' : Value → Shared → Prop) (B : Around), R (some (x, next)) s → wpAny (model prog w) B (setNext S slot i ep) R E' s)
    (hQ : ∀ h' : Heap, SIt h' I (.int next 0) (i + 1) S es.size ep → Heap.SameBut I s.heap h' → Q (some x) { s with heap := h' }) :
    wpAny (model prog w) A (pyNext (.ref I)) Q E s := by
  have hTy : s.TypeIs (.ref I) "set_iterator" := ⟨_, hit, rfl⟩
  refine wpAny_bind (wpAny_attempt (wpAny_callSpecial?_slot hTy F.slot_setiter_next (wpAny_call_entry F.slot_setiter_next hTy F.entry_setiter_next ?_ (F.args_setiter_next _))))
  refine wpAny_bind (show wpAny _ _ (pure (Value.ref I, ([] : List Value))) _ _ _ from wpAny_pure ?_)
  refine wpAny_bind (wpAny_fieldsOf hit rfl ?_)
  refine wpAny_bind (wpAny_setEntries_of hS rfl hf ?_)
  refine wpAny_ite_false (by simp) ?_
  show wpAny _ _ (setNext S (slot : Int).toNat (i : Int).toNat (ep : Int).toNat >>= _) _ _ _
  rw [Int.toNat_natCast, Int.toNat_natCast, Int.toNat_natCast]
  refine wpAny_bind (hn _ _ _ ?_)
  refine wpAny_bind (wpAny_setField hit rfl (by simp) ?_)
  have h1 : SIt (s.heap.update I (Obj.mapFields (·.setIfInBounds 0 (rawInt next)))) I (.int next 0) i S es.size ep := Heap.get?_update_self (Obj.mapFields (·.setIfInBounds 0 (rawInt next))) hit (Obj.isFreed_of_fields (Obj.data_mapFields rfl _))
  refine wpAny_bind (wpAny_setField h1 rfl (by simp) (wpAny_pure ⟨x, rfl, wpAny_pure (hQ _ ?_ ((Heap.SameBut.update ..).trans (Heap.SameBut.update ..)))⟩))
  exact Heap.get?_update_self (Obj.mapFields (·.setIfInBounds 1 (rawInt ((i : Int) + 1)))) h1 (Obj.isFreed_of_fields (Obj.data_mapFields rfl _))
theorem nextN_end {slot : Nat} {Q : Option Value → Shared → Prop} (hh : A.handled = none) (hit : SIt s.heap I (.int slot 0) i S es.size ep) (hS : SOb s.heap S es ep t) (hf : t.fits es.size = true)
    (hn : ∀ (R : Option (Value × Nat) → Shared → Prop) (E' : Value → Shared → Prop) (B : Around), R none s → wpAny (model prog w) B (setNext S slot i ep) R E' s)
    (hQ : ∀ h' : Heap, (∀ b o, b ≠ I → s.heap.get? b = some o → h'.get? b = some o) → Q none { s with heap := h' }) :
    wpAny (model prog w) A (pyNext (.ref I)) Q E s := by
  have hTy : s.TypeIs (.ref I) "set_iterator" := ⟨_, hit, rfl⟩
  refine wpAny_bind (wpAny_attempt (wpAny_callSpecial?_slot hTy F.slot_setiter_next (wpAny_call_entry F.slot_setiter_next hTy F.entry_setiter_next ?_ (F.args_setiter_next _))))
  refine wpAny_bind (show wpAny _ _ (pure (Value.ref I, ([] : List Value))) _ _ _ from wpAny_pure ?_)
  refine wpAny_bind (wpAny_fieldsOf hit rfl ?_)
  refine wpAny_bind (wpAny_setEntries_of hS rfl hf ?_)
  refine wpAny_ite_false (by simp) ?_
  show wpAny _ _ (setNext S (slot : Int).toNat (i : Int).toNat (ep : Int).toNat >>= _) _ _ _
  rw [Int.toNat_natCast, Int.toNat_natCast, Int.toNat_natCast]
  refine wpAny_bind (hn _ _ _ ?_)
  refine wpAny_bind (wpAny_setField hit rfl (by simp) ?_)
  refine stop_wp hh fun h' e hk ⟨o, ho, hc⟩ => ?_
  refine wpAny_bind (wpAny_isInstance ⟨o, ho, hc⟩ isSubtype_stop (wpAny_pure (hQ h' fun b ob hb q => hk b ob ?_)))
  rw [Heap.get?_update_other _ _ (Ne.symm hb)]
  exact q
end
end PySem
namespace PySem
open PyProof.Rows (StrsAre)
section
variable {prog : Program} {w : World} {A : Around} {E : Value → Shared → Prop} {s : Shared} {I S T : Addr} {i ep : Nat} {es : Array (Int × Value)} {t : SetTable} {ps : List Nat}
theorem setNext_text {slot : Nat} {R : Option (Value × Nat) → Shared → Prop} (hby : w.params.followText "set-order" = true) (hS : SOb s.heap S es ep t) (hf : t.fits es.size = true)
    (h : R (((pickOrder (w.params.setOrder S ep) es)[i]?).map fun e => (e.2, slot)) s) : wpAny (model prog w) A (setNext S slot i ep) R E s := by
  unfold setNext
  refine wpAny_bind (wpAny_setState_of hS rfl hf ?_)
  refine wpAny_bind ?_
  unfold setsByText
  refine wpAny_bind (wpAny_askSetting (wpAny_pure ?_))
  refine wpAny_ite_true (decide_eq_true hby) ?_
  refine wpAny_ite_false (by simp) ?_
  refine wpAny_bind ?_
  unfold setWalk
  refine wpAny_bind (wpAny_setState_of hS rfl hf ?_)
  refine wpAny_bind ?_
  unfold setsByText
  refine wpAny_bind (wpAny_askSetting (wpAny_pure ?_))
  refine wpAny_ite_true (decide_eq_true hby) ?_
  refine wpAny_bind (wpAny_askSetting (wpAny_pure ?_))
  exact wpAny_pure h
theorem setNext_one {slot : Nat} {R : Option (Value × Nat) → Shared → Prop} (hby : w.params.followText "set-order" = false) (hS : SOb s.heap S es ep t) (hf : t.fits es.size = true) (h1 : es.size ≤ 1) (hl : t.led = true)
    (h : R (match es[SetTable.below t.place slot]?, t.place[SetTable.below t.place slot]? with
      | some (_, x), some j => some (x, j + 1)
      | _, _ => none) s) : wpAny (model prog w) A (setNext S slot i ep) R E s := by
  unfold setNext
  refine wpAny_bind (wpAny_setState_of hS rfl hf ?_)
  refine wpAny_bind ?_
  unfold setsByText
  refine wpAny_bind (wpAny_askSetting (wpAny_pure ?_))
  refine wpAny_ite_false (decide_eq_false (by show ¬ (w.params.followText "set-order" = true); rw [hby]; decide)) ?_
  refine wpAny_ite_false (c := ((!t.plain && decide (es.size > 1)) = true)) (by simp; intro _; omega) ?_
  refine wpAny_bind (show wpAny _ _ (if (!t.led && !es.isEmpty) = true then unsupported "set:maker-not-led" else pure ()) _ _ _ from ?_)
  refine wpAny_ite_false (by simp [hl]) (wpAny_pure ?_)
  exact wpAny_pure h
theorem arr_one {a : Array Nat} (h : a.size = 1) : ∃ j, a = #[j] := by
  obtain ⟨l⟩ := a
  have h' : l.length = 1 := by simpa using h
  match l, h' with
  | [j], _ => exact ⟨j, rfl⟩
theorem below_one {a j : Nat} : SetTable.below #[a] j = if a < j then 1 else 0 := by
  show SetTable.below.go #[a] j 1 0 1 = _
  unfold SetTable.below.go
  simp only [show (0 : Nat) < 1 from by decide, if_true, show (0 + 1) / 2 = 0 from by decide]
  show (if a < j then SetTable.below.go #[a] j 0 1 1 else SetTable.below.go #[a] j 0 0 0) = _
  split <;> rfl
inductive SMode where
  | D (T : Addr) (n : Nat) (ps : List Nat) | B | U
def SMode.first (t : SetTable) : SMode → Nat → Value
  | .D T _ _, _ => .ref T
  | .B, _ => .int 0 0
  | .U, 0 => .int ((0 : Nat) : Int) 0
  | .U, _ + 1 => .int ((t.place.getD 0 0 + 1 : Nat) : Int) 0
def SMode.tup : SMode → Heap → Prop
  | .D T n ps, h => h.get? T = some { cls := .type "tuple", dict := none, data := .seq (ps.map fun (p : Nat) => Value.int p 0).toArray n, slots := #[] }
  | _, _ => True
def SMode.fp (I S : Addr) : SMode → List Addr
  | .D T _ _ => [I, S, T]
  | _ => [I, S]
def SMode.ord (w : World) (S : Addr) (ep : Nat) (es : Array (Int × Value)) : SMode → List (Int × Value)
  | .D _ _ ps => ps.filterMap fun p => es[p]?
  | .B => (pickOrder (w.params.setOrder S ep) es).toList
  | .U => es.toList
/-- what must hold for a mode -/
def SMode.ok (w : World) (t : SetTable) (es : Array (Int × Value)) : SMode → Prop
  | .D _ _ ps => ps.Perm (List.range es.size)
  | .B => w.params.followText "set-order" = true
  | .U => w.params.followText "set-order" = false ∧ es.size ≤ 1 ∧ t.led = true
theorem ord_D_at {ps : List Nat} (hp : ps.Perm (List.range es.size)) : ∀ {i p : Nat}, ps[i]? = some p → ∃ e, es[p]? = some e ∧ (ps.filterMap fun p => es[p]?)[i]? = some e := by
  have hall : ∀ p ∈ ps, ∃ e, es[p]? = some e := fun p h => by
    have : p < es.size := by simpa using hp.mem_iff.mp h
    exact ⟨es[p], by simp [this]⟩
  clear hp
  induction ps with
  | nil => intro i p h; simp at h
  | cons a l ih =>
    intro i p h
    obtain ⟨e, he⟩ := hall a (by simp)
    rw [List.filterMap_cons, he]
    cases i with
    | zero =>
      have : a = p := by simpa using h
      subst this
      exact ⟨e, he, rfl⟩
    | succ i => exact ih (fun p hp => hall p (by simp [hp])) (by simpa using h)
theorem ord_D_len {ps : List Nat} (hp : ps.Perm (List.range es.size)) : (ps.filterMap fun p => es[p]?).length = ps.length := by
  have hall : ∀ p ∈ ps, ∃ e, es[p]? = some e := fun p h => by
    have : p < es.size := by simpa using hp.mem_iff.mp h
    exact ⟨es[p], by simp [this]⟩
  clear hp
  induction ps with
  | nil => rfl
  | cons a l ih =>
    obtain ⟨e, he⟩ := hall a (by simp)
    rw [List.filterMap_cons, he, List.length_cons, List.length_cons, ih fun p hp => hall p (by simp [hp])]
theorem range_map (es : Array (Int × Value)) : (List.range es.size).filterMap (fun p => es[p]?) = es.toList := by
  apply List.ext_getElem?
  intro i
  by_cases hi : i < es.size
  · obtain ⟨e, he, h⟩ := ord_D_at (es := es) (ps := List.range es.size) (.refl _) (i := i) (p := i) (List.getElem?_range hi)
    rw [h, ← he]
    simp
  · rw [List.getElem?_eq_none (by rw [ord_D_len (.refl _), List.length_range]; omega), List.getElem?_eq_none (by simpa using hi)]
theorem ord_perm {m : SMode} (h : m.ok w t es) : (m.ord w S ep es).Perm es.toList := by
  cases m with
  | D T n ps =>
    have h' : ps.Perm (List.range es.size) := h
    have := h'.filterMap fun p => es[p]?
    rw [range_map] at this
    exact this
  | B => exact pick_perm _ _
  | U => exact .refl _
theorem walks_set {m : SMode} (hh : A.handled = none) (hf : t.fits es.size = true) (hm : m.ok w t es) (nI : I ≠ S) (nT : ∀ T n ps, m = .D T n ps → T ≠ I) :
    WalksS prog w A I (m.fp I S) [I] (fun a b => b = a) es.size (fun i v => ∃ hx, (m.ord w S ep es)[i]? = some (hx, v)) (fun i s => SOb s.heap S es ep t ∧ SIt s.heap I (m.first t i) i S es.size ep ∧ m.tup s.heap) where
  sub := fun b hb => by cases List.mem_singleton.mp hb; cases m <;> simp [SMode.fp]
  grefl := fun _ => rfl
  gtrans := fun a b c h1 h2 => h2.trans h1
  frame := fun i s h' tk st _ hk => by
    obtain ⟨a, b, c⟩ := st
    refine ⟨hk S (by cases m <;> simp [SMode.fp]) _ a, hk I (by cases m <;> simp [SMode.fp]) _ b, ?_⟩
    cases m with
    | D T n ps => exact hk T (by simp [SMode.fp]) _ c
    | B => trivial
    | U => trivial
  item := fun i s Q E hi st hQ => by
    obtain ⟨a, b, c⟩ := st
    have mv : ∀ h' : Heap, Heap.SameBut I s.heap h' → Moved [I] (fun a b => b = a) s { s with heap := h' } := fun h' sb => ⟨fun x o hx e => sb.extBut x o (fun z => hx (by simp [z])) e, rfl, rfl, rfl, Nat.le_refl _⟩
    have kS : ∀ h' : Heap, Heap.SameBut I s.heap h' → SOb h' S es ep t := fun h' sb => sb.extBut _ _ (Ne.symm nI) a
    cases m with
    | D T n ps =>
      have hps : i < ps.length := by rw [(show ps.Perm (List.range es.size) from hm).length_eq, List.length_range]; exact hi
      obtain ⟨⟨hx, x⟩, he, ho⟩ := ord_D_at (show ps.Perm (List.range es.size) from hm) (List.getElem?_eq_getElem hps)
      refine nextD_item (ps := ps) b a hf c (List.getElem?_eq_getElem hps) he fun h' hit sb => hQ x _ ⟨hx, ho⟩ ⟨kS h' sb, hit, sb.extBut _ _ (nT T n ps rfl) c⟩ (mv h' sb)
    | B =>
      have hlen : (pickOrder (w.params.setOrder S ep) es).size = es.size := by
        have := (pick_perm (w.params.setOrder S ep) es).length_eq
        simpa using this
      have hg : (pickOrder (w.params.setOrder S ep) es)[i]? = some ((pickOrder (w.params.setOrder S ep) es)[i]'(by omega)) := by simp [hlen, hi]
      refine nextN_item (slot := 0) (next := 0) (x := ((pickOrder (w.params.setOrder S ep) es)[i]'(by omega)).2) b a hf (fun R E' B' h => setNext_text hm a hf (by rw [hg]; exact h)) fun h' hit sb => hQ _ _ ⟨((pickOrder (w.params.setOrder S ep) es)[i]'(by omega)).1, ?_⟩ ⟨kS h' sb, hit, trivial⟩ (mv h' sb)
      show (pickOrder (w.params.setOrder S ep) es).toList[i]? = _
      rw [Array.getElem?_toList, hg]
    | U =>
      obtain ⟨hby, h1, hl⟩ : w.params.followText "set-order" = false ∧ es.size ≤ 1 ∧ t.led = true := hm
      have hi0 : i = 0 := by omega
      subst hi0
      have hes : es.size = 1 := by omega
      have hps : t.place.size = 1 := by
        simp only [SetTable.fits, Bool.and_eq_true, beq_iff_eq] at hf
        rw [hf.1, hes]
      obtain ⟨j, hj⟩ := arr_one hps
      have he : es[0]? = some es[0] := by simp [hes]
      have hb0 : SetTable.below t.place 0 = 0 := by rw [hj, below_one]; rfl
      refine nextN_item (slot := 0) (next := j + 1) (x := es[0].2) b a hf (fun R E' B' h => setNext_one hby a hf h1 hl (by rw [hb0, he, hj]; exact h)) fun h' hit sb => hQ _ _ ⟨es[0].1, ?_⟩ ⟨kS h' sb, ?_, trivial⟩ (mv h' sb)
      · show es.toList[0]? = _
        rw [Array.getElem?_toList, he]
      · show SIt h' I (.int ((t.place.getD 0 0 + 1 : Nat) : Int) 0) 1 S es.size ep
        rw [hj]
        exact hit
  done := fun s Q E st hQ => by
    obtain ⟨a, b, c⟩ := st
    have mv : ∀ h' : Heap, (∀ b o, b ≠ I → s.heap.get? b = some o → h'.get? b = some o) → Moved [I] (fun a b => b = a) s { s with heap := h' } := fun h' sb => ⟨fun x o hx e => sb x o (fun z => hx (by simp [z])) e, rfl, rfl, rfl, Nat.le_refl _⟩
    cases m with
    | D T n ps =>
      have hps : ps.length = es.size := by rw [(show ps.Perm (List.range es.size) from hm).length_eq, List.length_range]
      exact nextD_end (ps := ps) hh b a hf c (List.getElem?_eq_none (by omega)) fun h' k => hQ _ (mv h' k)
    | B =>
      have hlen : (pickOrder (w.params.setOrder S ep) es).size = es.size := by
        have := (pick_perm (w.params.setOrder S ep) es).length_eq
        simpa using this
      exact nextN_end (slot := 0) hh b a hf (fun R E' B' h => setNext_text hm a hf (by rw [show (pickOrder (w.params.setOrder S ep) es)[es.size]? = none from by simp [hlen]]; exact h)) fun h' k => hQ _ (mv h' k)
    | U =>
      obtain ⟨hby, h1, hl⟩ : w.params.followText "set-order" = false ∧ es.size ≤ 1 ∧ t.led = true := hm
      have hps : t.place.size = es.size := by
        simp only [SetTable.fits, Bool.and_eq_true, beq_iff_eq] at hf
        exact hf.1
      by_cases h0 : es.size = 0
      · have hb : SIt s.heap I (.int ((0 : Nat) : Int) 0) es.size S es.size ep := by
          have : SMode.first t .U es.size = .int ((0 : Nat) : Int) 0 := by rw [h0]; rfl
          rw [this] at b; exact b
        refine nextN_end (slot := 0) hh hb a hf (fun R E' B' h => setNext_one hby a hf h1 hl ?_) fun h' k => hQ _ (mv h' k)
        rw [show es[SetTable.below t.place 0]? = none from by rw [Array.getElem?_eq_none]; omega]
        exact h
      · have hes : es.size = 1 := by omega
        obtain ⟨j, hj⟩ := arr_one (hps.trans hes)
        have hb : SIt s.heap I (.int ((j + 1 : Nat) : Int) 0) es.size S es.size ep := by
          have : SMode.first t .U es.size = .int ((j + 1 : Nat) : Int) 0 := by rw [hes]; show Value.int ((t.place.getD 0 0 + 1 : Nat) : Int) 0 = _; rw [hj]; rfl
          rw [this] at b; exact b
        refine nextN_end (slot := j + 1) hh hb a hf (fun R E' B' h => setNext_one hby a hf h1 hl ?_) fun h' k => hQ _ (mv h' k)
        rw [hj, below_one, if_pos (Nat.lt_succ_self _), show es[1]? = none from by rw [Array.getElem?_eq_none]; omega]
        exact h
  self := fun i s Q E st hQ => by
    obtain ⟨a, b, c⟩ := st
    have hT : s.TypeIs (.ref I) "set_iterator" := ⟨_, b, rfl⟩
    refine wpAny_pyIter_slot hT F.slot_setiter_iter (wpAny_call_entry F.slot_setiter_iter hT (show entryFor table "set_iterator.__iter__" = some Builtin.«dict_keyiterator.__iter__» from entryFor_alias (id' := "dict_keyiterator.__iter__") (by kernel_rfl) rfl (by decide +kernel) (by kernel_rfl)) ?_ (by unfold argsOk; kernel_rfl))
    show wpAny _ _ (ret (.ref I)) _ _ s
    exact wpAny_pure ⟨_, rfl, "set_iterator", _, hT, F.slot_setiter_next.lookup, hQ⟩
end
end PySem
namespace PySem
open PyProof.Rows (StrsAre)
section
variable {prog : Program} {w : World} {A : Around} {E : Value → Shared → Prop} {s : Shared} {S : Addr} {ks : List Str}
/-- the iterator of a set of texts -/
theorem pyIter_set {Q : Value → Shared → Prop} {es : Array (Int × Value)} {ep : Nat} {t : SetTable} (ho : SOb s.heap S es ep t) (hf : t.fits es.size = true) (hb : es.size < scanBound)
    (hled : w.params.followText "set-order" = false → t.led = true) (hpl : es.size ≠ 0 → t.plain = false)
    (hQ : ∀ (m : SMode) (I : Addr) (h' : Heap) (d : Drawn), m.ok w t es → I ≠ S → (∀ T n ps, m = .D T n ps → T ≠ I) → (∀ b ∈ m.fp I S, b < h'.objs.size) → s.heap.objs.size ≤ I →
      (∀ b o, s.heap.get? b = some o → h'.get? b = some o) → SOb h' S es ep t → SIt h' I (m.first t 0) 0 S es.size ep → m.tup h' → Q (.ref I) { s with heap := h', drawn := d }) :
    wpAny (model prog w) A (pyIter (.ref S)) Q E s := by
  have hT : s.TypeIs (.ref S) "set" := ⟨_, ho, rfl⟩
  have hlt : S < s.heap.objs.size := Heap.lt_size ho
  refine wpAny_pyIter_slot hT F.slot_set_iter (wpAny_call_entry F.slot_set_iter hT F.entry_set_iter ?_ (F.args_set_iter _))
  unfold Builtin.«frozenset.__iter__» Builtin.Frozenset.slot0
  refine wpAny_bind (wpAny_bind (show wpAny _ _ (pure (Value.ref S, ([] : List Value))) _ _ _ from wpAny_pure (wpAny_pure ?_)))
  refine wpAny_bind ?_
  unfold Builtin.Frozenset.sizeOf
  refine wpAny_bind (wpAny_setEntries_of ho rfl hf (wpAny_pure ?_))
  refine wpAny_bind ?_
  unfold setDrawn
  refine wpAny_bind (wpAny_setState_of ho rfl hf ?_)
  refine wpAny_bind ?_
  unfold setsByText
  refine wpAny_bind (wpAny_askSetting (wpAny_pure ?_))
  refine wpAny_pure ?_
  have fin : ∀ (f : Value) (m : SMode) (h1 : Heap) (d : Drawn), m.ok w t es → s.heap.objs.size ≤ h1.objs.size → (∀ b o, s.heap.get? b = some o → h1.get? b = some o) → f = m.first t 0 → (∀ T n ps, m = .D T n ps → T < h1.objs.size) → m.tup h1 →
      wpAny (model prog w) A.in1 (do ret (← newFields "set_iterator" [f, rawInt 0, .ref S, rawInt es.size, rawInt (← setEpoch S)])) (fun fin s' => ∃ v, fin = .done (.ret v) ∧ ∃ T' r, s'.TypeIs v T' ∧ typeLookup (.type T') "__next__" = pure (some r) ∧ Q v s') E { s with heap := h1, drawn := d } := by
    intro f m h1 d hm hsz hk e hTs htup
    subst e
    have ho1 : SOb h1 S es ep t := hk _ _ ho
    refine wpAny_bind (wpAny_setEpoch_of (s := { s with heap := h1, drawn := d }) ho1 rfl hf ?_)
    have kp : ∀ b o, h1.get? b = some o → (h1.push { cls := .type "set_iterator", dict := none, data := .fields #[m.first t 0, .int 0 0, .ref S, .int es.size 0, .int ep 0], slots := #[] }).get? b = some o := fun b o q => Heap.get?_push_of_some _ q
    have hI : SIt (h1.push { cls := .type "set_iterator", dict := none, data := .fields #[m.first t 0, .int 0 0, .ref S, .int es.size 0, .int ep 0], slots := #[] }) h1.objs.size (m.first t 0) 0 S es.size ep := Heap.get?_push_size _ rfl
    refine wpAny_bind (wpAny_newObj_type (wpAny_pure ⟨_, rfl, "set_iterator", _, ⟨_, hI, rfl⟩, F.slot_setiter_next.lookup, ?_⟩) (by size_fits))
    refine hQ m h1.objs.size _ d hm (Nat.ne_of_gt (Nat.lt_of_lt_of_le hlt hsz)) (fun T n ps e => Nat.ne_of_lt (hTs T n ps e)) (fun b hb => ?_) hsz (fun b o q => kp b o (hk b o q)) (kp _ _ ho1) hI ?_
    · rw [Heap.size_push]
      cases m with
      | D T n ps =>
        have hb' : b = h1.objs.size ∨ b = S ∨ b = T := by simpa [SMode.fp] using hb
        rcases hb' with rfl | rfl | rfl
        · exact Nat.lt_succ_self _
        · exact Nat.lt_succ_of_lt (Nat.lt_of_lt_of_le hlt hsz)
        · exact Nat.lt_succ_of_lt (hTs _ _ _ rfl)
      | B =>
        have hb' : b = h1.objs.size ∨ b = S := by simpa [SMode.fp] using hb
        rcases hb' with rfl | rfl
        · exact Nat.lt_succ_self _
        · exact Nat.lt_succ_of_lt (Nat.lt_of_lt_of_le hlt hsz)
      | U =>
        have hb' : b = h1.objs.size ∨ b = S := by simpa [SMode.fp] using hb
        rcases hb' with rfl | rfl
        · exact Nat.lt_succ_self _
        · exact Nat.lt_succ_of_lt (Nat.lt_of_lt_of_le hlt hsz)
    · cases m with
      | D T n ps => exact kp _ _ htup
      | B => trivial
      | U => trivial
  by_cases hby : w.params.followText "set-order" = true
  · refine wpAny_ite_false (decide_eq_false (show ¬ ((!w.params.followText "set-order" && (!t.plain && decide (es.size > 1))) = true) from by rw [hby]; simp)) ?_
    exact wpAny_bind (wpAny_pure (fin (rawInt 0) .B s.heap s.drawn hby (Nat.le_refl _) (fun b o q => q) rfl (fun T n ps e => by cases e) trivial))
  · have hby' : w.params.followText "set-order" = false := by simpa using hby
    by_cases h1 : es.size ≤ 1
    · refine wpAny_ite_false (decide_eq_false (show ¬ ((!w.params.followText "set-order" && (!t.plain && decide (es.size > 1))) = true) from by rw [decide_eq_false (by omega : ¬ es.size > 1)]; simp)) ?_
      exact wpAny_bind (wpAny_pure (fin (rawInt 0) .U s.heap s.drawn ⟨hby', h1, hled hby'⟩ (Nat.le_refl _) (fun b o q => q) rfl (fun T n ps e => by cases e) trivial))
    · refine wpAny_ite_true (decide_eq_true (show (!w.params.followText "set-order" && (!t.plain && decide (es.size > 1))) = true from by rw [hby', hpl (by omega), decide_eq_true (by omega : es.size > 1)]; rfl)) ?_
      refine wpAny_bind (drawOrder_wp es.size (List.range es.size) _ _ (by simp) fun ps d hp => ?_)
      have hlen : ps.length = es.size := by rw [hp.length_eq, List.length_range]
      refine wpAny_bind (wpAny_newTuple ?_ (by rw [List.length_map, hlen]; exact fits_of_scanBound hb))
      refine fin (.ref s.heap.objs.size) (.D s.heap.objs.size 0 ps) _ d hp (by rw [Heap.size_push]; exact Nat.le_succ _) (fun b o q => Heap.get?_push_of_some _ q) rfl (fun T n ps e => by cases e; rw [Heap.size_push]; exact Nat.lt_succ_self _) (Heap.get?_push_size _ rfl)
set_option maxHeartbeats 2000000 in
/-- the texts of a set, in some order -/
theorem collect_set {Q : List Value → Shared → Prop} (hh : A.handled = none) (hS : TS prog w s.heap S ks)
    (hQ : ∀ (s' : Shared) (acc : Array Value) (ks' : List Str), (∀ b o, s.heap.get? b = some o → s'.heap.get? b = some o) → s'.gens = s.gens → s'.os = s.os → StrsAre acc.toList ks' → ks'.Perm ks → Q acc.toList s') :
    wpAny (model prog w) A (collect (.ref S)) Q E s := by
  obtain ⟨es, ep, t, ho, hel, hb, hf, hled, hpl, hst, hnd⟩ := hS
  have hlt : S < s.heap.objs.size := Heap.lt_size ho
  unfold collect
  refine wpAny_bind (wpAny_runValue (codeAny_builtin F.entry_proto_collect ?_))
  rw [Around.under_plainId F.plain_proto_collect _]
  show wpAny _ A.in1 (newList [] >>= fun l => again (.builtin "list.__iadd__" ⟨[l, .ref S], []⟩)) _ _ s
  refine wpAny_bind (wpAny_newObj_type ?_)
  refine wpAny_pure ⟨plainId_quiet F.plain_list_iadd _, codeAny_builtin F.entry_list_iadd ?_⟩
  rw [Around.under_plainId F.plain_list_iadd _]
  have hne : s.heap.objs.size ≠ S := Nat.ne_of_gt hlt
  have h1 : Builtin.List.listSameRef (.ref s.heap.objs.size) (.ref S) = false := by simp [Builtin.List.listSameRef, hne]
  show wpAny _ A.in1 (Builtin.List.listExtendWith (.ref s.heap.objs.size) (.ref S) (.ref s.heap.objs.size)) _ _ _
  unfold Builtin.List.listExtendWith
  have ho1 : SOb (s.heap.push { cls := .type "list", data := .seq ([] : List Value).toArray }) S es ep t := Heap.get?_push_of_some _ ho
  have hT1 : Shared.TypeIs { s with heap := s.heap.push { cls := .type "list", data := .seq ([] : List Value).toArray } } (.ref S) "set" := ⟨_, ho1, rfl⟩
  have hL1 : (s.heap.push { cls := .type "list", data := .seq ([] : List Value).toArray }).get? s.heap.objs.size = some { cls := .type "list", data := .seq ([] : List Value).toArray } := Heap.get?_push_size _ rfl
  have kp1 : ∀ b o, s.heap.get? b = some o → (s.heap.push { cls := .type "list", data := .seq ([] : List Value).toArray }).get? b = some o := fun b o q => Heap.get?_push_of_some _ q
  have sz1 := Heap.size_push s.heap { cls := .type "list", data := .seq ([] : List Value).toArray }
  generalize s.heap.push { cls := .type "list", data := .seq ([] : List Value).toArray } = g1 at ho1 hT1 hL1 kp1 sz1 ⊢
  refine wpAny_bind (wpAny_typeOf hT1 ?_)
  rw [if_neg (by rw [h1]; decide)]
  refine wpAny_bind (pyIter_set (s := { s with heap := g1 }) ho1 hf hb hled hpl fun m I h' d hm nI nT hfp hI kp hS' hit htup => ?_)
  refine wpAny_bind (wpAny_holding ?_)
  unfold Builtin.List.listLengthHint
  have hT2 : Shared.TypeIs { s with heap := h', drawn := d } (.ref S) "set" := ⟨_, hS', rfl⟩
  refine wpAny_bind (wpAny_specialOf hT2 F.slot_set_len.lookup ?_)
  wp_delta
  refine wpAny_bind (wpAny_isInstance (T := "set") (v := .ref S) (b := true) hT2 (by rw [isSubtype_type]; kernel_rfl) ?_)
  show wpAny _ A.in1 (typeOf (Value.ref S) >>= _) _ _ _
  refine wpAny_bind (wpAny_typeOf hT2 ?_)
  refine wpAny_pure ?_
  have hSf : s.heap.objs.size ∉ m.fp I S := by
    rw [sz1] at hI
    cases m with
    | D T n ps =>
      have hTn : s.heap.objs.size ≠ T := fun e => by
        subst e
        have h2 : h'.get? s.heap.objs.size = some { cls := .type "tuple", dict := none, data := .seq (ps.map fun (p : Nat) => Value.int p 0).toArray n, slots := #[] } := htup
        rw [kp _ _ hL1] at h2
        have := congrArg Obj.cls (Option.some.inj h2)
        exact absurd (Value.type.inj this) (by decide)
      simp only [SMode.fp, List.mem_cons, List.not_mem_nil, or_false, not_or]
      exact ⟨Nat.ne_of_lt hI, hne, hTn⟩
    | B => simp only [SMode.fp, List.mem_cons, List.not_mem_nil, or_false, not_or]; exact ⟨Nat.ne_of_lt hI, hne⟩
    | U => simp only [SMode.fp, List.mem_cons, List.not_mem_nil, or_false, not_or]; exact ⟨Nat.ne_of_lt hI, hne⟩
  show wpAny _ A.in1 (rule "list.extend.makes-room" >>= fun _ => Builtin.List.listTouch (.ref s.heap.objs.size) >>= fun _ =>
    again (.builtin "list.extend.loop" ⟨[.ref s.heap.objs.size, .ref I, .ref s.heap.objs.size], []⟩)) _ _ _
  refine wpAny_bind (wpAny_rule ?_)
  refine wpAny_bind ?_
  show wpAny _ A.in1 (updateSeq s.heap.objs.size (·.push .none) >>= fun _ => updateSeq s.heap.objs.size (·.pop)) _ _ _
  have hL2 := kp _ _ hL1
  refine wpAny_bind (wpAny_updateSeq (s := { s with heap := h', drawn := d }) hL2 rfl ?_)
  have hL3 := Heap.get?_update_self (Obj.mapSeq (·.push Value.none)) hL2 rfl
  refine wpAny_updateSeq (hz := by seq_fits) hL3 rfl ?_
  have hL4 := Heap.get?_update_self (Obj.mapSeq (·.pop)) hL3 rfl
  have oth : ∀ b o, b ≠ s.heap.objs.size → h'.get? b = some o → ((h'.update s.heap.objs.size (Obj.mapSeq (·.push Value.none))).update s.heap.objs.size (Obj.mapSeq (·.pop))).get? b = some o :=
    fun b o hb e => (Heap.get?_update_other _ _ (Ne.symm hb)).trans ((Heap.get?_update_other _ _ (Ne.symm hb)).trans e)
  have hh1 : A.in1.handled = none := by simp [hh]
  have W := walks_set (prog := prog) (I := I) (S := S) (ep := ep) hh1 hf hm nI nT
  refine wpAny_pure ⟨plainId_quiet F.plain_extend_loop _, codeAny_extend_loopS W (fits_of_scanBound hb) _ hSf _ es.size 0 _ _ _ rfl (Nat.zero_le _)
    (W.frame 0 { s with heap := h', drawn := d } _ s.toks ⟨hS', hit, htup⟩ (Nat.le_refl _) fun b hb o e => oth b o (fun h => hSf (h ▸ hb)) e) hL4 (ItemsOf.nil _) fun s' acc' c' hmv hS'' hacc => ?_⟩
  show wpAny _ A (load s.heap.objs.size >>= _) _ _ s'
  refine wpAny_bind (wpAny_load hS'' ?_)
  have hord := ord_perm (S := S) (ep := ep) hm
  have hvals : acc'.toList = (m.ord w S ep es).map (·.2) := by
    apply List.ext_getElem?
    intro j
    have hlo : (m.ord w S ep es).length = es.size := by rw [hord.length_eq]; simp
    by_cases hj : j < es.size
    · have e1 : acc'.toList[j]? = some (acc'[j]'(by rw [hacc.1]; exact hj)) := by rw [Array.getElem?_toList]; simp [hacc.1, hj]
      obtain ⟨hx, e2⟩ := hacc.2 j _ (by rw [← Array.getElem?_toList]; exact e1)
      rw [e1, List.getElem?_map, e2]
      rfl
    · rw [List.getElem?_eq_none (by rw [Array.length_toList, hacc.1]; omega), List.getElem?_eq_none (by rw [List.length_map, hlo]; omega)]
  obtain ⟨ks', hst', hp'⟩ := strsAre_perm (hord.map (·.2)) hst
  refine wpAny_pure (hQ s' acc' ks' (fun b o e => ?_) hmv.gens hmv.os (by rw [hvals]; exact hst') hp')
  have hbl : b < s.heap.objs.size := Heap.lt_size e
  refine hmv.heap b o ?_ (oth b o (Nat.ne_of_lt hbl) (kp b o (kp1 b o e)))
  rw [sz1] at hI
  simp only [List.mem_cons, List.not_mem_nil, or_false, not_or]
  exact ⟨Nat.ne_of_lt hbl, Nat.ne_of_lt (Nat.lt_of_lt_of_le hbl (Nat.le_of_succ_le hI))⟩
end
end PySem
namespace PySem
open PyProof.Rows
section
variable {prog : Program} {w : World} {A : Around} {E : Value → Shared → Prop} {s : Shared} {S : Addr} {ks : List Str}
set_option maxHeartbeats 2000000 in
/-- sorted of what is collected as some texts -/
theorem sorted_of {Q : Value → Shared → Prop} (v : Value)
    (hc : ∀ (R : List Value → Shared → Prop), (∀ (s' : Shared) (acc : Array Value) (ks' : List Str), (∀ b o, s.heap.get? b = some o → s'.heap.get? b = some o) → s'.gens = s.gens → s'.os = s.os → StrsAre acc.toList ks' → ks'.Perm ks → R acc.toList s') → wpAny (model prog w) A.in1 (collect v) R E s)
    (h64 : ks.length < 64)
    (h : ∀ (s' : Shared) (l : Addr) (out : Array Value) (ss' : List Str) (e : Nat), (∀ b o, s.heap.get? b = some o → s'.heap.get? b = some o) → s'.gens = s.gens → s'.os = s.os → s.heap.get? l = none → s'.heap.get? l = some (seqObj "list" out e) → StrsAre out.toList ss' → ss'.Perm ks → sortedS ss' = true → Q (.ref l) s') :
    wpAny (model prog w) A (call (.builtin "sorted") [v]) Q E s := by
  refine Calls.call_function_entry kind_sorted plain_sorted entry_sorted (args_sorted1 _) ?_
  unfold Builtin.«sorted»
  refine wpAny_bind (m := checkCount "sorted" 1 1 _) (wpAny_pure ?_)
  refine wpAny_bind (hc _ fun s' acc ks' hk hg ho hS hp => ?_)
  have hl : acc.toList.length < 64 := by rw [strsAre_len hS, hp.length_eq]; exact h64
  refine wpAny_bind (wpAny_newList ?_)
  have hoL : (s'.heap.push (seqObj "list" acc.toList.toArray 0)).get? s'.heap.objs.size = some (seqObj "list" acc.toList.toArray 0) := Heap.get?_push_size _ rfl
  have hle : s.heap.get? s'.heap.objs.size = none := by
    cases e : s.heap.get? s'.heap.objs.size with
    | none => rfl
    | some o =>
      have := hk _ o e
      rw [Heap.get?_none_of_le (Nat.le_refl _)] at this
      cases this
  show wpAny _ _ _ _ _ { s' with heap := s'.heap.push (seqObj "list" acc.toList.toArray 0) }
  refine wpAny_bind (wpAny_holding (wpAny_call_entry slot_list_sort ⟨_, hoL, rfl⟩ entry_list_sort (list_sort_treeK strKind_oneLt hoL hS.keysOf (fun v₁ v₂ rest e => keyKind_strs (by rw [← e]; exact hS)) hl fun st' a1 a2 => ⟨_, rfl, ?_⟩) (args_list_sort _)))
  obtain ⟨ss', h1, h2, h3⟩ := sorted_out_str hS a1 a2
  obtain ⟨e, he⟩ := sortedHeap_at (out := (arrOf st').map (·.2)) hoL
  refine wpAny_pure ⟨_, rfl, h _ s'.heap.objs.size _ ss' e (fun b o q => ?_) hg ho hle he h1 (h2.trans hp) h3⟩
  have q' := hk b o q
  have hb : b < s'.heap.objs.size := Heap.lt_size q'
  show (sortedHeap _ _ _ _).get? b = some o
  rw [sortedHeap_old (Nat.ne_of_lt hb) (Heap.lt_size (Heap.get?_push_of_some _ q'))]
  exact Heap.get?_push_of_some _ q'
end
end PySem
namespace L3
open PySem L2
section
variable {X : Cx} {a b : Expr} {ta tb : E2} {pos : Pos}
end
end L3
namespace L3
open PySem L2
def asc (z : Str) : Prop := (z.cps.all fun x => decide (x < 128)) = true
def okT (z : Str) : Prop := asc z ∧ z.length ≤ 1000
@[reducible] def inS (S : Str) : PV → Bool
  | .str i => !(Builtin.Str.occurrences S i 0 S.length 1).isEmpty
  | _ => false
@[reducible] def ltP : PV → Bool
  | .tup [.str x, .str y] => decide (x.cps.toList < y.cps.toList)
  | _ => false
def LET : Str := "abcdefghijklmnopqrstuvwxyz"
def SIG : Str := " !\"#$&'()*+,-./0123456789:;<=>?@ABCDEFGHIJKLMNOPQRSTUVWXYZ[\\]^_`abcdefghijklmnopqrstuvwxyz{|}~"
def lenL : List (Str × Int) := [("none", 1), ("blank", 1), ("sign", 2), ("row", 2), ("pick", 2), ("again", 2), ("held", 3), ("price", 3)]
def lenK (k : Str) : Option Int := (lenL.find? fun x => x.1 == k).map (·.2)
def wordB (z : Str) : Bool := decide (1 ≤ z.length) && decide (z.length ≤ 8) && (signsP z).all (inS LET)
def textB (z : Str) : Bool := (signsP z).all (inS SIG)
def riseB (z : Str) : Bool := textB z && !(z == "") && (zipP z (Txt.slice z (some 1) none)).all ltP
def wordV : PV → Bool
  | .str z => wordB z
  | _ => false
def textV : PV → Bool
  | .str z => textB z
  | _ => false
def riseV : PV → Bool
  | .str z => riseB z
  | _ => false
def kindV : PV → Bool
  | .tup (.str k :: xs) => lenK k == some ((xs.length : Int) + 1)
  | _ => false
def partsV : PV → Bool
  | .tup ys => decide (2 ≤ ys.length) && decide (ys.length ≤ 6)
  | _ => false
def priceV : PV → Bool
  | .int n => decide (0 ≤ n) && decide (n ≤ 1000)
  | _ => false
def mkB : PV → Bool
  | .tup [.str k] => k == "none" || k == "blank"
  | .tup [.str k, y] => (k == "sign" && riseV y) || (k == "row" && partsV y) || (k == "pick" && partsV y) || k == "again"
  | .tup [.str k, y, _] => (k == "held" && wordV y) || (k == "price" && priceV y)
  | _ => false
/-- the form of a make, and its parts -/
inductive Shp : PV → List PV → Prop
  | none : Shp (.tup [.str "none"]) []
  | blank : Shp (.tup [.str "blank"]) []
  | sign (s : Str) : Shp (.tup [.str "sign", .str s]) []
  | row (ys : List PV) : Shp (.tup [.str "row", .tup ys]) ys
  | pick (ys : List PV) : Shp (.tup [.str "pick", .tup ys]) ys
  | again (y : PV) : Shp (.tup [.str "again", y]) [y]
  | held (n : Str) (y : PV) : Shp (.tup [.str "held", .str n, y]) [y]
  | price (n : Int) (y : PV) : Shp (.tup [.str "price", .int n, y]) [y]
/-- what has a kind and its number of things -/
inductive Knd : PV → Prop
  | none : Knd (.tup [.str "none"])
  | blank : Knd (.tup [.str "blank"])
  | sign (y : PV) : Knd (.tup [.str "sign", y])
  | row (y : PV) : Knd (.tup [.str "row", y])
  | pick (y : PV) : Knd (.tup [.str "pick", y])
  | again (y : PV) : Knd (.tup [.str "again", y])
  | held (n : PV) (y : PV) : Knd (.tup [.str "held", n, y])
  | price (n : PV) (y : PV) : Knd (.tup [.str "price", n, y])
theorem lenK_some {k : Str} {n : Int} (h : lenK k = some n) : (k, n) ∈ lenL := by
  unfold lenK at h
  obtain ⟨x, hx, rfl⟩ := Option.map_eq_some_iff.mp h
  have h1 := List.find?_some hx
  have h2 := List.mem_of_find?_eq_some hx
  have : x.1 = k := by simpa using h1
  subst this
  exact h2
theorem knd_of {v : PV} (h : kindV v = true) : Knd v := by
  match v, h with
  | .tup (.str k :: xs), h =>
    have h' : lenK k = some ((xs.length : Int) + 1) := by simpa [kindV] using h
    have hm := lenK_some h'
    simp only [lenL, List.mem_cons, Prod.mk.injEq, List.not_mem_nil, or_false] at hm
    have l0 : ∀ {xs : List PV}, ((xs.length : Int) + 1 = 1) → xs = [] := fun {xs} e => List.length_eq_zero_iff.mp (by omega)
    have l1 : ∀ {xs : List PV}, ((xs.length : Int) + 1 = 2) → ∃ y, xs = [y] := fun {xs} e => List.length_eq_one_iff.mp (by omega)
    have l2 : ∀ {xs : List PV}, ((xs.length : Int) + 1 = 3) → ∃ y z, xs = [y, z] := fun {xs} e => match xs, e with
      | [y, z], _ => ⟨y, z, rfl⟩
      | [], e => absurd e (by simp)
      | [_], e => absurd e (by simp)
      | _ :: _ :: _ :: _, e => absurd e (by simp only [List.length_cons]; omega)
    rcases hm with ⟨rfl, e⟩ | ⟨rfl, e⟩ | ⟨rfl, e⟩ | ⟨rfl, e⟩ | ⟨rfl, e⟩ | ⟨rfl, e⟩ | ⟨rfl, e⟩ | ⟨rfl, e⟩
    · cases l0 e; exact .none
    · cases l0 e; exact .blank
    · obtain ⟨y, rfl⟩ := l1 e; exact .sign y
    · obtain ⟨y, rfl⟩ := l1 e; exact .row y
    · obtain ⟨y, rfl⟩ := l1 e; exact .pick y
    · obtain ⟨y, rfl⟩ := l1 e; exact .again y
    · obtain ⟨y, z, rfl⟩ := l2 e; exact .held y z
    · obtain ⟨y, z, rfl⟩ := l2 e; exact .price y z
theorem mk_shp {v : PV} (h : mkB v = true) : ∃ ys, Shp v ys ∧ ys.length ≤ 6 := by
  match v, h with
  | .tup [.str k], h =>
    have : k = "none" ∨ k = "blank" := by simpa [mkB] using h
    rcases this with rfl | rfl
    · exact ⟨_, .none, by simp⟩
    · exact ⟨_, .blank, by simp⟩
  | .tup [.str k, y], h =>
    have : (((k = "sign" ∧ riseV y = true) ∨ (k = "row" ∧ partsV y = true)) ∨ (k = "pick" ∧ partsV y = true)) ∨ k = "again" := by simpa [mkB] using h
    rcases this with ((⟨rfl, hp⟩ | ⟨rfl, hp⟩) | ⟨rfl, hp⟩) | rfl
    · match y, hp with
      | .str s, _ => exact ⟨_, .sign s, by simp⟩
    · match y, hp with
      | .tup ys, hp =>
        have h' : partsV (.tup ys) = true := hp
        have : 2 ≤ ys.length ∧ ys.length ≤ 6 := by simpa [partsV] using h'
        exact ⟨_, .row ys, this.2⟩
    · match y, hp with
      | .tup ys, hp =>
        have h' : partsV (.tup ys) = true := hp
        have : 2 ≤ ys.length ∧ ys.length ≤ 6 := by simpa [partsV] using h'
        exact ⟨_, .pick ys, this.2⟩
    · exact ⟨_, .again y, by simp⟩
  | .tup [.str k, y, z], h =>
    have : (k = "held" ∧ wordV y = true) ∨ (k = "price" ∧ priceV y = true) := by simpa [mkB] using h
    rcases this with ⟨rfl, h⟩ | ⟨rfl, h⟩
    · match y, h with
      | .str s, _ => exact ⟨_, .held s z, by simp⟩
    · match y, h with
      | .int s, _ => exact ⟨_, .price s z, by simp⟩
theorem shp_enc (p : Pt) : Shp (enc p) (encs (inner p)) := by
  cases p with
  | none => exact .none
  | blank => exact .blank
  | sign s => exact .sign s
  | row ps => exact .row _
  | pick ps => exact .pick _
  | again p => exact .again _
  | held n p => exact .held _ _
  | price n p => exact .price _ _
def innV : PV → List PV
  | .tup [.str k, y] => if k == "again" then [y] else (match y with | .tup ys => ys | _ => [])
  | .tup [_, _, y] => [y]
  | _ => []
theorem shp_inn {v : PV} {ys : List PV} (h : Shp v ys) : ys = innV v := by
  cases h <;> rfl
theorem shp_fun {v : PV} {ys zs : List PV} (h1 : Shp v ys) (h2 : Shp v zs) : ys = zs := (shp_inn h1).trans (shp_inn h2).symm
/-- back from a form to a pattern -/
theorem shp_back {v : PV} {qs : List Pt} (h : Shp v (encs qs)) : ∃ p, v = enc p ∧ inner p = qs := by
  generalize hy : encs qs = ys at h
  cases h with
  | none => cases qs with
    | nil => exact ⟨.none, rfl, rfl⟩
    | cons a b => cases hy
  | blank => cases qs with
    | nil => exact ⟨.blank, rfl, rfl⟩
    | cons a b => cases hy
  | sign s => cases qs with
    | nil => exact ⟨.sign s, rfl, rfl⟩
    | cons a b => cases hy
  | row => subst hy; exact ⟨.row qs, rfl, rfl⟩
  | pick => subst hy; exact ⟨.pick qs, rfl, rfl⟩
  | again y => match qs, hy with
    | [q], hy => injection hy with hy; subst hy; exact ⟨.again q, rfl, rfl⟩
  | held n y => match qs, hy with
    | [q], hy => injection hy with hy; subst hy; exact ⟨.held n q, rfl, rfl⟩
  | price n y => match qs, hy with
    | [q], hy => injection hy with hy; subst hy; exact ⟨.price n q, rfl, rfl⟩
end L3
namespace L3
open PySem L2
theorem size_mem : ∀ {ps : List Pt} {c : Pt}, c ∈ ps → size c ≤ sizes ps
  | p :: ps, c, h => by
    rcases List.mem_cons.mp h with rfl | h
    · simp only [sizes]; omega
    · have := size_mem h; simp only [sizes]; omega
theorem depth_mem : ∀ {ps : List Pt} {c : Pt}, c ∈ ps → depth c ≤ depths ps
  | p :: ps, c, h => by
    rcases List.mem_cons.mp h with rfl | h
    · simp only [depths]; omega
    · have := depth_mem h; simp only [depths]; omega
theorem depths_le {n : Nat} : ∀ {ps : List Pt}, (∀ c ∈ ps, depth c ≤ n) → depths ps ≤ n
  | [], _ => Nat.zero_le _
  | p :: ps, h => by
    simp only [depths]
    exact Nat.max_le.mpr ⟨h p (by simp), depths_le fun c hc => h c (by simp [hc])⟩
theorem makess_mem : ∀ {ps : List Pt} {c : Pt}, c ∈ makess ps ↔ ∃ p ∈ ps, c ∈ makes p
  | [], c => by simp [makess]
  | p :: ps, c => by
    show c ∈ makes p ++ makess ps ↔ _
    rw [List.mem_append, makess_mem (ps := ps)]
    simp
theorem makes_self (p : Pt) : p ∈ makes p := by rw [makes_inner]; simp
theorem makes_part {p c d : Pt} (hc : c ∈ inner p) (hd : d ∈ makes c) : d ∈ makes p := by
  rw [makes_inner]
  exact List.mem_cons.mpr (.inr (makess_mem.mpr ⟨c, hc, hd⟩))
abbrev okM (p : Pt) : Prop := ∀ c ∈ makes p, mkB (enc c) = true
def Made (v : PV) : Prop := ∃ p, v = enc p ∧ depth p ≤ 9 ∧ size p ≤ 40 ∧ okM p
def encQ (x : Pt × Int) : PV × Int := (enc x.1, x.2)
def Rest (st : List (PV × Int)) (sn : Int) : Prop := ∃ ps : List (Pt × Int), st = ps.map encQ ∧ (∀ x ∈ ps, (depth x.1 : Int) + x.2 ≤ 10 ∧ okM x.1) ∧ (sizes (ps.map (·.1)) : Int) + sn ≤ 40
theorem rest_nil {sn : Int} (h : sn ≤ 40) : Rest [] sn := ⟨[], rfl, by simp, by simpa [sizes] using h⟩
theorem rest_one {v : PV} : Rest [(v, 1)] 0 ↔ Made v := by
  constructor
  · rintro ⟨ps, e, h1, h2⟩
    match ps, e, h1, h2 with
    | [], e, _, _ => cases e
    | _ :: _ :: _, e, _, _ => simp at e
    | [x], e, h1, h2 =>
      have hx := h1 x (by simp)
      simp only [encQ, List.map_cons, List.map_nil, List.cons.injEq, Prod.mk.injEq, and_true] at e
      refine ⟨x.1, e.1, ?_, ?_, hx.2⟩
      · have := hx.1; rw [← e.2] at this; omega
      · simp only [List.map_cons, List.map_nil, sizes] at h2; omega
  · rintro ⟨p, rfl, h1, h2, h3⟩
    refine ⟨[(p, 1)], rfl, ?_, ?_⟩
    · intro x hx
      cases List.mem_singleton.mp hx
      exact ⟨by show (depth p : Int) + 1 ≤ 10; omega, h3⟩
    · simp only [List.map_cons, List.map_nil, sizes]; omega
theorem rest_to {st : List (PV × Int)} {x : PV} {d sn : Int} (h : Rest (st ++ [(x, d)]) sn) : d ≤ 9 ∧ sn + 1 ≤ 40 ∧ mkB x = true ∧ ∀ ys, Shp x ys → Rest (st ++ ys.map fun y => (y, d + 1)) (sn + 1) := by
  obtain ⟨ps, e, h1, h2⟩ := h
  obtain ⟨ps', qs, rfl, e1, e2⟩ := List.map_eq_append_iff.mp e.symm
  match qs, e2 with
  | [y], e2 =>
  simp only [encQ, List.map_cons, List.map_nil, List.cons.injEq, Prod.mk.injEq, and_true] at e2
  obtain ⟨e3, e4⟩ := e2
  have hy := h1 y (by simp)
  have dp := depth_pos y.1
  have sp := size_pos y.1
  simp only [List.map_append, sizes_append, List.map_cons, List.map_nil, sizes] at h2
  refine ⟨by omega, by omega, by rw [← e3]; exact hy.2 _ (makes_self _), fun ys hs => ?_⟩
  rw [← e3] at hs
  have hys := shp_fun hs (shp_enc y.1)
  refine ⟨ps' ++ (inner y.1).map fun c => (c, d + 1), ?_, ?_, ?_⟩
  · rw [List.map_append, e1, hys, encs_map, List.map_map, List.map_map]
    rfl
  · intro z hz
    rcases List.mem_append.mp hz with hz | hz
    · exact h1 z (by simp [hz])
    · obtain ⟨c, hc, rfl⟩ := List.mem_map.mp hz
      have := depth_mem hc
      have := size_depth_inner y.1
      refine ⟨?_, fun c' hc' => hy.2 c' (makes_part hc hc')⟩
      show (depth c : Int) + (d + 1) ≤ 10
      omega
  · have := size_inner y.1
    rw [List.map_append, sizes_append, List.map_map]
    have e5 : (inner y.1).map ((fun x : Pt × Int => x.1) ∘ fun c => (c, d + 1)) = inner y.1 := by
      rw [show ((fun x : Pt × Int => x.1) ∘ fun c => (c, d + 1)) = id from rfl, List.map_id]
    rw [e5]
    omega
theorem rest_from {st : List (PV × Int)} {x : PV} {ys : List PV} {d sn : Int} (hd : d ≤ 9) (hm : mkB x = true) (hs : Shp x ys) (h : Rest (st ++ ys.map fun y => (y, d + 1)) (sn + 1)) : Rest (st ++ [(x, d)]) sn := by
  obtain ⟨ps, e, h1, h2⟩ := h
  obtain ⟨ps', qs, rfl, e1, e2⟩ := List.map_eq_append_iff.mp e.symm
  have e3 : ys = encs (qs.map (·.1)) := by
    have := congrArg (List.map Prod.fst) e2
    rw [List.map_map, List.map_map] at this
    rw [encs_map, List.map_map]
    have e4 : ys.map (Prod.fst ∘ fun y => (y, d + 1)) = ys := by
      rw [show ((Prod.fst : PV × Int → PV) ∘ fun y => (y, d + 1)) = id from rfl, List.map_id]
    rw [← e4, ← this]
    rfl
  have e5 : ∀ z ∈ qs, z.2 = d + 1 := fun z hz => by
    have : encQ z ∈ qs.map encQ := List.mem_map.mpr ⟨z, hz, rfl⟩
    rw [e2] at this
    obtain ⟨y, _, hy⟩ := List.mem_map.mp this
    have := congrArg Prod.snd hy
    exact this.symm
  rw [e3] at hs
  obtain ⟨p, rfl, hi⟩ := shp_back hs
  refine ⟨ps' ++ [(p, d)], by rw [List.map_append, e1]; rfl, ?_, ?_⟩
  · intro z hz
    rcases List.mem_append.mp hz with hz | hz
    · exact h1 z (by simp [hz])
    · cases List.mem_singleton.mp hz
      refine ⟨?_, ?_⟩
      · have h3 : ∀ c ∈ inner p, (depth c : Int) + (d + 1) ≤ 10 := by
          rw [hi]
          intro c hc
          obtain ⟨z, hz, rfl⟩ := List.mem_map.mp hc
          have := (h1 z (by simp [hz])).1
          rw [e5 z hz] at this
          exact this
        have h4 := depths_le (n := (9 - d).toNat) (ps := inner p) fun c hc => by have := h3 c hc; omega
        have := size_depth_inner p
        show (depth p : Int) + d ≤ 10
        omega
      · intro c hc
        rw [makes_inner] at hc
        rcases List.mem_cons.mp hc with rfl | hc
        · exact hm
        · obtain ⟨q, hq, hc⟩ := makess_mem.mp hc
          rw [hi] at hq
          obtain ⟨z, hz, rfl⟩ := List.mem_map.mp hq
          exact (h1 z (by simp [hz])).2 c hc
  · have := size_inner p
    rw [hi] at this
    rw [List.map_append, sizes_append] at h2 ⊢
    simp only [List.map_cons, List.map_nil, sizes] at h2 ⊢
    omega
def dec : Nat → PV → Option Pt
  | 0, _ => none
  | n + 1, .tup [.str k] => if k == "none" then some .none else if k == "blank" then some .blank else none
  | n + 1, .tup [.str k, x] => if k == "again" then (dec n x).map .again else match x with
      | .str s => if k == "sign" then some (.sign s) else none
      | .tup xs => if k == "row" then (xs.mapM (dec n)).map .row else if k == "pick" then (xs.mapM (dec n)).map .pick else none
      | _ => none
  | n + 1, .tup [.str k, .str m, x] => if k == "held" then (dec n x).map (.held m) else none
  | n + 1, .tup [.str k, .int m, x] => if k == "price" then (dec n x).map (.price m) else none
  | _, _ => none
theorem dec_enc : ∀ (n : Nat) (p : Pt), depth p ≤ n → dec n (enc p) = some p
  | 0, p, h => by have := depth_pos p; omega
  | n + 1, p, h => by
    have hi := size_depth_inner p
    have key : ∀ ps : List Pt, depths ps ≤ n → (encs ps).mapM (dec n) = some ps := by
      intro ps
      induction ps with
      | nil => intro _; rfl
      | cons a l ih =>
        intro h
        simp only [depths] at h
        show (enc a :: encs l).mapM (dec n) = _
        rw [List.mapM_cons, dec_enc n a (by omega), ih (by omega)]
        rfl
    cases p with
    | none => rfl
    | blank => rfl
    | sign s => rfl
    | row ps =>
      have : dec (n + 1) (enc (.row ps)) = ((encs ps).mapM (dec n)).map .row := rfl
      rw [this, key ps (by simp only [depth] at h; omega)]
      rfl
    | pick ps =>
      have : dec (n + 1) (enc (.pick ps)) = ((encs ps).mapM (dec n)).map .pick := rfl
      rw [this, key ps (by simp only [depth] at h; omega)]
      rfl
    | again p =>
      have : dec (n + 1) (enc (.again p)) = (dec n (enc p)).map .again := rfl
      rw [this, dec_enc n p (by simp only [depth] at h; omega)]
      rfl
    | held m p =>
      have : dec (n + 1) (enc (.held m p)) = (dec n (enc p)).map (.held m) := rfl
      rw [this, dec_enc n p (by simp only [depth] at h; omega)]
      rfl
    | price m p =>
      have : dec (n + 1) (enc (.price m p)) = (dec n (enc p)).map (.price m) := rfl
      rw [this, dec_enc n p (by simp only [depth] at h; omega)]
      rfl
theorem enc_inj {p q : Pt} (h : enc p = enc q) : p = q := by
  have h1 := dec_enc (depth p + depth q) p (by omega)
  have h2 := dec_enc (depth p + depth q) q (by omega)
  rw [h] at h1
  rw [h1] at h2
  exact Option.some.inj h2
def agC : Pt → Bool
  | .again p => !canB p
  | _ => true
abbrev okA (p : Pt) : Prop := ∀ c ∈ makes p, agC c = true
def IsP (v : PV) : Prop := ∃ p, v = enc p ∧ depth p ≤ 9 ∧ size p ≤ 40 ∧ okM p ∧ okA p
theorem isP_enc {p : Pt} : IsP (enc p) ↔ depth p ≤ 9 ∧ size p ≤ 40 ∧ okM p ∧ okA p :=
  ⟨fun ⟨q, e, h⟩ => by cases enc_inj e; exact h, fun h => ⟨p, rfl, h⟩⟩
end L3
namespace L3
open PySem L2
theorem tail_cps {z : Str} (h : 1 ≤ z.length) : (Txt.slice z (some 1) none).cps.toList = z.cps.toList.drop 1 := by
  have e := PyProof.Rows.slice_from_eq (x := z) (i := 1) (b := z.length) (by decide) (by omega) rfl
  rw [e]
  show (List.take _ (List.drop 1 z.cps.toList)) = _
  refine List.take_of_length_le ?_
  have : z.cps.toList.length = z.length := by simp [Str.length]
  rw [List.length_drop]
  omega
theorem tail_size {z : Str} (h : 1 ≤ z.length) : (Txt.slice z (some 1) none).cps.size = z.length - 1 := by
  have := congrArg List.length (tail_cps h)
  rw [List.length_drop] at this
  have e : z.cps.toList.length = z.length := by simp [Str.length]
  rw [e] at this
  simpa using this
theorem lt_one {a b : Nat} (h : a < b) : [a] < [b] := List.Lex.rel h
theorem rise_of {s : Str} (h1 : s.cps.toList ≠ []) (h2 : s.cps.toList.Pairwise (· < ·)) (h3 : ∀ c ∈ s.cps.toList, inS SIG (.str (oneS c)) = true) : riseB s = true := by
  have el : s.cps.toList.length = s.length := by simp [Str.length]
  have l1 : 1 ≤ s.length := by
    rw [← el]
    exact List.length_pos_iff.mpr h1
  unfold riseB
  rw [Bool.and_eq_true, Bool.and_eq_true]
  refine ⟨⟨?_, ?_⟩, ?_⟩
  · unfold textB
    rw [List.all_eq_true]
    intro x hx
    unfold signsP at hx
    obtain ⟨c, hc, rfl⟩ := List.mem_map.mp hx
    exact h3 c hc
  · have : ¬ s = "" := fun e => by rw [e] at h1; exact h1 rfl
    simpa using this
  · rw [List.all_eq_true]
    intro x hx
    unfold zipP at hx
    obtain ⟨i, hi, rfl⟩ := List.mem_map.mp hx
    rw [List.mem_range, tail_size l1] at hi
    have e2 : (Txt.slice s (some 1) none).cps[i]? = s.cps[i + 1]? := by
      have := congrArg (fun l => l[i]?) (tail_cps l1)
      simp only [Array.getElem?_toList, List.getElem?_drop] at this
      rw [this, Nat.add_comm]
    rw [e2]
    have hi1 : i + 1 < s.cps.toList.length := by omega
    have g1 : s.cps[i]? = some s.cps.toList[i] := by rw [← Array.getElem?_toList]; exact List.getElem?_eq_getElem (by omega)
    have g2 : s.cps[i + 1]? = some s.cps.toList[i + 1] := by rw [← Array.getElem?_toList]; exact List.getElem?_eq_getElem hi1
    rw [g1, g2]
    show decide ([s.cps.toList[i]] < [s.cps.toList[i + 1]]) = true
    exact decide_eq_true (lt_one (List.pairwise_iff_getElem.mp h2 i (i + 1) (by omega) hi1 (by omega)))
def letterS : List Str := ["ab", "abc", " ~", "$&", "(*+.", "09AZaz"]
theorem letters_rise : ∀ z ∈ letterS, z.cps.toList.Pairwise (· < ·) := by decide +kernel
theorem letters_sig : ∀ z ∈ letterS, ∀ c ∈ z.cps.toList, inS SIG (.str (oneS c)) = true := by decide +kernel
theorem sub_rise {z s : Str} (hz : z ∈ letterS) (h0 : s.cps.toList ≠ []) (h : s.cps.toList.Sublist z.cps.toList) : riseB s = true :=
  rise_of h0 ((letters_rise z hz).sublist h) fun c hc => letters_sig z hz c (h.subset hc)
theorem names_word : ∀ n ∈ nameS, wordB n = true := by decide +kernel
theorem wfs_mem {z : Str} : ∀ {ps : List Pt}, wfs z ps → ∀ c ∈ ps, wf z c
  | p :: ps, h, c, hc => by
    rcases List.mem_cons.mp hc with rfl | hc
    · exact h.1
    · exact wfs_mem h.2 c hc
theorem wf_part {z : Str} {p c : Pt} (h : wf z p) (hc : c ∈ inner p) : wf z c := by
  cases p with
  | none => cases hc
  | blank => cases hc
  | sign s => cases hc
  | row ps => exact wfs_mem h.2.2 c hc
  | pick ps => exact wfs_mem h.2.2 c hc
  | again p => cases List.mem_singleton.mp hc; exact h.2
  | held n p => cases List.mem_singleton.mp hc; exact h.2
  | price n p => cases List.mem_singleton.mp hc; exact h.2.2
theorem wf_makes {z : Str} : ∀ (n : Nat) {p c : Pt}, size p ≤ n → wf z p → c ∈ makes p → wf z c
  | 0, p, c, h, _, _ => by have := size_pos p; omega
  | n + 1, p, c, h, hw, hc => by
    rw [makes_inner] at hc
    rcases List.mem_cons.mp hc with rfl | hc
    · exact hw
    · obtain ⟨q, hq, hc⟩ := makess_mem.mp hc
      have := size_mem hq
      have := size_inner p
      exact wf_makes n (by omega) (wf_part hw hq) hc
theorem wf_mk {z : Str} (hz : z ∈ letterS) {p : Pt} (h : wf z p) : mkB (enc p) = true ∧ agC p = true := by
  have bt : ∀ {a b : Bool}, a = true → b = true → (a && b) = true := fun ha hb => by rw [ha, hb]; rfl
  cases p with
  | none => exact ⟨rfl, rfl⟩
  | blank => exact ⟨rfl, rfl⟩
  | sign s =>
    refine ⟨?_, rfl⟩
    have e : mkB (enc (.sign s)) = ((true && riseB s || false && false) || false && false || false) := rfl
    rw [e, sub_rise hz h.1 h.2]
    rfl
  | row ps =>
    refine ⟨?_, rfl⟩
    have e : mkB (enc (.row ps)) = ((false && false || true && (decide (2 ≤ (encs ps).length) && decide ((encs ps).length ≤ 6))) || false && (decide (2 ≤ (encs ps).length) && decide ((encs ps).length ≤ 6)) || false) := rfl
    rw [e, encs_length, decide_eq_true h.1, decide_eq_true h.2.1]
    rfl
  | pick ps =>
    refine ⟨?_, rfl⟩
    have e : mkB (enc (.pick ps)) = ((false && false || false && (decide (2 ≤ (encs ps).length) && decide ((encs ps).length ≤ 6))) || true && (decide (2 ≤ (encs ps).length) && decide ((encs ps).length ≤ 6)) || false) := rfl
    rw [e, encs_length, decide_eq_true h.1, decide_eq_true h.2.1]
    rfl
  | again p => 
    refine ⟨?_, by show (!canB p) = true; rw [h.1]; rfl⟩
    show ((false && riseV (enc p) || false && partsV (enc p)) || false && partsV (enc p) || true) = true
    simp
  | held n p =>
    refine ⟨?_, rfl⟩
    have e : mkB (enc (.held n p)) = (true && wordB n || false && false) := rfl
    rw [e, names_word n h.1]
    rfl
  | price n p =>
    refine ⟨?_, rfl⟩
    have e : mkB (enc (.price n p)) = (false && false || true && (decide (0 ≤ n) && decide (n ≤ 1000))) := rfl
    rw [e, decide_eq_true h.1, decide_eq_true h.2.1]
    rfl
mutual
def okV : PV → Prop
  | .str z => okT z
  | .int _ => True
  | .tup xs => okVs xs
  | _ => False
def okVs : List PV → Prop
  | [] => True
  | x :: xs => okV x ∧ okVs xs
end
theorem okVs_mem : ∀ {xs : List PV}, okVs xs ↔ ∀ x ∈ xs, okV x
  | [] => by simp [okVs]
  | p :: ps => by rw [okVs, okVs_mem (xs := ps)]; simp
theorem shp_ok {v : PV} {ys : List PV} (h : Shp v ys) (hv : okV v) : ∀ y ∈ ys, okV y := by
  cases h with
  | none => intro y hy; cases hy
  | blank => intro y hy; cases hy
  | sign s => intro y hy; cases hy
  | row => exact okVs_mem.mp (okVs_mem.mp hv (.tup ys) (by simp))
  | pick => exact okVs_mem.mp (okVs_mem.mp hv (.tup ys) (by simp))
  | again y => intro z hz; cases List.mem_singleton.mp hz; exact okVs_mem.mp hv y (by simp)
  | held n y => intro z hz; cases List.mem_singleton.mp hz; exact okVs_mem.mp hv y (by simp)
  | price n y => intro z hz; cases List.mem_singleton.mp hz; exact okVs_mem.mp hv y (by simp)
theorem okV_lit {s : Str} (h : (s.cps.all fun x => decide (x < 128)) = true := by decide +kernel) (h2 : s.length ≤ 1000 := by decide +kernel) : okV (.str s) := ⟨h, h2⟩
theorem letters_asc : ∀ z ∈ letterS, ∀ c ∈ z.cps.toList, c < 128 := by decide +kernel
theorem letters_ok' : ∀ z ∈ letterS, 1 ≤ z.length ∧ z.length ≤ 6 := by decide +kernel
theorem sub_asc {z s : Str} (hz : z ∈ letterS) (h : s.cps.toList.Sublist z.cps.toList) : okT s := by
  refine ⟨?_, ?_⟩
  · unfold asc
    rw [Array.all_eq_true']
    intro c hc
    have := letters_asc z hz c (h.subset (Array.mem_toList_iff.mpr hc))
    simpa using this
  · have h1 := h.length_le
    have h2 := (letters_ok' z hz).2
    have e1 : s.cps.toList.length = s.length := by simp [Str.length]
    have e2 : z.cps.toList.length = z.length := by simp [Str.length]
    omega
theorem names_okT : ∀ n ∈ nameS, (n.cps.all fun x => decide (x < 128)) = true ∧ n.length ≤ 1000 := by decide +kernel
theorem wf_okV {z : Str} (hz : z ∈ letterS) : ∀ (n : Nat) (p : Pt), size p ≤ n → wf z p → okV (enc p)
  | 0, p, h, _ => by have := size_pos p; omega
  | n + 1, p, h, hw => by
    have hi : ∀ c ∈ inner p, okV (enc c) := fun c hc => wf_okV hz n c (by
      have := size_mem hc
      have := size_inner p
      omega) (wf_part hw hc)
    have hl : ∀ ps : List Pt, (∀ c ∈ ps, okV (enc c)) → okV (.tup (encs ps)) := fun ps h => by
      show okVs (encs ps)
      rw [okVs_mem, encs_map]
      intro x hx
      obtain ⟨c, hc, rfl⟩ := List.mem_map.mp hx
      exact h c hc
    cases p with
    | none => exact ⟨okV_lit, trivial⟩
    | blank => exact ⟨okV_lit, trivial⟩
    | sign s => exact ⟨okV_lit, sub_asc hz hw.2, trivial⟩
    | row ps => exact ⟨okV_lit, hl ps hi, trivial⟩
    | pick ps => exact ⟨okV_lit, hl ps hi, trivial⟩
    | again q => exact ⟨okV_lit, hi q (by simp [inner]), trivial⟩
    | held m q => exact ⟨okV_lit, names_okT m hw.1, hi q (by simp [inner]), trivial⟩
    | price m q => exact ⟨okV_lit, trivial, hi q (by simp [inner]), trivial⟩
end L3
namespace L3
open PySem L2
def EntsOk : List DictEntry → List (Str × Int) → Prop
  | [], [] => True
  | e :: es, x :: xs => (∃ t, e.key = .str x.1 t) ∧ (∃ t, e.val = .int x.2 t) ∧ EntsOk es xs
  | _, _ => False
def LenO (P : Program) (w : World) (o : Obj) (l : List (Str × Int)) : Prop := o.ExactDict ∧ ∃ es ep, o.data = .dict es ep ∧ KeysOf (mixKind P w) es ∧ EntsOk es.toList l
theorem key_ok {P : Program} {w : World} (x : Str) (t : Tok) : ∃ k, (mixKind P w).is k (.str x t) = true ∧ PyData.keyHash w.params x = (mixKind P w).hash k := ⟨.inr x, by show Value.isStrOf x (.str x t) = true; simp [Value.isStrOf], rfl⟩
theorem ents_find (k : Str) : ∀ {es : List DictEntry} {l : List (Str × Int)}, EntsOk es l →
    ((es.find? fun e => keyIs (.inr k) e.key).map (·.val) = none ∧ (l.find? fun x => x.1 == k).map (·.2) = none) ∨ ∃ n t, (es.find? fun e => keyIs (.inr k) e.key).map (·.val) = some (.int n t) ∧ (l.find? fun x => x.1 == k).map (·.2) = some n
  | [], [], _ => .inl ⟨rfl, rfl⟩
  | [], _ :: _, h => h.elim
  | _ :: _, [], h => h.elim
  | e :: es, x :: xs, ⟨⟨t, hk⟩, ⟨t', hv⟩, h⟩ => by
    have e1 : keyIs (.inr k) e.key = (x.1 == k) := by rw [hk]; rfl
    rw [List.find?_cons, List.find?_cons, e1]
    cases hb : (x.1 == k) with
    | true => exact .inr ⟨x.2, t', by show some e.val = _; rw [hv], rfl⟩
    | false => exact ents_find k h
theorem len_get {P : Program} {w : World} {K : PySem.W.Frag} {d : Addr} {o : Obj} {l : List (Str × Int)} (h : LenO P w o l) (hk : K.lookup d = some o) (hs : (d == sysModules) = false) : DGet P w K d fun k => (l.find? fun x => x.1 == k).map (·.2) := by
  obtain ⟨ex, es, ep, hd, hks, hv⟩ := h
  refine ⟨hs, o, es, ep, hk, ex, hd, hks, fun k => ?_⟩
  have := ents_find k hv
  unfold findBy
  rw [← Array.find?_toList]
  exact this
end L3
namespace L3
open PySem L2
section
variable {prog : Program} {w : World} {A : Around} {E : Value → Shared → Prop} {s : Shared}
end
end L3
namespace L3
open PySem L2
section
variable {X : Cx} {a b c : Expr} {ta tb tc : E2} {pos : Pos}
end
end L3
namespace L3
open PySem L2
section
variable {K : PySem.W.Frag} {H : Hp}
end
section
variable {X : Cx} {d e : Expr} {td te : E2} {pos p : Pos}
end
end L3
namespace L3
open PySem L2
section
variable {X : Cx} {p : Pos}
end
end L3
namespace L3
open PySem L2
section
variable {X : Cx} {a b : Expr} {ta tb : E2} {pos : Pos}
end
end L3
namespace L3
open PySem L2 PyProof PyProof.Rows
/-- the greatest of a list of ints -/
def maxI2 : C2 := fun ps G Q => match ps with
  | [.ref a] => match lk G a with
    | some xs => match intsOf xs with
      | some ns => 0 < ns.length ∧ ∀ M : Int, M ∈ ns → (∀ a ∈ ns, a ≤ M) → Q (.int M) G
      | none => False
    | none => False
  | _ => False
theorem maxI_i {a : Addr} {G : Gp} {Q : K2} {ns : List Int} (h : lk G a = some (ns.map PV.int)) (hn : 0 < ns.length) (q : ∀ M : Int, M ∈ ns → (∀ a ∈ ns, a ≤ M) → Q (.int M) G) : maxI2 [.ref a] G Q := by
  unfold maxI2; simp only [h, intsOf_map]; exact ⟨hn, q⟩
theorem c_maxI {X : Cx} (hc : X.calm = true) : CallR X (.builtin "max") (lowC X.K maxI2) := by
  intro pins s σ H xs us Q I rs h
  obtain ⟨ps, G, Q2, d, rp, h, cl⟩ := h
  unfold maxI2 at h
  split at h
  · rename_i a
    split at h
    · rename_i ys e
      split at h
      · rename_i ns eb
        obtain ⟨hne, h⟩ := h
        obtain ⟨v, rfl, dv⟩ := one_arg d
        obtain rfl : v = .ref a := dv
        obtain ⟨vs, sa, da⟩ := lk_sq rp e
        obtain rfl := intsOf_D eb da
        obtain ⟨u, rfl, ru⟩ := rs.one
        cases ru
        obtain ⟨its, r, pl, _⟩ := I.list sa
        have hi := intsAre_of r
        obtain ⟨zs, ez⟩ := hi.allInts.items
        have hns : ns = zs.toList.map (·.1) := by rw [← hi.numsOf, ← nums_intItems, ← ez]
        have hsz : 0 < zs.size := by
          have h3 := hne; rw [hns, List.length_map, Array.length_toList] at h3; exact h3
        refine max_intList (I.ok.hd hc) (xs := zs) (by rw [← ez]; exact pl.isList) hsz fun v h' tk hv hk => ?_
        obtain ⟨t, rfl⟩ := intItems_at hv
        obtain ⟨h1, h2⟩ := argBest_gt (numAt zs) (zs.size - 1)
        refine ⟨.int (numAt zs (argBest (fun i j => decide (numAt zs i > numAt zs j)) (zs.size - 1))), H, I.kept (t' := tk) fun b o e => hk b o e, ⟨t, rfl⟩, cl _ _ _ _ (h _ ?_ fun a ha => ?_) rfl rp .refl⟩
        · rw [hns, numAt_eq]; exact getD_mem (by rw [List.length_map, Array.length_toList]; omega)
        · rw [hns] at ha
          obtain ⟨j, hj, rfl⟩ := mem_getD ha
          rw [List.length_map, Array.length_toList] at hj
          rw [← numAt_eq]; exact h2 j (by omega)
      · exact h.elim
    · exact h.elim
  · exact h.elim
theorem jc_maxI {X : Cx} {e : Expr} {es : List Expr} {t : A2} {p pos : Pos} (B : BN X.mg) (hc : X.calm = true) (ha : JA X (e :: es) t) (hg : Gl X "max" := by rfl) (he : starEach (e :: es) X.env = (false, eval e X.env) :: starEach es X.env := by rfl) (hpl : (backTo pos (starEach es X.env)).any (·.1) = false := by rfl) : JE X (.Call (.Name "max" p) (e :: es) [] pos) (eCl maxI2 t) := j_callB (c_maxI hc) B.max boot_max ha hg (by decide) (by decide) he hpl
end L3
namespace PySem
open PyProof.Rows (StrsAre)
section
variable {prog : Program} {w : World} {A : Around} {E : Value → Shared → Prop} {s : Shared} {d : Addr}
end
end PySem
namespace L3
open PySem L2
theorem ltc_one {a b : Nat} : PySem.Spec.ltCps [a] [b] = decide (a < b) := by
  rw [PyProof.Rows.ltCps_eq]
  by_cases h : a < b
  · rw [decide_eq_true h]
    exact decide_eq_true (List.Lex.rel h)
  · rw [decide_eq_false h]
    refine decide_eq_false fun hl => ?_
    cases hl with
    | rel h' => exact h h'
    | cons h' => cases h'
theorem rise_one : ∀ {cs : List Nat} {a : Nat}, PyProof.Rows.risingS (oneS a) (cs.map oneS) = true → (a :: cs).Nodup → (a :: cs).Pairwise (· < ·)
  | [], a, _, _ => by simp
  | b :: cs, a, h, hn => by
    have h' : (!PySem.Spec.ltCps [b] [a] && PyProof.Rows.risingS (oneS b) (cs.map oneS)) = true := h
    rw [Bool.and_eq_true, ltc_one] at h'
    have hab : a < b := by
      have h1 : ¬ b < a := by simpa using h'.1
      have h2 : a ≠ b := by
        have := (List.nodup_cons.mp hn).1
        intro e; subst e; simp at this
      omega
    have ih := rise_one h'.2 (List.nodup_cons.mp hn).2
    refine List.pairwise_cons.mpr ⟨fun c hc => ?_, ih⟩
    rcases List.mem_cons.mp hc with rfl | hc
    · exact hab
    · have := (List.pairwise_cons.mp ih).1 c hc
      omega
theorem sorted_one {cs : List Nat} (h : PyProof.Rows.sortedS (cs.map oneS) = true) (hn : cs.Nodup) : cs.Pairwise (· < ·) := by
  cases cs with
  | nil => simp
  | cons a l => exact rise_one h hn
/-- rising rows of the same numbers are one -/
theorem rising_eq : ∀ {a b : List Nat}, a.Pairwise (· < ·) → b.Pairwise (· < ·) → (∀ x, x ∈ a ↔ x ∈ b) → a = b
  | [], [], _, _, _ => rfl
  | [], y :: b, _, _, h => by have := (h y).mpr (by simp); cases this
  | x :: a, [], _, _, h => by have := (h x).mp (by simp); cases this
  | x :: a, y :: b, ha, hb, h => by
    obtain ⟨a1, a2⟩ := List.pairwise_cons.mp ha
    obtain ⟨b1, b2⟩ := List.pairwise_cons.mp hb
    have hxy : x = y := by
      have h1 := (h x).mp (by simp)
      have h2 := (h y).mpr (by simp)
      rcases List.mem_cons.mp h1 with e | h1
      · exact e
      · rcases List.mem_cons.mp h2 with e | h2
        · exact e.symm
        · have := b1 x h1
          have := a1 y h2
          omega
    subst hxy
    congr 1
    refine rising_eq a2 b2 fun z => ?_
    constructor
    · intro hz
      rcases List.mem_cons.mp ((h z).mp (by simp [hz])) with e | e
      · subst e; have := a1 z hz; omega
      · exact e
    · intro hz
      rcases List.mem_cons.mp ((h z).mpr (by simp [hz])) with e | e
      · subst e; have := b1 z hz; omega
      · exact e
theorem ones_of {ss : List Str} (h : ∀ z ∈ ss, ∃ c, z = oneS c) : ∃ cs : List Nat, ss = cs.map oneS := by
  induction ss with
  | nil => exact ⟨[], rfl⟩
  | cons z ss ih =>
    obtain ⟨c, rfl⟩ := h z (by simp)
    obtain ⟨cs, rfl⟩ := ih fun y hy => h y (by simp [hy])
    exact ⟨c :: cs, rfl⟩
theorem oneS_inj {a b : Nat} (h : oneS a = oneS b) : a = b := by
  have := congrArg (fun z : Str => z.cps.getD 0 0) h
  exact this
theorem nodup_ones {cs : List Nat} (h : (cs.map oneS).Nodup) : cs.Nodup := by
  induction cs with
  | nil => exact .nil
  | cons a l ih =>
    rw [List.map_cons, List.nodup_cons] at h
    exact List.nodup_cons.mpr ⟨fun ha => h.1 (List.mem_map.mpr ⟨a, ha, rfl⟩), ih h.2⟩
theorem nodup_sub_len {α : Type} [DecidableEq α] : ∀ {a b : List α}, a.Nodup → (∀ x ∈ a, x ∈ b) → a.length ≤ b.length
  | [], _, _, _ => Nat.zero_le _
  | x :: a, b, hn, h => by
    obtain ⟨h1, h2⟩ := List.nodup_cons.mp hn
    have hx := h x (by simp)
    have ih := nodup_sub_len (a := a) (b := b.erase x) h2 fun y hy => by
      have hne : y ≠ x := fun e => by subst e; exact h1 hy
      exact (List.mem_erase_of_ne hne).mpr (h y (by simp [hy]))
    rw [List.length_erase_of_mem hx] at ih
    have : 0 < b.length := List.length_pos_of_mem hx
    rw [List.length_cons]
    omega
def sortedSet2 : U2 := fun p G Q => match p with
  | .str z => z.length ≤ 4000 ∧ (∃ B : List Nat, B.length < 64 ∧ ∀ c ∈ z.cps.toList, c ∈ B) ∧ ∀ (cs : List Nat) c, cs.Pairwise (· < ·) → (∀ x, x ∈ cs ↔ x ∈ z.cps.toList) → G c = none → Q (.ref c) (up G c (.lst (cs.map fun c => .str (oneS c))))
  | _ => False
theorem boot_set : bootBuiltins "set" = some (.type "set") := by decide +kernel
theorem BN.set {mg : Str → Option Value} (h : BN mg) : mg "set" = none := h _ (by decide +kernel)
section
variable {X : Cx} {e : Expr} {te : E2}
/-- behind a sort: a new list of texts -/
theorem sorted_end {pins : List (Addr × Obj)} {σ : L2.St} {H : Hp} {s s' : Shared} {l : Addr} {out : Array Value} {cs : List Nat} {ev : Nat} {G : Gp} {Q : VK} {Q2 : K2} {H0 : Hp} (I : L2.Inv X pins σ H s) (hk : ∀ b o, s.heap.get? b = some o → s'.heap.get? b = some o) (hg : s'.gens = s.gens) (ho : s'.os = s.os)
    (hn : s.heap.get? l = none) (he : s'.heap.get? l = some (PyProof.Rows.seqObj "list" out ev)) (hs : PyProof.Rows.StrsAre out.toList (cs.map oneS)) (hl : cs.length < 64) (rp : Rep X.K H G) (cl : Cl X.K H0 Q2 Q) (k0 : Keep X.K H0 H)
    (h : G l = none → Q2 (.ref l) (up G l (.lst (cs.map fun c => .str (oneS c))))) : EP X pins σ Q (.ref l) s' := by
  have hHl : H l = none := I.hok.none_of hn
  obtain ⟨hp', g', d', t', o'⟩ := s'
  obtain rfl : g' = s.gens := hg
  obtain rfl : o' = s.os := ho
  have e1 : (cs.map oneS).map V.str = cs.map fun c => V.str (oneS c) := by rw [List.map_map]; rfl
  have e2 : (cs.map oneS).map PV.str = cs.map fun c => PV.str (oneS c) := by rw [List.map_map]; rfl
  refine ⟨.ref l, upd H l (.lst ((cs.map oneS).map V.str)), I.call (ch := []) (Un.laidN hk hn hHl) (I.hok.laidN hk hHl ?_) I.bare (fun b z => absurd z (by simp)), rfl, cl _ _ _ _ (h (rp.none hHl)) rfl ?_ (k0.trans (keep_new hHl))⟩
  · exact ⟨by rw [List.length_map, List.length_map]; exact big (by omega), out.toList, ev, vals_strs hs, by simpa using he⟩
  · rw [← e2]
    exact rp.new hHl (strs_D _)
/-- sorted(set(e)) of a text -/
theorem pe_sortedSet {tE : TE} {p1 p2 pos pos2 : Pos} (B : BN X.mg) (hc : X.calm = true) (he : PE X e tE) (hg : Gl X "sorted" := by rfl) (hg2 : Gl X "set" := by rfl)
    (hs1 : starEach [Expr.Call (.Name "set" p2) [e] [] pos2] X.env = [(false, eval (Expr.Call (.Name "set" p2) [e] [] pos2) X.env)] := by rfl) (hs2 : starEach [e] X.env = [(false, eval e X.env)] := by rfl) :
    PE X (.Call (.Name "sorted" p1) [.Call (.Name "set" p2) [e] [] pos2] [] pos) (fun σ H Q => tE σ H (lowU X.K sortedSet2 · · Q)) := by
  intro pins s σ H Q I h
  refine wpAny_Call_Name_kw (ld_blt (u := .builtin "sorted") I hg B.sorted boot_sorted ?_)
  refine PyProof.Rows.callWith_builtin1 ?_ (by rw [hs1]; rfl) (by rfl)
  rw [hs1]
  refine Calls.spliced_cons ?_
  refine wpAny_Call_Name_kw (ld_blt (u := .type "set") I hg2 B.set boot_set ?_)
  refine PyProof.Rows.callWith_type1 ?_ (by rw [hs2]; rfl) (by rfl)
  rw [hs2]
  refine Calls.spliced_cons (thn (he pins s σ H _ I h) fun u s1 ⟨x, H1, I1, r1, q1⟩ => Calls.spliced_nil ?_)
  obtain ⟨pv, G, Q2, d1, rp, q, cl⟩ := q1
  unfold sortedSet2 at q
  split at q
  · rename_i z
    obtain ⟨hz, ⟨Bs, hB, hBm⟩, q⟩ := q
    obtain rfl : x = .str z := d1
    obtain ⟨t, rfl⟩ := r1
    have hh : X.A.handled = none := I1.ok.hd hc
    refine call_set_str z t hh (by have : z.cps.size = z.length := rfl; show _ < 4096; omega) fun h' tk ks hS hkl hmem hkp => Calls.spliced_nil ?_
    have hks : ∀ y ∈ ks, ∃ c, y = oneS c ∧ c ∈ z.cps.toList := fun y hy => by
      have := (hmem y).mp hy
      unfold sgs at this
      rw [List.take_of_length_le (by simp)] at this
      obtain ⟨c, hc', rfl⟩ := List.mem_map.mp this
      exact ⟨c, rfl, hc'⟩
    obtain ⟨cs0, e0⟩ := ones_of (ss := ks) fun y hy => let ⟨c, h, _⟩ := hks y hy; ⟨c, h⟩
    have hnd : ks.Nodup := by obtain ⟨_, _, _, _, _, _, _, _, _, _, hn⟩ := hS; exact hn
    have hlen : ks.length < 64 := by
      have h1 : cs0.length ≤ Bs.length := nodup_sub_len (nodup_ones (by rw [← e0]; exact hnd)) fun c hc' => by
        obtain ⟨d, hd, hd'⟩ := hks (oneS c) (by rw [e0]; exact List.mem_map.mpr ⟨c, hc', rfl⟩)
        rw [oneS_inj hd]
        exact hBm d hd'
      rw [e0, List.length_map]
      omega
    have kp : ∀ b o, s1.heap.get? b = some o → h'.get? b = some o := fun b o q => hkp b o (Heap.lt_size q) q
    refine sorted_of (ks := ks) (s := { s1 with heap := h', toks := tk }) (.ref s1.heap.objs.size) (fun R hR => collect_set (by simp [hh]) hS hR) hlen fun s' l out ss ev hk hg' ho' hn' he' hst hp hsrt => ?_
    obtain ⟨cs, rfl⟩ := ones_of (ss := ss) fun y hy => let ⟨c, h, _⟩ := hks y (hp.mem_iff.mp hy); ⟨c, h⟩
    have hlen2 : cs.length < 64 := by
      have := hp.length_eq
      rw [List.length_map] at this
      omega
    have hn1 : s1.heap.get? l = none := by
      cases e : s1.heap.get? l with
      | none => rfl
      | some o => have := kp l o e; rw [hn'] at this; cases this
    refine sorted_end I1 (fun b o q => hk b o (kp b o q)) hg' ho' hn1 he' hst hlen2 rp cl .refl fun hGl => q cs l (sorted_one hsrt (nodup_ones (hp.nodup_iff.mpr hnd))) (fun x => ?_) hGl
    constructor
    · intro hx
      obtain ⟨d, hd, hd'⟩ := hks (oneS x) (hp.mem_iff.mp (List.mem_map.mpr ⟨x, hx, rfl⟩))
      rw [oneS_inj hd]
      exact hd'
    · intro hx
      have : oneS x ∈ ks := (hmem (oneS x)).mpr (by
        unfold sgs
        rw [List.take_of_length_le (by simp)]
        exact List.mem_map.mpr ⟨x, hx, rfl⟩)
      obtain ⟨y, hy, ey⟩ := List.mem_map.mp (hp.mem_iff.mpr this)
      rw [← oneS_inj ey]
      exact hy
  · exact q.elim
theorem j_sortedSet {p1 p2 pos pos2 : Pos} (B : BN X.mg) (hc : X.calm = true) (he : JE X e te) (hg : Gl X "sorted" := by rfl) (hg2 : Gl X "set" := by rfl)
    (hs1 : starEach [Expr.Call (.Name "set" p2) [e] [] pos2] X.env = [(false, eval (Expr.Call (.Name "set" p2) [e] [] pos2) X.env)] := by rfl) (hs2 : starEach [e] X.env = [(false, eval e X.env)] := by rfl) :
    JE X (.Call (.Name "sorted" p1) [.Call (.Name "set" p2) [e] [] pos2] [] pos) (eUn sortedSet2 te) := .of (pe_sortedSet B hc he.h hg hg2 hs1 hs2) fun σ H Q ⟨τ, G, Q2, rs, rp, q, cl⟩ =>
  ⟨τ, G, _, rs, rp, q, fun p1 G1 v1 H1 q1 d1 r1 k1 => ⟨p1, G1, Q2, d1, r1, q1, cl.keep k1⟩⟩
end
end L3
namespace T07
open PySem L2 L3
local macro_rules | `(tactic| get_elem_tactic_extensible) => `(tactic| repeat' first
  | (show JB _ _ _; first
      | exact jb_nil
      | refine' jb_one ?_
      | refine' jb_cons ?_ ?_)
  | (show JA _ _ _; first
      | exact ja_nil
      | refine' ja_cons ?_ ?_)
  | (show JF _ _ _; first
      | exact jf_nil
      | refine' jf_one ?_)
  | (show JO _ _ _; first
      | exact jo_none
      | refine' jo_some ?_)
  | (show JS _ (.Assign [.Name _ _] _ _) _; first
      | refine' js_set (i := 0) ?_ (by assumption) rfl (by first | exact Or.inl rfl | exact Or.inr rfl)
      | refine' js_set (i := 1) ?_ (by assumption) rfl (by first | exact Or.inl rfl | exact Or.inr rfl)
      | refine' js_set (i := 2) ?_ (by assumption) rfl (by first | exact Or.inl rfl | exact Or.inr rfl)
      | refine' js_set (i := 3) ?_ (by assumption) rfl (by first | exact Or.inl rfl | exact Or.inr rfl)
      | refine' js_set (i := 4) ?_ (by assumption) rfl (by first | exact Or.inl rfl | exact Or.inr rfl)
      | refine' js_set (i := 5) ?_ (by assumption) rfl (by first | exact Or.inl rfl | exact Or.inr rfl)
      | refine' js_set (i := 6) ?_ (by assumption) rfl (by first | exact Or.inl rfl | exact Or.inr rfl)
      | refine' js_set (i := 7) ?_ (by assumption) rfl (by first | exact Or.inl rfl | exact Or.inr rfl)
      | refine' js_set (i := 8) ?_ (by assumption) rfl (by first | exact Or.inl rfl | exact Or.inr rfl)
      | refine' js_set (i := 9) ?_ (by assumption) rfl (by first | exact Or.inl rfl | exact Or.inr rfl)
      | refine' js_set (i := 10) ?_ (by assumption) rfl (by first | exact Or.inl rfl | exact Or.inr rfl)
      | refine' js_set (i := 11) ?_ (by assumption) rfl (by first | exact Or.inl rfl | exact Or.inr rfl))
  | (show JS _ (.Assign [.Subscript _ _ _] _ _) _; first
      | refine' js_asg ?_ (jg_sub ?_ ?_ set_L))
  | (show JS _ (.Assign [.Tuple _ _ _] _ _) _; first
      | refine' js_asg ?_ (jg_name3 (i := 0) (j := 1) (k := 2) rfl (by assumption) rfl (by first | exact Or.inl rfl | exact Or.inr rfl) rfl (by first | exact Or.inl rfl | exact Or.inr rfl) rfl (by first | exact Or.inl rfl | exact Or.inr rfl))
      | refine' js_asg ?_ (jg_name3 (i := 1) (j := 2) (k := 3) rfl (by assumption) rfl (by first | exact Or.inl rfl | exact Or.inr rfl) rfl (by first | exact Or.inl rfl | exact Or.inr rfl) rfl (by first | exact Or.inl rfl | exact Or.inr rfl))
      | refine' js_asg ?_ (jg_name3 (i := 2) (j := 3) (k := 4) rfl (by assumption) rfl (by first | exact Or.inl rfl | exact Or.inr rfl) rfl (by first | exact Or.inl rfl | exact Or.inr rfl) rfl (by first | exact Or.inl rfl | exact Or.inr rfl))
      | refine' js_asg ?_ (jg_name3 (i := 3) (j := 4) (k := 5) rfl (by assumption) rfl (by first | exact Or.inl rfl | exact Or.inr rfl) rfl (by first | exact Or.inl rfl | exact Or.inr rfl) rfl (by first | exact Or.inl rfl | exact Or.inr rfl))
      | refine' js_asg ?_ (jg_name3 (i := 4) (j := 5) (k := 6) rfl (by assumption) rfl (by first | exact Or.inl rfl | exact Or.inr rfl) rfl (by first | exact Or.inl rfl | exact Or.inr rfl) rfl (by first | exact Or.inl rfl | exact Or.inr rfl))
      | refine' js_asg ?_ (jg_name3 (i := 5) (j := 6) (k := 7) rfl (by assumption) rfl (by first | exact Or.inl rfl | exact Or.inr rfl) rfl (by first | exact Or.inl rfl | exact Or.inr rfl) rfl (by first | exact Or.inl rfl | exact Or.inr rfl))
      | refine' js_asg ?_ (jg_name3 (i := 6) (j := 7) (k := 8) rfl (by assumption) rfl (by first | exact Or.inl rfl | exact Or.inr rfl) rfl (by first | exact Or.inl rfl | exact Or.inr rfl) rfl (by first | exact Or.inl rfl | exact Or.inr rfl))
      | refine' js_asg ?_ (jg_name3 (i := 7) (j := 8) (k := 9) rfl (by assumption) rfl (by first | exact Or.inl rfl | exact Or.inr rfl) rfl (by first | exact Or.inl rfl | exact Or.inr rfl) rfl (by first | exact Or.inl rfl | exact Or.inr rfl)))
  | (show JS _ (.Return (some _) _) _; first
      | refine' js_ret ?_)
  | (show JS _ (.If _ _ _ _) _; first
      | refine' js_if ?_ ?_ ?_)
  | (show JS _ (.For _ _ _ [] _) _; first
      | refine' js_for PassesOwn.never rfl ?_ ?_ ?_)
  | (show JS _ (.While _ _ [] _) _; first
      | refine' js_while PassesOwn.never ?_ ?_)
  | (show JS _ (.Expr _ _) _; first
      | refine' js_expr ?_)
  | (show JS _ (.AugAssign (.Name _ _) _ _ _) _; first
      | refine' js_aug (n := 0) p_add ?_ (by assumption) rfl (by first | exact Or.inl rfl | exact Or.inr rfl)
      | refine' js_aug (n := 1) p_add ?_ (by assumption) rfl (by first | exact Or.inl rfl | exact Or.inr rfl)
      | refine' js_aug (n := 2) p_add ?_ (by assumption) rfl (by first | exact Or.inl rfl | exact Or.inr rfl)
      | refine' js_aug (n := 3) p_add ?_ (by assumption) rfl (by first | exact Or.inl rfl | exact Or.inr rfl)
      | refine' js_aug (n := 4) p_add ?_ (by assumption) rfl (by first | exact Or.inl rfl | exact Or.inr rfl)
      | refine' js_aug (n := 5) p_add ?_ (by assumption) rfl (by first | exact Or.inl rfl | exact Or.inr rfl)
      | refine' js_aug (n := 6) p_add ?_ (by assumption) rfl (by first | exact Or.inl rfl | exact Or.inr rfl)
      | refine' js_aug (n := 7) p_add ?_ (by assumption) rfl (by first | exact Or.inl rfl | exact Or.inr rfl))
  | (show JS _ (.AugAssign (.Subscript _ _ _) _ _ _) _; first
      | refine' js_augS g_seq p_add set_L ?_ ?_ ?_)
  | (show JS _ _ _; first
      | exact js_break
      | exact js_cont
      | exact js_pass)
  | (show JE _ (.Name _ _) _; first
      | exact jv 0
      | exact jv 1
      | exact jv 2
      | exact jv 3
      | exact jv 4
      | exact jv 5
      | exact jv 6
      | exact jv 7
      | exact jv 8
      | exact jv 9
      | exact jv 10
      | exact jv 11
      | exact jn_int (by assumption)
      | exact jn_bool (by assumption)
      | exact jn_str (by assumption)
      | exact jn_tuple (by assumption)
      | exact jn_list (by assumption)
      | exact j_gint (by assumption)
      | exact j_gstr (by assumption))
  | (show JE _ (.Constant _ _ _) _; first
      | exact j_int
      | exact j_str
      | exact j_bl
      | exact j_non)
  | (show JE _ (.BinOp _ .Add _ _) _; first
      | refine' jb_add ?_ ?_)
  | (show JE _ (.BinOp (.Tuple _ _ _) .Mult _ _) _; first
      | refine' jb_mulU ?_ ?_)
  | (show JT _ (.Compare (.Constant .none _ _) [.In] _ _) _; first
      | refine' jt_inNone (by assumption) ?_ ?_ rfl)
  | (show JT _ (.Compare _ [.IsNot] [.Constant (.bool _) _ _] _) _; first
      | refine' jt_isnB ?_ ?_ rfl)
  | (show JE _ (.BinOp _ .Sub _ _) _; first
      | refine' jb_sub ?_ ?_)
  | (show JE _ (.BinOp _ .Mult _ _) _; first
      | refine' jb_mul ?_ ?_)
  | (show JE _ (.BinOp _ .Mod _ _) _; first
      | refine' jb_mod ?_ ?_)
  | (show JE _ (.BinOp _ .FloorDiv _ _) _; first
      | refine' jb_fdiv ?_ ?_)
  | (show JE _ (.BinOp _ .Pow _ _) _; first
      | refine' jb_pow ?_ ?_)
  | (show JT _ (.Compare _ [.NotIn] [.Call (.Name _ _) _ _ _] _) _; first
      | refine' jt_notinR ?_ ?_ rfl)
  | (show JT _ (.Compare _ [.Eq] _ _) _; first
      | refine' jt_eq (by assumption) ?_ ?_)
  | (show JE _ (.Compare _ [.Eq] _ _) _; first
      | refine' jk_eq (by assumption) ?_ ?_)
  | (show JT _ (.Compare _ [.NotEq] _ _) _; first
      | refine' jt_ne (by assumption) ?_ ?_)
  | (show JE _ (.Compare _ [.NotEq] _ _) _; first
      | refine' jk_ne (by assumption) ?_ ?_)
  | (show JT _ (.Compare _ [.Lt] _ _) _; first
      | refine' jt_lt ?_ ?_)
  | (show JE _ (.Compare _ [.Lt] _ _) _; first
      | refine' jk_lt ?_ ?_)
  | (show JT _ (.Compare _ [.LtE] _ _) _; first
      | refine' jt_le ?_ ?_)
  | (show JE _ (.Compare _ [.LtE] _ _) _; first
      | refine' jk_le ?_ ?_)
  | (show JT _ (.Compare _ [.Gt] _ _) _; first
      | refine' jt_gt ?_ ?_)
  | (show JE _ (.Compare _ [.Gt] _ _) _; first
      | refine' jk_gt ?_ ?_)
  | (show JT _ (.Compare _ [.GtE] _ _) _; first
      | refine' jt_ge ?_ ?_)
  | (show JE _ (.Compare _ [.GtE] _ _) _; first
      | refine' jk_ge ?_ ?_)
  | (show JT _ (.Compare _ [.In] _ _) _; first
      | refine' jt_in ?_ ?_ rfl)
  | (show JE _ (.Compare _ [.In] _ _) _; first
      | refine' jk_in ?_ ?_ rfl)
  | (show JT _ (.Compare _ [.NotIn] _ _) _; first
      | refine' jt_notin ?_ ?_ rfl)
  | (show JE _ (.Compare _ [.NotIn] _ _) _; first
      | refine' jk_notin ?_ ?_ rfl)
  | (show JT _ (.Compare _ [.Is] _ _) _; first
      | refine' jt_isN ?_ ?_ rfl)
  | (show JE _ (.Compare _ [.Is] _ _) _; first
      | refine' jk_isN ?_ ?_ rfl)
  | (show JT _ (.Compare _ [.IsNot] _ _) _; first
      | refine' jt_isnN ?_ ?_ rfl)
  | (show JE _ (.Compare _ [.IsNot] _ _) _; first
      | refine' jk_isnN ?_ ?_ rfl)
  | (show JT _ (.Compare _ [.LtE, .LtE] _ _) _; first
      | refine' jt_lele ?_ ?_ ?_)
  | (show JE _ (.Compare _ [.LtE, .LtE] _ _) _; first
      | refine' jk_lele ?_ ?_ ?_)
  | (show JT _ (.Compare _ [.LtE, .Lt] _ _) _; first
      | refine' jt_lelt ?_ ?_ ?_)
  | (show JE _ (.Compare _ [.LtE, .Lt] _ _) _; first
      | refine' jk_lelt ?_ ?_ ?_)
  | (show JT _ (.UnaryOp .Not _ _) _; first
      | refine' jt_not ?_)
  | (show JT _ (.BoolOp _ _ _) _; first
      | refine' jw_t ?_)
  | (show JW _ _ _; first
      | refine' jw_or ?_ ?_
      | refine' jw_and ?_ ?_
      | refine' jw_or1 ?_
      | refine' jw_and1 ?_)
  | (show JT _ _ _; first
      | refine' jt_val ?_)
  | (show JE _ (.UnaryOp .Not _ _) _; first
      | refine' j_not ?_)
  | (show JE _ (.UnaryOp .USub _ _) _; first
      | refine' j_un u_neg ?_)
  | (show JE _ (.BoolOp _ _ _) _; first
      | refine' j_and ?_ ?_
      | refine' j_or ?_ ?_
      | refine' j_one ?_)
  | (show JE _ (.IfExp _ _ _ _) _; first
      | refine' j_ifE ?_ ?_ ?_)
  | (show JE _ (.List _ _) _; first
      | refine' j_lst ?_)
  | (show JE _ (.Tuple _ _ _) _; first
      | refine' j_tup ?_)
  | (show JE _ (.Subscript (.Dict _ _ _) _ _) _; first
      | refine' j_dix (by assumption) (j_dispC rfl (by simp) (by decide)) ?_)
  | (show JE _ (.Subscript _ (.Slice _ _ _ _) _) _; first
      | refine' j_rev ?_
      | refine' j_slice ?_ ?_ ?_)
  | (show JE _ (.Subscript _ _ _) _; first
      | refine' j_ixS ?_ ?_)
  | (show JE _ (.Call (.Name _ _) [.Call (.Name (Str.ofString "set") _) _ _ _] [] _) _; first
      | refine' j_sortedSet (by assumption) rfl ?_)
  | (show JE _ (.Dict [] [] _) _; first
      | exact j_dnew)
  | (show JE _ (.Call (.Name _ _) _ [_] _) _; first
      | refine' j_minD (by assumption) rfl ?_ ?_
      | refine' j_maxD (by assumption) rfl ?_ ?_)
  | (show JE _ (.Call (.Attribute _ _ _) _ _ _) _; first
      | refine' j_getD (by assumption) (by assumption) ?_
      | refine' jm_append ?_ ?_
      | refine' jm_extend ?_ ?_
      | refine' jm_join ?_ ?_
      | refine' jm_pop ?_
      | refine' jm_reverse ?_)
  | (show JE _ (.Call (.Name _ _) _ _ _) _; first
      | refine' j_cal (by assumption) (by assumption) (by first | assumption | omega) ?_
      | refine' jc_len (by assumption) ?_
      | refine' jc_inst (by assumption) ?_
      | refine' jc_all (by assumption) rfl ?_
      | refine' jc_any (by assumption) rfl ?_
      | refine' jc_max (by assumption) rfl ?_
      | refine' jc_sum (by assumption) rfl ?_
      | refine' jc_sortedS (by assumption) rfl ?_
      | refine' jc_list (by assumption) rfl ?_
      | refine' jc_tuple (by assumption) ?_
      | refine' jc_range (by assumption) ?_
      | refine' jc_int (by assumption) ?_)
  | (show JI _ _ (.Call (.Name _ _) _ _ _) _; first
      | refine' ji_zipT (BN.zip (by assumption)) ?_
      | refine' ji_range1 (BN.range (by assumption)) ?_
      | refine' ji_range2 (BN.range (by assumption)) ?_
      | refine' ji_range3 (BN.range (by assumption)) ?_
      | refine' ji_enum (BN.enumerate (by assumption)) ?_
      | refine' ji_name ?_
      | refine' ji_list ?_)
  | (show JI _ _ _ _; first
      | refine' ji_name ?_
      | refine' ji_list ?_)
  | (show JG _ (.Name _ _) _; first
      | exact jg_name (i := 0) (by assumption) rfl (by first | exact Or.inl rfl | exact Or.inr rfl)
      | exact jg_name (i := 1) (by assumption) rfl (by first | exact Or.inl rfl | exact Or.inr rfl)
      | exact jg_name (i := 2) (by assumption) rfl (by first | exact Or.inl rfl | exact Or.inr rfl)
      | exact jg_name (i := 3) (by assumption) rfl (by first | exact Or.inl rfl | exact Or.inr rfl)
      | exact jg_name (i := 4) (by assumption) rfl (by first | exact Or.inl rfl | exact Or.inr rfl)
      | exact jg_name (i := 5) (by assumption) rfl (by first | exact Or.inl rfl | exact Or.inr rfl)
      | exact jg_name (i := 6) (by assumption) rfl (by first | exact Or.inl rfl | exact Or.inr rfl)
      | exact jg_name (i := 7) (by assumption) rfl (by first | exact Or.inl rfl | exact Or.inr rfl)
      | exact jg_name (i := 8) (by assumption) rfl (by first | exact Or.inl rfl | exact Or.inr rfl)
      | exact jg_name (i := 9) (by assumption) rfl (by first | exact Or.inl rfl | exact Or.inr rfl)
      | exact jg_name (i := 10) (by assumption) rfl (by first | exact Or.inl rfl | exact Or.inr rfl)
      | exact jg_name (i := 11) (by assumption) rfl (by first | exact Or.inl rfl | exact Or.inr rfl))
  | (show JG _ (.Tuple _ _ _) _; first
      | refine' jg_name2 (i := 0) (j := 1) rfl (by assumption) rfl (by first | exact Or.inl rfl | exact Or.inr rfl) rfl (by first | exact Or.inl rfl | exact Or.inr rfl)
      | refine' jg_name2 (i := 1) (j := 2) rfl (by assumption) rfl (by first | exact Or.inl rfl | exact Or.inr rfl) rfl (by first | exact Or.inl rfl | exact Or.inr rfl)
      | refine' jg_name2 (i := 2) (j := 3) rfl (by assumption) rfl (by first | exact Or.inl rfl | exact Or.inr rfl) rfl (by first | exact Or.inl rfl | exact Or.inr rfl)
      | refine' jg_name2 (i := 3) (j := 4) rfl (by assumption) rfl (by first | exact Or.inl rfl | exact Or.inr rfl) rfl (by first | exact Or.inl rfl | exact Or.inr rfl)
      | refine' jg_name2 (i := 4) (j := 5) rfl (by assumption) rfl (by first | exact Or.inl rfl | exact Or.inr rfl) rfl (by first | exact Or.inl rfl | exact Or.inr rfl)
      | refine' jg_name2 (i := 5) (j := 6) rfl (by assumption) rfl (by first | exact Or.inl rfl | exact Or.inr rfl) rfl (by first | exact Or.inl rfl | exact Or.inr rfl)
      | refine' jg_name2 (i := 6) (j := 7) rfl (by assumption) rfl (by first | exact Or.inl rfl | exact Or.inr rfl) rfl (by first | exact Or.inl rfl | exact Or.inr rfl)
      | refine' jg_name2 (i := 7) (j := 8) rfl (by assumption) rfl (by first | exact Or.inl rfl | exact Or.inr rfl) rfl (by first | exact Or.inl rfl | exact Or.inr rfl)
      | refine' jg_name2 (i := 8) (j := 9) rfl (by assumption) rfl (by first | exact Or.inl rfl | exact Or.inr rfl) rfl (by first | exact Or.inl rfl | exact Or.inr rfl)
      | refine' jg_name2 (i := 9) (j := 10) rfl (by assumption) rfl (by first | exact Or.inl rfl | exact Or.inr rfl) rfl (by first | exact Or.inl rfl | exact Or.inr rfl)))
def top (i : Nat) : Stmt := PySem.Challenge.pw_tastegrove_k07_whole_patterns_put_togeth.main.body.getD i (.Pass ⟨0, 0, 0, 0⟩)
abbrev xInner : Stmt := top 14
abbrev xMakes : Stmt := top 22
section
variable {P : Program} {w : World} {K : PySem.W.Frag} {mg : Str → Option Value} {base : Heap} {f fi : Addr} {fd di : FuncData}
theorem scInner : FnScope ["pattern", "kind"] ["pattern"] (defScope xInner) := ⟨rfl, rfl, rfl, by decide +kernel, rfl, by decide +kernel, by decide +kernel⟩
def spInner : Sp2 := fun ps G Q => ∃ p, ps = [enc p] ∧ Q (.tup (encs (inner p))) G
set_option maxHeartbeats 2000000 in
theorem ok_inner (F : Fun K "inner_patterns" "inner_patterns" xInner f fd) (B : BN mg) : Ok2 P w K mg base 1 f fd ["pattern"] spInner := by
  have nd := scInner.nd
  refine fn2 F scInner (fun vs G Q h => ?_) (fun cdv A outer s H E as G Q hr h => ?_)
  · obtain ⟨p, rfl, _⟩ := h
    rfl
  have hU := u200 hr
  apply ex2
  case a => get_elem_tactic_extensible
  obtain ⟨p, rfl, q⟩ := h
  cases p with
  | none => exact ⟨lek, rfl, rfl, rfl, rfl, lek, rfl, rfl, lek, G, GE.refl, q⟩
  | blank => exact ⟨lek, rfl, rfl, rfl, rfl, lek, rfl, rfl, lek, G, GE.refl, q⟩
  | sign s => exact ⟨lek, rfl, rfl, rfl, rfl, lek, rfl, rfl, lek, G, GE.refl, q⟩
  | row ps => exact ⟨lek, rfl, rfl, G, GE.refl, q⟩
  | pick ps => exact ⟨lek, rfl, rfl, G, GE.refl, q⟩
  | again p => exact ⟨lek, rfl, rfl, rfl, rfl, lek, G, GE.refl, q⟩
  | held n p => exact ⟨lek, rfl, rfl, rfl, rfl, lek, rfl, rfl, lek, G, GE.refl, q⟩
  | price n p => exact ⟨lek, rfl, rfl, rfl, rfl, lek, rfl, rfl, lek, G, GE.refl, q⟩
theorem scMakes : FnScope ["pattern", "makes", "waiting", "make"] ["pattern"] (defScope xMakes) := ⟨rfl, rfl, rfl, by decide +kernel, rfl, by decide +kernel, by decide +kernel⟩
def spMakes : Sp2 := fun ps G Q => ∃ p, ps = [enc p] ∧ size p ≤ 10000 ∧ ∀ c, G c = none → Q (.ref c) (up G c (.lst (encs (makes p))))
set_option maxHeartbeats 2000000 in
theorem ok_makes (F : Fun K "makes_of" "makes_of" xMakes f fd) (B : BN mg) (C : Cal2 P w K mg base 1 "inner_patterns" fi di ["pattern"] spInner) : Ok2 P w K mg base 2 f fd ["pattern"] spMakes := by
  have nd := scMakes.nd
  refine fn2 F scMakes (fun vs G Q h => ?_) (fun cdv A outer s H E as G Q hr h => ?_)
  · obtain ⟨p, rfl, _⟩ := h
    rfl
  have hU := u200 hr
  apply ex2
  case a => get_elem_tactic_extensible
  obtain ⟨p, rfl, hz, q⟩ := h
  refine ⟨lek, fun m hm => ⟨lek, fun v hv => ?_⟩⟩
  obtain ⟨hvm, hv⟩ := up_none hv
  refine ⟨fun k τ G' => ∃ (dn st : List Pt) (z : Option PV), τ = [some (enc p), some (.ref m), some (.ref v), z] ∧ G' m = some (.lst (encs dn)) ∧ G' v = some (.lst (encs st.reverse)) ∧ GE G G' ∧ dn ++ makess st = makes p ∧ k = sizes st,
    ⟨_, [], [p], .none, rfl, by rw [up_ne (Ne.symm hvm), up_same]; rfl, by rw [up_same]; rfl, (GE.refl.new hm).mod hv, by simp [makess], rfl⟩, ?_⟩
  rintro k τ G' ⟨dn, st, z, rfl, gm, gv, ge, he, rfl⟩
  have hl : dn.length + sizes st = size p := by
    have := congrArg List.length he
    rwa [List.length_append, makess_length, makes_length] at this
  refine len_i (lk_lst gv) ?_
  cases st with
  | nil =>
    have hd : dn = makes p := by simpa [makess] using he
    subst hd
    exact ⟨_, ge.at gm, q m hm⟩
  | cons x st =>
    have ln : (encs (x :: st).reverse).length = st.length + 1 := by rw [encs_length, List.length_reverse]; rfl
    have hs : sizes (x :: st) = size x + sizes st := rfl
    have hx := size_inner x
    have hi := length_le_sizes (inner x)
    have hst := length_le_sizes st
    rw [show encs (x :: st).reverse = encs st.reverse ++ [enc x] by rw [List.reverse_cons, encs_append]; rfl] at gv ln ⊢
    refine ifT ?_ ?_
    · refine decide_eq_true ?_
      rw [ln]; omega
    refine ⟨⟨_, gv⟩, pop_i gv ?_⟩
    refine ⟨⟨encs dn, by rw [up_ne (Ne.symm hvm)]; exact gm⟩, append_i (by rw [up_ne (Ne.symm hvm)]; exact gm) (by rw [encs_length]; omega) ?_⟩
    refine ⟨⟨_, by rw [up_ne hvm, up_same]⟩, x, rfl, extT_i (by rw [up_ne hvm, up_same]) ?_ ?_⟩
    · rw [List.length_reverse, encs_length, encs_length, List.length_reverse]; omega
    refine ⟨sizes (inner x ++ st), ?_, dn ++ [x], inner x ++ st, _, rfl, ?_, ?_, ((ge.mod hv).mod hm).mod hv, ?_, rfl⟩
    · rw [sizes_append]; omega
    · rw [up_ne (Ne.symm hvm), up_same, encs_append]; rfl
    · rw [up_same, List.reverse_append, encs_append, encs_reverse (inner x)]
    · rw [makess_append]
      rw [← he]
      simp [makess, makes_inner x]
end
abbrev xPool : Stmt := top 27
abbrev xNext : Stmt := top 28
abbrev xLetters : Stmt := top 29
section
variable {P : Program} {w : World} {K : PySem.W.Frag} {mg : Str → Option Value} {base : Heap} {f fn : Addr} {fd dn : FuncData}
theorem scPool : FnScope ["cell"] ["cell"] (defScope xPool) := ⟨rfl, rfl, rfl, by decide +kernel, rfl, by decide +kernel, by decide +kernel⟩
set_option maxHeartbeats 2000000 in
theorem ok_pool (F : Fun K "_law_pool" "_law_pool" xPool f fd) (B : BN mg) : Ok2 P w K mg base 1 f fd ["cell"] spPool := by
  have nd := scPool.nd
  refine fn2 F scPool (fun vs G Q h => ?_) (fun cdv A outer s H E as G Q hr h => ?_)
  · obtain ⟨p, rfl, _⟩ := h
    rfl
  have hU := u200 hr
  apply ex2
  case a => get_elem_tactic_extensible
  obtain ⟨c, rfl, q⟩ := h
  have cp : CPow 10 18 := ⟨by decide, by decide, by decide⟩
  refine ⟨cp, cp, (by decide : (0 : Int) < 10 ^ 18), lek, fun a ha => ⟨_, GE.refl, q a _ ha ⟨_, _, 0, up_same, ?_⟩ (Ch.refl.put (by simp))⟩⟩
  show (0 : Int) ≤ if c - 10 ^ 18 > 0 then c - 10 ^ 18 else 0
  split <;> omega
theorem scNext : FnScope ["pool", "base", "digit", "near", "stir"] ["pool", "base"] (defScope xNext) := ⟨rfl, rfl, rfl, by decide +kernel, rfl, by decide +kernel, by decide +kernel⟩
set_option maxHeartbeats 2000000 in
theorem ok_next (F : Fun K "_law_next" "_law_next" xNext f fd) (B : BN mg) : Ok2 P w K mg base 1 f fd ["pool", "base"] spNext := by
  have nd := scNext.nd
  refine fn2 F scNext (fun vs G Q h => ?_) (fun cdv A outer s H E as G Q hr h => ?_)
  · obtain ⟨a, b, rfl, _⟩ := h
    rfl
  have hU := u200 hr
  apply ex2
  case a => get_elem_tactic_extensible
  obtain ⟨a, b, rfl, ⟨x, y, z, ga, hx⟩, b1, b2, q⟩ := h
  with_reducible conv => whnf
  refine ixL_i (lk_lst ga) rfl ?_
  refine ifB (fun hp => ?_) (fun hp => ?_)
  · with_reducible conv => whnf
    refine ixL_i (i := 0) (lk_lst ga) rfl ?_
    refine ⟨by omega, ?_⟩
    with_reducible conv => whnf
    refine ixL_i (i := 0) (lk_lst ga) rfl ?_
    refine ⟨⟨by omega, Int.le_trans b2 (by decide)⟩, ?_⟩
    with_reducible conv => whnf
    refine setL_i (k := 0) ga rfl ?_
    exact ⟨_, GE.refl, q _ _ (Int.emod_nonneg _ (by omega)) (Int.emod_lt_of_pos _ (by omega)) ⟨x / b, y, z, up_same, Int.ediv_nonneg hx (by omega)⟩ (Ch.refl.put (by simp))⟩
  · with_reducible conv => whnf
    refine ixL_i (i := 2) (lk_lst ga) rfl ?_
    with_reducible conv => whnf
    refine setL_i (k := 2) ga rfl ?_
    with_reducible conv => whnf
    refine ixL_i (i := 1) (lk_lst up_same) rfl ?_
    with_reducible conv => whnf
    refine ixL_i (i := 2) (lk_lst up_same) rfl ?_
    refine ⟨.inl ⟨by decide, by decide⟩, (by decide : (0 : Int) < 1000000007), ?_⟩
    have n0 : 0 ≤ (y + 7919 * (z + 1)) % 1000000007 := Int.emod_nonneg _ (by decide)
    have n1 : (y + 7919 * (z + 1)) % 1000000007 < 1000000007 := Int.emod_lt_of_pos _ (by decide)
    refine ⟨.inl ⟨?_, ?_⟩, (by decide : (0 : Int) < 998244353), ?_⟩
    · show -(2 ^ 64) < (y + 7919 * (z + 1)) % 1000000007 + 11
      omega
    · show (y + 7919 * (z + 1)) % 1000000007 + 11 < 2 ^ 64
      omega
    generalize ((y + 7919 * (z + 1)) % 1000000007 + 11) * ((y + 7919 * (z + 1)) % 1000000007 + 48271) = k
    have s0 : 0 ≤ k % 998244353 := Int.emod_nonneg _ (by decide)
    have s1 : k % 998244353 < 998244353 := Int.emod_lt_of_pos _ (by decide)
    refine ⟨.inl ⟨?_, ?_⟩, (by decide : (0 : Int) < 2147483647), ⟨by decide, by decide⟩, (by omega : 0 < b), ?_⟩
    · show -(2 ^ 64) < k % 998244353
      omega
    · show k % 998244353 < 2 ^ 64
      omega
    exact ⟨_, GE.refl, q _ _ (Int.emod_nonneg _ (by omega)) (Int.emod_lt_of_pos _ (by omega)) ⟨x, y, z + 1, up_same, hx⟩ (Ch.refl.put (by simp))⟩
theorem scLetters : FnScope ["pool"] ["pool"] (defScope xLetters) := ⟨rfl, rfl, rfl, by decide +kernel, rfl, by decide +kernel, by decide +kernel⟩
def spLetters : Sp2 := fun ps G Q => ∃ (a : Addr), ps = [.ref a] ∧ Pool G a ∧ ∀ (z : Str) G', z ∈ letterS → Pool G' a → Ch [a] G G' → Q (.str z) G'
theorem letters_ok : ∀ z ∈ letterS, 1 ≤ z.length ∧ z.length ≤ 6 := by decide +kernel
set_option maxHeartbeats 2000000 in
theorem ok_letters (F : Fun K "_law_letters" "_law_letters" xLetters f fd) (B : BN mg) (C : Cal2 P w K mg base 1 "_law_next" fn dn ["pool", "base"] spNext) : Ok2 P w K mg base 2 f fd ["pool"] spLetters := by
  have nd := scLetters.nd
  refine fn2 F scLetters (fun vs G Q h => ?_) (fun cdv A outer s H E as G Q hr h => ?_)
  · obtain ⟨p, rfl, _⟩ := h
    rfl
  have hU := u200 hr
  apply ex2
  case a => get_elem_tactic_extensible
  obtain ⟨a, rfl, hp, q⟩ := h
  refine ⟨lek, fun l hl => ⟨a, 6, rfl, hp.new hl, by decide, by decide, fun n G1 n0 n1 p1 c1 => ?_⟩⟩
  have hla : l ≠ a := fun z => by subst z; obtain ⟨o, e⟩ := hp.some; rw [e] at hl; cases hl
  have g1 := c1 l _ (by simpa using hla) up_same
  obtain ⟨x, ex, mx⟩ := atI_of (xs := letterS.map PV.str) n0 (by simpa [letterS] using n1)
  obtain ⟨z, hz, rfl⟩ := List.mem_map.mp mx
  with_reducible conv => whnf
  refine ixL_i (lk_lst g1) ex ?_
  exact ⟨_, GE.refl, q z G1 hz p1 ((Ch.refl.new hl).trans c1)⟩
end
abbrev xLeaf : Stmt := top 30
abbrev xParts : Stmt := top 31
abbrev xPattern : Stmt := top 32
abbrev xDrawn : Stmt := top 33
def cscope (names : List (Str × NameKind)) : Scope := { kind := .function, names := names, isGenerator := false, isCoroutine := false, more := [] }
section
variable {P : Program} {w : World} {K : PySem.W.Frag} {mg : Str → Option Value} {base : Heap} {f fn fl fp fq : Addr} {fd dn dl dp dq : FuncData}
theorem scLeaf : FnScope ["pool", "letters", "blank", "way", "some"] ["pool", "letters", "blank"] (defScope xLeaf) := ⟨rfl, rfl, rfl, by decide +kernel, rfl, by decide +kernel, by decide +kernel⟩
def spLeaf : Sp2 := fun ps G Q => ∃ (a : Addr) (z : Str) (b : Bool), ps = [.ref a, .str z, .bl b] ∧ Pool G a ∧ 1 ≤ z.length ∧ z.length ≤ 6 ∧
  ∀ p G', wf z p → inner p = [] → (canB p = true → b = true) → Pool G' a → Ch [a] G G' → Q (enc p) G'
theorem csLeaf : compOkB (defScope xLeaf) ["pool", "letters", "blank", "way", "some"] (cscope [(".0", .local), ("sign", .local), ("_law_next", .globalImplicit), ("pool", .free)]) ["sign", "pool"] [none, some 0] 0 "sign" = true := by decide +kernel
set_option maxHeartbeats 4000000 in
theorem ok_leaf (F : Fun K "_law_leaf" "_law_leaf" xLeaf f fd) (B : BN mg) (C : Cal2 P w K mg base 1 "_law_next" fn dn ["pool", "base"] spNext) : Ok2 P w K mg base 2 f fd ["pool", "letters", "blank"] spLeaf := by
  have nd := scLeaf.nd
  refine fn2 F scLeaf (fun vs G Q h => ?_) (fun cdv A outer s H E as G Q hr h => ?_)
  · obtain ⟨_, _, _, rfl, _⟩ := h
    rfl
  have hU := u200 hr
  apply ex2
  case a =>
    get_elem_tactic_extensible
    all_goals try (refine' js_comp (n := 4) (ix := [none, some 0]) (j := 0) nd rfl rfl csLeaf rfl ?_ (fun C s H fp => ⟨?_, ?_⟩))
    all_goals get_elem_tactic_extensible
  obtain ⟨a, z, b, rfl, hp, z1, z6, q⟩ := h
  with_reducible conv => whnf
  refine ⟨a, 8, rfl, hp, by decide, by decide, fun n G1 n0 n8 p1 c1 => ?_⟩
  with_reducible conv => whnf
  refine ⟨rfl, rfl, ?_⟩
  with_reducible conv => whnf
  refine ifB (fun _ => ?_) (fun _ => ?_)
  · exact ⟨lek, G1, GE.refl, q .none G1 trivial rfl (fun h => nomatch h) p1 c1⟩
  with_reducible conv => whnf
  refine ⟨rfl, rfl, ?_⟩
  with_reducible conv => whnf
  have rest : ∀ D : D2, D.rt = (fun p G' => ∃ G0, GE G0 G' ∧ Q p G0) → (sSeq (sAsg (eComp (itS (eV 1)) [none, some 0] 0 (tBl (eOp eq2 (eCall spNext (aCons (eV 1) (aCons (eC (PV.int 2)) aNil))) (eC (PV.int 1)))) (eV 0)) (gN 4))
      (sSeq (sIf (tBl (eOp eq2 (eV 4) (eLst aNil))) (sAsg (eLst (aCons (eOp ix2 (eV 1) (eCall spNext (aCons (eV 0) (aCons (eCl len2 (aCons (eV 1) aNil)) aNil)))) aNil)) (gN 4)) sNext)
      (sRet (eTup (aCons (eC (PV.str "sign")) (aCons (eMtS join2 (eC (PV.str "")) (aCons (eV 4) aNil)) aNil)))))) D [some (.ref a), some (.str z), some (.bl b), some (.int n), none] G1 := by
    intro D hD
    with_reducible conv => whnf
    intro acc hacc
    have hla : acc ≠ a := fun e => by subst e; obtain ⟨o, eo⟩ := p1.some; rw [eo] at hacc; cases hacc
    have fin : ∀ (y : Addr) (cs : List Nat) G2 τ, gt τ 4 = some (.ref y) → cs ≠ [] → cs.Sublist z.cps.toList → G2 y = some (.lst (cs.map fun c => .str (oneS c))) → Pool G2 a → Ch [a] G G2 →
        (sRet (eTup (aCons (eC (PV.str "sign")) (aCons (eMtS join2 (eC (PV.str "")) (aCons (eV 4) aNil)) aNil)))) D τ G2 := by
      intro y cs G2 τ ht hne hsub gy hp2 hc2
      have hl : cs.length ≤ 6 := Nat.le_trans hsub.length_le (by rw [Array.length_toList]; exact z6)
      with_reducible conv => whnf
      rw [ht]
      with_reducible conv => whnf
      refine joinL_i (zs := cs.map oneS) (by rw [List.map_map]; exact lk_lst gy) (by rw [sum_ones, List.length_map]; show cs.length + cs.length * 0 ≤ _; omega) ?_
      with_reducible conv => whnf
      rw [hD]
      refine ⟨lek, G2, GE.refl, q (.sign _) G2 ⟨?_, ?_⟩ rfl (fun h => nomatch h) hp2 hc2⟩
      · rw [join_chars]; exact hne
      · rw [join_chars]; exact hsub
    refine ⟨fun i ys G2 => ∃ cs : List Nat, ys = cs.map (fun c => .str (oneS c)) ∧ cs.Sublist (z.cps.toList.take i) ∧ G2 acc = some (.lst ys) ∧ Pool G2 a ∧ Ch [a] G1 G2, ⟨[], rfl, List.nil_sublist _, up_same, p1.new hacc, Ch.refl.new hacc⟩, ?_, ?_, ?_⟩
    · rintro i ys G2 hi ⟨cs, rfl, hs, ga, _, _⟩
      refine ⟨trivial, ga, ?_⟩
      have h1 := hs.length_le
      rw [List.length_take] at h1
      have h2 : z.cps.toList.length ≤ 6 := by rw [Array.length_toList]; exact z6
      rw [List.length_map]; omega
    · rintro i ys G2 x hx ⟨cs, rfl, hs, ga, hp2, hc2⟩
      obtain ⟨c, hc, rfl⟩ := signs_at hx
      have tk : z.cps.toList.take (i + 1) = z.cps.toList.take i ++ [c] := by rw [List.take_add_one, hc]; rfl
      with_reducible conv => whnf
      refine ⟨a, 2, rfl, hp2, by decide, by decide, fun m G3 m0 m1 p3 c3 => ?_⟩
      have ga3 : G3 acc = _ := c3 acc _ (by simpa using hla) ga
      with_reducible conv => whnf
      refine ⟨rfl, rfl, ?_⟩
      with_reducible conv => whnf
      refine ifB (fun _ => ?_) (fun _ => ?_)
      · with_reducible conv => whnf
        refine ⟨ga3, cs ++ [c], by simp, ?_, up_same, p3.ne hla, (hc2.trans c3).mod' hacc⟩
        rw [tk]; exact hs.append_right _ |>.trans (List.Sublist.refl _)
      · refine ⟨cs, rfl, ?_, ga3, p3, hc2.trans c3⟩
        rw [tk]; exact hs.trans (List.sublist_append_left _ _)
    · rintro ys G2 ⟨cs, rfl, hs, ga, hp2, hc2⟩
      have hs' : cs.Sublist z.cps.toList := by
        have hl : (signsP z).length = z.cps.toList.length := by unfold signsP; rw [List.length_map]
        rwa [hl, List.take_length] at hs
      with_reducible conv => whnf
      refine ⟨lek, fun l hl => ?_⟩
      with_reducible conv => whnf
      have lal : acc ≠ l := ne_none ga hl
      refine eqL_i (xs := cs.map fun c => .str (oneS c)) (ys := []) (lk_lst (by rw [up_ne lal]; exact ga)) lk_up ?_ rfl ?_
      · exact pure_strs cs
      with_reducible conv => whnf
      cases cs with
      | nil =>
        refine ifT rfl ?_
        with_reducible conv => whnf
        refine ⟨by omega, ?_⟩
        refine ⟨a, z.length, rfl, hp2.new hl, by omega, by omega, fun m G3 m0 m1 p3 c3 => ?_⟩
        obtain ⟨c, ec, mc⟩ := atI_of (xs := z.cps.toList) m0 (by rw [Array.length_toList]; exact m1)
        with_reducible conv => whnf
        refine ixS_i (by omega) ec ?_
        with_reducible conv => whnf
        refine ⟨lek, fun l2 hl2 => ?_⟩
        exact fin l2 [c] _ [some (.ref a), some (.str z), some (.bl b), some (.int n), some (.ref l2)] rfl (by simp) (List.singleton_sublist.mpr mc) up_same (p3.new hl2) ((((c1.trans hc2).new hl).trans c3).new hl2)
      | cons c cs =>
        refine ifF rfl ?_
        exact fin acc (c :: cs) _ [some (.ref a), some (.str z), some (.bl b), some (.int n), some (.ref acc)] rfl (by simp) hs' (by rw [up_ne lal]; exact ga) (hp2.new hl) ((c1.trans hc2).new hl)
  cases b with
  | false => exact ifB (fun _ => ifF rfl (rest _ rfl)) (fun _ => ifF rfl (rest _ rfl))
  | true =>
    refine ifB (fun _ => ifT rfl ?_) (fun _ => ifF rfl (rest _ rfl))
    exact ⟨lek, G1, GE.refl, q .blank G1 trivial rfl (fun _ => rfl) p1 c1⟩
theorem scParts : FnScope ["pool", "letters", "deep", "room", "blanks_let", "found", "blank"] ["pool", "letters", "deep", "room", "blanks_let"] (defScope xParts) := ⟨rfl, rfl, rfl, by decide +kernel, rfl, by decide +kernel, by decide +kernel⟩
/-- a pattern drawn -/
def spPattern (n : Nat) : Sp2 := fun ps G Q => ∃ (a r : Addr) (z : Str) (d m : Int) (b : Bool), ps = [.ref a, .str z, .int d, .ref r, .bl b] ∧ (1 ≤ d ∧ d < n) ∧ Pool G a ∧ G r = some (.lst [.int m]) ∧ a ≠ r ∧ 1 ≤ m ∧ m ≤ 40 ∧ 1 ≤ z.length ∧ z.length ≤ 6 ∧
  ∀ p G', wf z p → depth p ≤ max 1 d.toNat → (size p : Int) ≤ m → (canB p = true → b = true) → Pool G' a → G' r = some (.lst [.int (m - size p)]) → Ch [a, r] G G' → Q (enc p) G'
def spParts (n : Nat) : Sp2 := fun ps G Q => ∃ (a r l : Addr) (z : Str) (d m : Int) (bs : List Bool), ps = [.ref a, .str z, .int d, .ref r, .ref l] ∧ (2 ≤ d ∧ d ≤ n) ∧ Pool G a ∧ G r = some (.lst [.int m]) ∧ G l = some (.lst (bs.map PV.bl)) ∧ a ≠ r ∧ l ≠ a ∧ l ≠ r ∧ bs.length ≤ m ∧ bs.length ≤ 6 ∧ m ≤ 40 ∧ 1 ≤ z.length ∧ z.length ≤ 6 ∧
  ∀ qs G', wfs z qs → qs.length = bs.length → depths qs ≤ max 1 (d.toNat - 1) → (sizes qs : Int) ≤ m → (∀ (i : Nat) p, qs[i]? = some p → canB p = true → bs[i]? = some true) → Pool G' a → G' r = some (.lst [.int (m - sizes qs)]) → Ch [a, r] G G' → Q (.tup (encs qs)) G'
set_option maxHeartbeats 4000000 in
theorem ok_parts {n k : Nat} (F : Fun K "_law_parts" "_law_parts" xParts f fd) (B : BN mg) (C : Cal2 P w K mg base k "_law_pattern" fp dp ["pool", "letters", "deep", "room", "blank"] (spPattern n)) : Ok2 P w K mg base (k + 1) f fd ["pool", "letters", "deep", "room", "blanks_let"] (spParts n) := by
  have nd := scParts.nd
  refine fn2 F scParts (fun vs G Q h => ?_) (fun cdv A outer s H E as G Q hr h => ?_)
  · obtain ⟨_, _, _, _, _, _, _, rfl, _⟩ := h
    rfl
  have hU := u200 hr
  apply ex2
  case a => get_elem_tactic_extensible
  obtain ⟨a, r, l, z, d, m, bs, rfl, hd, hp, gr, gl, har, hla, hlr, hm, h6, h40, z1, z6, q⟩ := h
  with_reducible conv => whnf
  refine ⟨lek, fun fo hfo => ?_⟩
  have nr : r ≠ fo := ne_none gr hfo
  have nl : l ≠ fo := ne_none gl hfo
  have na : a ≠ fo := by obtain ⟨o, e⟩ := hp.some; exact ne_none e hfo
  with_reducible conv => whnf
  refine ixL_i (i := 0) (lk_lst (by rw [up_ne nr]; exact gr)) rfl ?_
  with_reducible conv => whnf
  refine len_i (lk_lst (by rw [up_ne nl]; exact gl)) ?_
  with_reducible conv => whnf
  refine setL_i (k := 0) (by rw [up_ne nr]; exact gr) rfl ?_
  with_reducible conv => whnf
  have glk : ∀ G2, G2 l = some (.lst (bs.map PV.bl)) → lk G2 l = some (bs.map PV.bl) := fun G2 h => lk_lst h
  rw [glk _ (by rw [up_ne hlr, up_ne nl]; exact gl)]
  with_reducible conv => whnf
  refine ⟨fun i τ G2 => ∃ (qs : List Pt) (bl : Option PV), τ = [some (.ref a), some (.str z), some (.int d), some (.ref r), some (.ref l), some (.ref fo), bl] ∧ wfs z qs ∧ qs.length = i ∧ depths qs ≤ max 1 (d.toNat - 1) ∧ (sizes qs : Int) ≤ m - bs.length + i ∧
    (∀ (j : Nat) p, qs[j]? = some p → canB p = true → bs[j]? = some true) ∧ Pool G2 a ∧ G2 r = some (.lst [.int (m - bs.length + i - sizes qs)]) ∧ G2 fo = some (.lst (encs qs)) ∧ Ch [a, r] G G2, ?_, ?_, ?_, ?_⟩
  · refine ⟨[], none, rfl, trivial, rfl, by simp [depths], ?_, by simp, (hp.new hfo).ne (Ne.symm har), ?_, ?_, (Ch.refl.new hfo).put (by simp)⟩
    · simp [sizes]; omega
    · rw [up_same]; simp [sizes]
    · rw [up_ne (Ne.symm nr), up_same]; rfl
  · rintro i τ G2 hi ⟨qs, bl, rfl, _, _, _, _, _, _, _, _, hc⟩
    exact glk G2 (hc l _ (by simp [hla, hlr]) gl)
  · rintro i x τ G2 hx ⟨qs, bl, rfl, hw, hl, hdp, hsz, hcb, hp2, gr2, gf2, hc⟩
    obtain ⟨b, hb, rfl⟩ : ∃ b, bs[i]? = some b ∧ x = .bl b := by
      rw [List.getElem?_map] at hx
      cases e : bs[i]? with
      | none => rw [e] at hx; cases hx
      | some b => rw [e] at hx; cases hx; exact ⟨b, rfl, rfl⟩
    have hil : i < bs.length := (List.getElem?_eq_some_iff.mp hb).1
    with_reducible conv => whnf
    refine ixL_i (i := 0) (lk_lst gr2) rfl ?_
    with_reducible conv => whnf
    refine setL_i (k := 0) gr2 rfl ?_
    with_reducible conv => whnf
    refine ⟨⟨encs qs, by rw [up_ne (Ne.symm nr)]; exact gf2⟩, ?_⟩
    with_reducible conv => whnf
    refine ⟨a, r, z, d - 1, m - bs.length + i - sizes qs + 1, b, rfl, by omega, hp2.ne (Ne.symm har), up_same, har, by omega, by omega, z1, z6, fun p G3 w3 d3 s3 b3 p3 g3 c3 => ?_⟩
    have gf3 : G3 fo = _ := c3 fo _ (by simp [Ne.symm na, Ne.symm nr]) (by rw [up_ne (Ne.symm nr)]; exact gf2)
    with_reducible conv => whnf
    refine append_i gf3 (by rw [encs_length]; omega) ?_
    refine ⟨qs ++ [p], _, rfl, wfs_append.mpr ⟨hw, w3, trivial⟩, by simp [hl], ?_, ?_, ?_, p3.ne (Ne.symm na), ?_, ?_, ((hc.put (by simp)).trans c3).mod' hfo⟩
    · rw [depths_append]; simp [depths]; omega
    · rw [sizes_append]; simp [sizes]; omega
    · intro j y hj hy
      by_cases e : j < qs.length
      · rw [List.getElem?_append_left e] at hj
        exact hcb j y hj hy
      · rw [List.getElem?_append_right (by omega)] at hj
        have : j = i := by
          have := (List.getElem?_eq_some_iff.mp hj).1
          simp at this; omega
        subst this
        rw [hl, Nat.sub_self] at hj
        cases hj
        rw [hb, b3 hy]
    · rw [up_ne nr, g3, sizes_append]; simp [sizes]; omega
    · rw [up_same, encs_append]; rfl
  · rintro τ G2 ⟨qs, bl, rfl, hw, hl, hdp, hsz, hcb, hp2, gr2, gf2, hc⟩
    rw [List.length_map] at hl hsz gr2
    with_reducible conv => whnf
    refine tupL_i (lk_lst gf2) ?_
    refine ⟨G2, GE.refl, q qs G2 hw hl hdp (by omega) hcb hp2 (by rw [gr2]; congr 4; omega) hc⟩
end
section
variable {P : Program} {w : World} {K : PySem.W.Frag} {mg : Str → Option Value} {base : Heap} {f fn fl fp fq : Addr} {fd dn dl dp dq : FuncData}
theorem scPattern : FnScope ["pool", "letters", "deep", "room", "blank", "way", "count", "hard", "name", "number"] ["pool", "letters", "deep", "room", "blank"] (defScope xPattern) := ⟨rfl, rfl, rfl, by decide +kernel, rfl, by decide +kernel, by decide +kernel⟩
theorem csPattern : compOkB (defScope xPattern) ["pool", "letters", "deep", "room", "blank", "way", "count", "hard", "name", "number"] (cscope [(".0", .local), ("k", .local), ("blank", .free), ("hard", .free)]) ["k", "blank", "hard"] [none, some 4, some 7] 0 "k" = true := by decide +kernel
theorem ints_at {lo : Int} {n i : Nat} {x : PV} (h : (intsP lo n)[i]? = some x) : i < n ∧ x = .int (lo + i) := by
  unfold intsP at h
  rw [List.getElem?_map] at h
  cases e : (List.range n)[i]? with
  | none => rw [e] at h; cases h
  | some j =>
    rw [e] at h
    have hi : i < n := by
      have := (List.getElem?_eq_some_iff.mp e).1
      simpa using this
    rw [List.getElem?_range hi] at e
    cases e
    cases h
    exact ⟨hi, rfl⟩
theorem ints_len (lo : Int) (n : Nat) : (intsP lo n).length = n := by unfold intsP; simp
set_option maxHeartbeats 8000000 in
theorem ok_pattern {n k : Nat} (hk : 2 ≤ k) (F : Fun K "_law_pattern" "_law_pattern" xPattern f fd) (B : BN mg) (CN : Cal2 P w K mg base 1 "_law_next" fn dn ["pool", "base"] spNext) (CL : Cal2 P w K mg base 2 "_law_leaf" fl dl ["pool", "letters", "blank"] spLeaf)
    (CP : Cal2 P w K mg base k "_law_pattern" fp dp ["pool", "letters", "deep", "room", "blank"] (spPattern n)) (CQ : Cal2 P w K mg base (k + 1) "_law_parts" fq dq ["pool", "letters", "deep", "room", "blanks_let"] (spParts n)) :
    Ok2 P w K mg base (k + 2) f fd ["pool", "letters", "deep", "room", "blank"] (spPattern (n + 1)) := by
  have nd := scPattern.nd
  refine fn2 F scPattern (fun vs G Q h => ?_) (fun cdv A outer s H E as G Q hr h => ?_)
  · obtain ⟨_, _, _, _, _, _, rfl, _⟩ := h
    rfl
  have hU := u200 hr
  apply ex2
  case a =>
    get_elem_tactic_extensible
    all_goals try (refine' j_comp (ix := [none, some 4, some 7]) (j := 0) csPattern rfl ?_ (fun C s H fp => ⟨?_, ?_⟩))
    all_goals get_elem_tactic_extensible
  obtain ⟨a, r, z, d, m, b, rfl, hd, hp, gr, har, m1, m40, z1, z6, q⟩ := h
  with_reducible conv => whnf
  refine ixL_i (i := 0) (lk_lst gr) rfl ?_
  with_reducible conv => whnf
  refine setL_i (k := 0) gr rfl ?_
  with_reducible conv => whnf
  refine ⟨a, 11, rfl, hp.ne (Ne.symm har), by decide, by decide, fun wy G1 w0 w1 p1 c1 => ?_⟩
  have gr1 : G1 r = some (.lst [.int (m - 1)]) := c1 r _ (by simp [Ne.symm har]) up_same
  have ch1 : Ch [a, r] G G1 := (Ch.refl.put (by simp)).trans (c1.mono (by simp))
  with_reducible conv => whnf
  refine ⟨a, 5, rfl, p1, by decide, by decide, fun cn G2 n0 n5 p2 c2 => ?_⟩
  have gr2 : G2 r = some (.lst [.int (m - 1)]) := c2 r _ (by simp [Ne.symm har]) gr1
  have ch2 : Ch [a, r] G G2 := ch1.trans (c2.mono (by simp))
  have leaf : ∀ τ D, gt τ 0 = some (.ref a) → gt τ 1 = some (.str z) → gt τ 4 = some (.bl b) → D.rt = (fun p G' => ∃ G0, GE G0 G' ∧ Q p G0) → sRet (eCall spLeaf (aCons (eV 0) (aCons (eV 1) (aCons (eV 4) aNil)))) D τ G2 := by
    intro τ D t0 t1 t4 hD
    with_reducible conv => whnf
    rw [t0]
    with_reducible conv => whnf
    rw [t1]
    with_reducible conv => whnf
    rw [t4]
    with_reducible conv => whnf
    rw [hD]
    refine ⟨a, z, b, rfl, p2, z1, z6, fun p G3 w3 i3 b3 p3 c3 => ⟨G3, GE.refl, q p G3 w3 ?_ ?_ b3 p3 ?_ (ch2.trans (c3.mono (by simp)))⟩⟩
    · rw [size_depth_inner, i3]; simp [depths]; omega
    · rw [size_inner, i3]; simp [sizes]; omega
    · rw [c3 r _ (by simp [Ne.symm har]) gr2, size_inner, i3]; simp [sizes]
  with_reducible conv => whnf
  refine ifB (fun _ => ifT rfl (leaf _ _ rfl rfl rfl rfl)) (fun hd2 => ?_)
  have hd2' : 2 ≤ d := by have := of_decide_eq_false hd2; omega
  with_reducible conv => whnf
  refine ixL_i (i := 0) (lk_lst gr2) rfl ?_
  with_reducible conv => whnf
  refine ifB (fun _ => ifT rfl (leaf _ _ rfl rfl rfl rfl)) (fun hm2 => ?_)
  have hm2' : 1 ≤ m - 1 := by have := of_decide_eq_false hm2; omega
  with_reducible conv => whnf
  refine ⟨rfl, rfl, ?_⟩
  with_reducible conv => whnf
  refine ifB (fun _ => ifT rfl (leaf _ _ rfl rfl rfl rfl)) (fun hw0 => ?_)
  with_reducible conv => whnf
  by_cases hF : wy < 6 ∧ m - 1 < 2 + cn
  · refine ifT (decide_eq_true hF.1) ?_
    with_reducible conv => whnf
    refine ixL_i (i := 0) (lk_lst gr2) rfl ?_
    with_reducible conv => whnf
    exact ifT (decide_eq_true hF.2) (leaf _ _ rfl rfl rfl rfl)
  refine way_keep ?_ (fun h6 hB => ?_)
  rotate_left
  · with_reducible conv => whnf
    refine ixL_i (i := 0) (lk_lst gr2) rfl ?_
    with_reducible conv => whnf
    refine ifB (fun h => absurd ⟨of_decide_eq_true h6, of_decide_eq_true h⟩ hF) (fun _ => hB)
  refine ifF rfl ?_
  with_reducible conv => whnf
  have dt : d.toNat - 1 + 1 = d.toNat := by omega
  refine ifB (fun h4 => ?_) (fun h4 => ?_)
  · have hc : 2 + cn ≤ m - 1 := by
      have := of_decide_eq_true h4
      by_cases hx : m - 1 < 2 + cn
      · exact absurd ⟨by omega, hx⟩ hF
      · omega
    with_reducible conv => whnf
    refine ⟨a, 2 + cn, rfl, p2, by omega, by omega, fun hd3 G3 q0 q1 p3 c3 => ?_⟩
    have gr3 : G3 r = some (.lst [.int (m - 1)]) := c3 r _ (by simp [Ne.symm har]) gr2
    have ch3 : Ch [a, r] G G3 := ch2.trans (c3.mono (by simp))
    with_reducible conv => whnf
    refine ⟨by omega, by omega, fun acc hacc => ?_⟩
    refine cGo_pure (fun _ => true) (fun x => match x with | .int i => .bl (b || !decide (i = hd3)) | _ => .non) (by rw [ints_len]; omega) (fun _ => trivial) (fun x ys R _ hR => hR) ?_ ?_
    · intro x ys R hx _ hR
      obtain ⟨i, hi⟩ := List.mem_iff_getElem?.mp hx
      obtain ⟨_, rfl⟩ := ints_at hi
      with_reducible conv => whnf
      cases b with
      | true => exact hR
      | false =>
        with_reducible conv => whnf
        refine ⟨rfl, rfl, ?_⟩
        have e : (!deq (.int (0 + (i : Int))) (.int hd3)) = (false || !decide (0 + (i : Int) = hd3)) := by
          show (!((0 + (i : Int)) == hd3)) = _
          rw [Bool.false_or]; congr 1
        rw [e]
        exact hR
    with_reducible conv => whnf
    have hra : r ≠ acc := ne_none gr3 hacc
    have haa : a ≠ acc := by obtain ⟨o, e⟩ := p3.some; exact ne_none e hacc
    have hbs : (((intsP 0 (2 + cn).toNat).filter (fun _ => true)).map (fun x => match x with | .int i => PV.bl (b || !decide (i = hd3)) | _ => .non)) = ((List.range (2 + cn).toNat).map fun (i : Nat) => (b || !decide ((i : Int) = hd3))).map PV.bl := by
      rw [List.filter_eq_self.mpr (fun _ _ => rfl)]
      unfold intsP
      rw [List.map_map, List.map_map]
      apply List.map_congr_left
      intro i _
      show PV.bl (b || !decide (0 + (i : Int) = hd3)) = _
      rw [Int.zero_add]
      rfl
    rw [hbs]
    refine ⟨a, r, acc, z, d, m - 1, (List.range (2 + cn).toNat).map fun (i : Nat) => (b || !decide ((i : Int) = hd3)), rfl, by omega, p3.ne (Ne.symm haa), by rw [up_ne hra]; exact gr3, up_same, har, Ne.symm haa, Ne.symm hra, by simp; omega, by simp; omega, by omega, z1, z6, fun qs G4 w4 l4 d4 s4 b4 p4 g4 c4 => ?_⟩
    have l4' : qs.length = (2 + cn).toNat := by simpa using l4
    with_reducible conv => whnf
    refine ⟨lek, G4, GE.refl, q (.row qs) G4 ⟨by omega, by omega, w4⟩ ?_ ?_ ?_ p4 ?_ ((ch3.new hacc).trans c4)⟩
    · simp [depth]; omega
    · simp [size]; omega
    · intro hB
      have hB' : allB qs = true := hB
      have hlt : hd3.toNat < qs.length := by omega
      have e1 : qs[hd3.toNat]? = some qs[hd3.toNat] := List.getElem?_eq_getElem hlt
      have := b4 hd3.toNat _ e1 (allB_at e1 hB')
      rw [List.getElem?_map, List.getElem?_range (by omega)] at this
      have e2 : (b || !decide (((hd3.toNat : Nat) : Int) = hd3)) = true := by simpa using this
      rw [show ((hd3.toNat : Nat) : Int) = hd3 by omega] at e2
      simpa using e2
    · rw [g4]; simp [size]; omega
  have hw4 : 4 ≤ wy := by have := of_decide_eq_false h4; omega
  with_reducible conv => whnf
  refine ifB (fun h6 => ?_) (fun h6 => ?_)
  · have hc : 2 + cn ≤ m - 1 := by
      have := of_decide_eq_true h6
      by_cases hx : m - 1 < 2 + cn
      · exact absurd ⟨by omega, hx⟩ hF
      · omega
    with_reducible conv => whnf
    refine ⟨lek, fun l hl => ?_⟩
    have hrl : r ≠ l := ne_none gr2 hl
    have hal : a ≠ l := by obtain ⟨o, e⟩ := p2.some; exact ne_none e hl
    with_reducible conv => whnf
    refine mulL_i up_same ⟨by omega, by omega⟩ (by simp; omega) fun l2 hl2 => ?_
    have hl2' : G2 l2 = none := (up_none hl2).2
    have hrl2 : r ≠ l2 := ne_none gr2 hl2'
    have hal2 : a ≠ l2 := by obtain ⟨o, e⟩ := p2.some; exact ne_none e hl2'
    have ebs : (List.replicate (2 + cn).toNat [PV.bl b]).flatten = (List.replicate (2 + cn).toNat b).map PV.bl := by
      generalize (2 + cn).toNat = j
      induction j with
      | zero => rfl
      | succ j ih => rw [List.replicate_succ, List.flatten_cons, ih, List.replicate_succ, List.map_cons]; rfl
    rw [ebs]
    with_reducible conv => whnf
    refine ⟨a, r, l2, z, d, m - 1, List.replicate (2 + cn).toNat b, rfl, by omega, (p2.new hl).ne (Ne.symm hal2), by rw [up_ne hrl2, up_ne hrl]; exact gr2, up_same, har, Ne.symm hal2, Ne.symm hrl2, by simp; omega, by simp; omega, by omega, z1, z6, fun qs G4 w4 l4 d4 s4 b4 p4 g4 c4 => ?_⟩
    have l4' : qs.length = (2 + cn).toNat := by simpa using l4
    with_reducible conv => whnf
    refine ⟨lek, G4, GE.refl, q (.pick qs) G4 ⟨by omega, by omega, w4⟩ ?_ ?_ ?_ p4 ?_ (((ch2.new hl).new hl2).trans c4)⟩
    · simp [depth]; omega
    · simp [size]; omega
    · intro hB
      obtain ⟨i, p, e1, e2⟩ := anyB_at (show anyB qs = true from hB)
      have := b4 i p e1 e2
      rw [List.getElem?_replicate] at this
      split at this
      · exact Option.some.inj this
      · cases this
    · rw [g4]; simp [size]; omega
  have part : ∀ (b' : Bool) (G3 : Gp) (R : K2), Pool G3 a → G3 r = some (.lst [.int (m - 1)]) → Ch [a, r] G G3 → (b' = true → b = true) →
      (∀ p G4, wf z p → 1 + depth p ≤ max 1 d.toNat → (1 + size p : Int) ≤ m → (canB p = true → b' = true) → Pool G4 a → G4 r = some (.lst [.int (m - (1 + size p))]) → Ch [a, r] G G4 → R (enc p) G4) →
      spPattern n [.ref a, .str z, .int (d - 1), .ref r, .bl b'] G3 R := by
    intro b' G3 R p3 g3 ch3 hb R1
    refine ⟨a, r, z, d - 1, m - 1, b', rfl, by omega, p3, g3, har, by omega, by omega, z1, z6, fun p G4 w4 d4 s4 b4 p4 g4 c4 => R1 p G4 w4 ?_ (by omega) b4 p4 ?_ (ch3.trans c4)⟩
    · omega
    · rw [g4]; congr 4; omega
  with_reducible conv => whnf
  by_cases h8 : wy < 8 ∧ b = true
  · refine ifT (decide_eq_true h8.1) ?_
    obtain ⟨_, rfl⟩ := h8
    refine ifT rfl ?_
    with_reducible conv => whnf
    refine part false G2 _ p2 gr2 ch2 (fun h => nomatch h) fun p G4 w4 d4 s4 b4 p4 g4 c4 => ?_
    with_reducible conv => whnf
    refine ⟨lek, G4, GE.refl, q (.again p) G4 ⟨by cases e : canB p with | true => exact absurd (b4 e) (by decide) | false => rfl, w4⟩ (by simpa [depth] using d4) (by simp [size]; omega) (fun _ => rfl) p4 (by rw [g4]; simp [size]) c4⟩
  refine way_keep ?_ (fun h9 hB => ?_)
  rotate_left
  · cases b with
    | true => exact absurd ⟨of_decide_eq_true h9, rfl⟩ h8
    | false => exact hB
  refine ifF rfl ?_
  with_reducible conv => whnf
  refine ⟨rfl, rfl, ?_⟩
  with_reducible conv => whnf
  refine ifB (fun _ => ?_) (fun _ => ?_)
  · with_reducible conv => whnf
    refine ⟨lek, fun l hl => ?_⟩
    have hrl : r ≠ l := ne_none gr2 hl
    have hal : a ≠ l := by obtain ⟨o, e⟩ := p2.some; exact ne_none e hl
    with_reducible conv => whnf
    refine ⟨a, 6, rfl, p2.new hl, by decide, by decide, fun k3 G3 k0 k6 p3 c3 => ?_⟩
    obtain ⟨x, ex, mx⟩ := atI_of (xs := nameS.map PV.str) k0 (by simpa [nameS] using k6)
    obtain ⟨nm, hnm, rfl⟩ := List.mem_map.mp mx
    have gl3 := c3 l _ (by simp [Ne.symm hal]) up_same
    have gr3 : G3 r = some (.lst [.int (m - 1)]) := c3 r _ (by simp [Ne.symm har]) (by rw [up_ne hrl]; exact gr2)
    with_reducible conv => whnf
    refine ixL_i (lk_lst gl3) ex ?_
    with_reducible conv => whnf
    refine part b G3 _ p3 gr3 ((ch2.new hl).trans (c3.mono (by simp))) id fun p G4 w4 d4 s4 b4 p4 g4 c4 => ?_
    with_reducible conv => whnf
    refine ⟨lek, G4, GE.refl, q (.held nm p) G4 ⟨hnm, w4⟩ (by simpa [depth] using d4) (by simp [size]; omega) b4 p4 (by rw [g4]; simp [size]) c4⟩
  · with_reducible conv => whnf
    refine ⟨a, 1001, rfl, p2, by decide, by decide, fun pr G3 r0 r1 p3 c3 => ?_⟩
    have gr3 : G3 r = some (.lst [.int (m - 1)]) := c3 r _ (by simp [Ne.symm har]) gr2
    with_reducible conv => whnf
    refine ⟨lek, fun l hl => ?_⟩
    have hrl : r ≠ l := ne_none gr3 hl
    have hal : a ≠ l := by obtain ⟨o, e⟩ := p3.some; exact ne_none e hl
    with_reducible conv => whnf
    refine ⟨a, 6, rfl, p3.new hl, by decide, by decide, fun k3 G4 k0 k6 p4 c4 => ?_⟩
    have gl4 := c4 l _ (by simp [Ne.symm hal]) up_same
    have gr4 : G4 r = some (.lst [.int (m - 1)]) := c4 r _ (by simp [Ne.symm har]) (by rw [up_ne hrl]; exact gr3)
    obtain ⟨nm, ex, n0', n1'⟩ : ∃ nm : Int, atI [PV.int 0, .int 1, .int 2, .int 999, .int 1000, .int pr] k3 = some (.int nm) ∧ 0 ≤ nm ∧ nm ≤ 1000 := by
      have : k3 = 0 ∨ k3 = 1 ∨ k3 = 2 ∨ k3 = 3 ∨ k3 = 4 ∨ k3 = 5 := by omega
      rcases this with rfl | rfl | rfl | rfl | rfl | rfl
      · exact ⟨0, rfl, by decide, by decide⟩
      · exact ⟨1, rfl, by decide, by decide⟩
      · exact ⟨2, rfl, by decide, by decide⟩
      · exact ⟨999, rfl, by decide, by decide⟩
      · exact ⟨1000, rfl, by decide, by decide⟩
      · exact ⟨pr, rfl, by omega, by omega⟩
    with_reducible conv => whnf
    refine ixL_i (lk_lst gl4) ex ?_
    with_reducible conv => whnf
    refine part b G4 _ p4 gr4 (((ch2.trans (c3.mono (by simp))).new hl).trans (c4.mono (by simp))) id fun p G5 w5 d5 s5 b5 p5 g5 c5 => ?_
    with_reducible conv => whnf
    refine ⟨lek, G5, GE.refl, q (.price nm p) G5 ⟨n0', n1', w5⟩ (by simpa [depth] using d5) (by simp [size]; omega) b5 p5 (by rw [g5]; simp [size]) c5⟩
end
section
variable {P : Program} {w : World} {K : PySem.W.Frag} {mg : Str → Option Value} {base : Heap} {f fl fn fp fa fi fm fo : Addr} {fd dl dn dp da di dm do' : FuncData}
theorem down_at {lo : Int} {n i : Nat} {x : PV} (h : (downP lo n)[i]? = some x) : i < n ∧ x = .int (lo - i) := by
  unfold downP at h
  rw [List.getElem?_map] at h
  cases e : (List.range n)[i]? with
  | none => rw [e] at h; cases h
  | some j =>
    rw [e] at h
    have hi : i < n := by
      have := (List.getElem?_eq_some_iff.mp e).1
      simpa using this
    rw [List.getElem?_range hi] at e
    cases e
    cases h
    exact ⟨hi, rfl⟩
theorem down_len (lo : Int) (n : Nat) : (downP lo n).length = n := by unfold downP; simp
theorem ixN_nat {n j : Nat} (h : j < n) : ixN n (j : Int) = some j := by
  unfold ixN
  rw [if_pos (by omega), if_pos (by omega)]
  simp
theorem atI_last {α : Type} (xs : List α) (x : α) : atI (xs ++ [x]) (-1) = some x := by
  unfold atI ixN
  rw [if_neg (by omega), if_pos (by simp; omega)]
  show (xs ++ [x])[(-1 + ((xs ++ [x]).length : Int)).toNat]? = some x
  rw [List.length_append, show (-1 + ((xs.length + [x].length : Nat) : Int)).toNat = xs.length by simp; omega]
  simp
theorem encs_at {ps : List Pt} {i : Nat} {x : PV} (h : (encs ps)[i]? = some x) : ∃ c, ps[i]? = some c ∧ x = enc c := by
  rw [encs_map, List.getElem?_map] at h
  cases e : ps[i]? with
  | none => rw [e] at h; cases h
  | some c => rw [e] at h; cases h; exact ⟨c, rfl, rfl⟩
theorem at_encs {ps : List Pt} {i : Nat} {c : Pt} (h : ps[i]? = some c) : (encs ps)[i]? = some (enc c) := by
  rw [encs_map, List.getElem?_map, h]; rfl
--S
variable {P : Program} {w : World} {K : PySem.W.Frag} {mg : Str → Option Value} {base : Heap} {f fi fm : Addr} {fd di dm : FuncData}
theorem scDrawn : FnScope ["pool", "deepest", "letters", "room"] ["pool", "deepest"] (defScope xDrawn) := ⟨rfl, rfl, rfl, by decide +kernel, rfl, by decide +kernel, by decide +kernel⟩
def spDrawn : Sp2 := fun ps G Q => ∃ (a : Addr) (dp : Int), ps = [.ref a, .int dp] ∧ 2 ≤ dp ∧ dp ≤ 9 ∧ Pool G a ∧ ∀ p z G', z ∈ letterS → wf z p → depth p ≤ 9 → size p ≤ 40 → Pool G' a → Ch [a] G G' → Q (enc p) G'
set_option maxHeartbeats 4000000 in
theorem ok_drawn {k : Nat} (hk : 2 ≤ k) (F : Fun K "_law_drawn" "_law_drawn" xDrawn f fd) (B : BN mg) (CN : Cal2 P w K mg base 1 "_law_next" fn dn ["pool", "base"] spNext) (CL : Cal2 P w K mg base 2 "_law_letters" fl dl ["pool"] spLetters)
    (CP : Cal2 P w K mg base k "_law_pattern" fp dp ["pool", "letters", "deep", "room", "blank"] (spPattern 10)) : Ok2 P w K mg base (k + 1) f fd ["pool", "deepest"] spDrawn := by
  have nd := scDrawn.nd
  refine fn2 F scDrawn (fun vs G Q h => ?_) (fun cdv A outer s H E as G Q hr h => ?_)
  · obtain ⟨_, _, rfl, _⟩ := h
    rfl
  have hU := u200 hr
  apply ex2
  case a => get_elem_tactic_extensible
  obtain ⟨a, dp, rfl, h2, h9, hp, q⟩ := h
  with_reducible conv => whnf
  refine ⟨a, rfl, hp, fun z G1 hz p1 c1 => ?_⟩
  with_reducible conv => whnf
  refine ⟨lek, fun l hl => ?_⟩
  have hal : a ≠ l := by obtain ⟨o, e⟩ := p1.some; exact ne_none e hl
  with_reducible conv => whnf
  refine ⟨a, 8, rfl, p1.new hl, by decide, by decide, fun k3 G2 k0 k8 p2 c2 => ?_⟩
  have gl2 := c2 l _ (by simp [Ne.symm hal]) up_same
  obtain ⟨m, ex, m1, m40⟩ : ∃ m : Int, atI [PV.int 1, .int 3, .int 6, .int 10, .int 16, .int 24, .int 32, .int 40] k3 = some (.int m) ∧ 1 ≤ m ∧ m ≤ 40 := by
    have : k3 = 0 ∨ k3 = 1 ∨ k3 = 2 ∨ k3 = 3 ∨ k3 = 4 ∨ k3 = 5 ∨ k3 = 6 ∨ k3 = 7 := by omega
    rcases this with rfl | rfl | rfl | rfl | rfl | rfl | rfl | rfl
    · exact ⟨1, rfl, by decide, by decide⟩
    · exact ⟨3, rfl, by decide, by decide⟩
    · exact ⟨6, rfl, by decide, by decide⟩
    · exact ⟨10, rfl, by decide, by decide⟩
    · exact ⟨16, rfl, by decide, by decide⟩
    · exact ⟨24, rfl, by decide, by decide⟩
    · exact ⟨32, rfl, by decide, by decide⟩
    · exact ⟨40, rfl, by decide, by decide⟩
  with_reducible conv => whnf
  refine ixL_i (lk_lst gl2) ex ?_
  with_reducible conv => whnf
  refine ⟨lek, fun r hr' => ?_⟩
  have har : a ≠ r := by obtain ⟨o, e⟩ := p2.some; exact ne_none e hr'
  with_reducible conv => whnf
  refine ⟨a, dp - 1, rfl, p2.new hr', by omega, by omega, fun dd G3 d0 d8 p3 c3 => ?_⟩
  have gr3 := c3 r _ (by simp [Ne.symm har]) up_same
  with_reducible conv => whnf
  refine addI_i ?_
  with_reducible conv => whnf
  refine ⟨a, r, z, 2 + dd, m, true, rfl, ⟨by omega, by omega⟩, p3, gr3, har, m1, m40, (letters_ok z hz).1, (letters_ok z hz).2, fun p G4 w4 d4 s4 _ p4 g4 c4 => ?_⟩
  have hG : Ch [a] G G3 := ((((c1.new hl).trans c2).new hr').trans c3)
  have hrn : G r = none := by
    cases e : G r with
    | none => rfl
    | some o =>
      have e2 := ((c1.new hl).trans c2) r o (by simp [Ne.symm har]) e
      rw [hr'] at e2; cases e2
  refine ⟨G4, GE.refl, q p z G4 hz w4 (by omega) (by omega) p4 fun b o hb ho => ?_⟩
  have hbr : b ≠ r := fun e => by subst e; rw [hrn] at ho; cases ho
  have hba : b ≠ a := by simpa using hb
  exact c4 b o (by simp [hba, hbr]) (hG b o hb ho)
end
local macro_rules | `(tactic| get_elem_tactic_extensible) => `(tactic| repeat' first
  | (show JB _ _ _; first
      | exact jb_nil
      | refine' jb_one ?_
      | refine' jb_cons ?_ ?_)
  | (show JA _ _ _; first
      | exact ja_nil
      | refine' ja_cons ?_ ?_)
  | (show JF _ _ _; first
      | exact jf_nil
      | refine' jf_one ?_)
  | (show JO _ _ _; first
      | exact jo_none
      | refine' jo_some ?_)
  | (show JS _ (.Assign [.Name _ _] _ _) _; first
      | refine' js_set (i := 0) ?_ (by assumption) rfl (by first | exact Or.inl rfl | exact Or.inr rfl)
      | refine' js_set (i := 1) ?_ (by assumption) rfl (by first | exact Or.inl rfl | exact Or.inr rfl)
      | refine' js_set (i := 2) ?_ (by assumption) rfl (by first | exact Or.inl rfl | exact Or.inr rfl)
      | refine' js_set (i := 3) ?_ (by assumption) rfl (by first | exact Or.inl rfl | exact Or.inr rfl)
      | refine' js_set (i := 4) ?_ (by assumption) rfl (by first | exact Or.inl rfl | exact Or.inr rfl)
      | refine' js_set (i := 5) ?_ (by assumption) rfl (by first | exact Or.inl rfl | exact Or.inr rfl)
      | refine' js_set (i := 6) ?_ (by assumption) rfl (by first | exact Or.inl rfl | exact Or.inr rfl)
      | refine' js_set (i := 7) ?_ (by assumption) rfl (by first | exact Or.inl rfl | exact Or.inr rfl)
      | refine' js_set (i := 8) ?_ (by assumption) rfl (by first | exact Or.inl rfl | exact Or.inr rfl)
      | refine' js_set (i := 9) ?_ (by assumption) rfl (by first | exact Or.inl rfl | exact Or.inr rfl)
      | refine' js_set (i := 10) ?_ (by assumption) rfl (by first | exact Or.inl rfl | exact Or.inr rfl)
      | refine' js_set (i := 11) ?_ (by assumption) rfl (by first | exact Or.inl rfl | exact Or.inr rfl))
  | (show JS _ (.Assign [.Subscript _ _ _] _ _) _; first
      | refine' js_asg ?_ (jg_sub ?_ ?_ set_L))
  | (show JS _ (.Return (some _) _) _; first
      | refine' js_ret ?_)
  | (show JS _ (.If _ _ _ _) _; first
      | refine' js_if ?_ ?_ ?_)
  | (show JS _ (.For _ _ _ [] _) _; first
      | refine' js_for PassesOwn.never rfl ?_ ?_ ?_)
  | (show JS _ (.While _ _ [] _) _; first
      | refine' js_while PassesOwn.never ?_ ?_)
  | (show JS _ (.Expr _ _) _; first
      | refine' js_expr ?_)
  | (show JS _ (.AugAssign (.Name _ _) _ _ _) _; first
      | refine' js_aug (n := 0) p_add ?_ (by assumption) rfl (by first | exact Or.inl rfl | exact Or.inr rfl)
      | refine' js_aug (n := 1) p_add ?_ (by assumption) rfl (by first | exact Or.inl rfl | exact Or.inr rfl)
      | refine' js_aug (n := 2) p_add ?_ (by assumption) rfl (by first | exact Or.inl rfl | exact Or.inr rfl)
      | refine' js_aug (n := 3) p_add ?_ (by assumption) rfl (by first | exact Or.inl rfl | exact Or.inr rfl)
      | refine' js_aug (n := 4) p_add ?_ (by assumption) rfl (by first | exact Or.inl rfl | exact Or.inr rfl)
      | refine' js_aug (n := 5) p_add ?_ (by assumption) rfl (by first | exact Or.inl rfl | exact Or.inr rfl)
      | refine' js_aug (n := 6) p_add ?_ (by assumption) rfl (by first | exact Or.inl rfl | exact Or.inr rfl)
      | refine' js_aug (n := 7) p_add ?_ (by assumption) rfl (by first | exact Or.inl rfl | exact Or.inr rfl))
  | (show JS _ (.AugAssign (.Subscript _ _ _) _ _ _) _; first
      | refine' js_augS g_seq p_add set_L ?_ ?_ ?_)
  | (show JS _ _ _; first
      | exact js_break
      | exact js_cont
      | exact js_pass)
  | (show JE _ (.Name _ _) _; first
      | exact jv 0
      | exact jv 1
      | exact jv 2
      | exact jv 3
      | exact jv 4
      | exact jv 5
      | exact jv 6
      | exact jv 7
      | exact jv 8
      | exact jv 9
      | exact jv 10
      | exact jv 11
      | exact jn_int (by assumption)
      | exact jn_bool (by assumption)
      | exact jn_str (by assumption)
      | exact jn_tuple (by assumption)
      | exact jn_list (by assumption)
      | exact j_gint (by assumption)
      | exact j_gstr (by assumption))
  | (show JE _ (.Constant _ _ _) _; first
      | exact j_int
      | exact j_str
      | exact j_bl
      | exact j_non)
  | (show JE _ (.BinOp _ .Add _ _) _; first
      | refine' jb_add ?_ ?_)
  | (show JE _ (.BinOp (.Tuple _ _ _) .Mult _ _) _; first
      | refine' jb_mulT ?_ ?_)
  | (show JT _ (.Compare _ [.IsNot] [.Constant (.bool _) _ _] _) _; first
      | refine' jt_isnB ?_ ?_ rfl)
  | (show JE _ (.BinOp _ .Sub _ _) _; first
      | refine' jb_sub ?_ ?_)
  | (show JE _ (.BinOp _ .Mult _ _) _; first
      | refine' jb_mul ?_ ?_)
  | (show JE _ (.BinOp _ .Mod _ _) _; first
      | refine' jb_mod ?_ ?_)
  | (show JE _ (.BinOp _ .FloorDiv _ _) _; first
      | refine' jb_fdiv ?_ ?_)
  | (show JE _ (.BinOp _ .Pow _ _) _; first
      | refine' jb_pow ?_ ?_)
  | (show JT _ (.Compare _ [.NotIn] [.Call (.Name _ _) _ _ _] _) _; first
      | refine' jt_notinR ?_ ?_ rfl)
  | (show JT _ (.Compare _ [.Eq] _ _) _; first
      | refine' jt_eq (by assumption) ?_ ?_)
  | (show JE _ (.Compare _ [.Eq] _ _) _; first
      | refine' jk_eq (by assumption) ?_ ?_)
  | (show JT _ (.Compare _ [.NotEq] _ _) _; first
      | refine' jt_ne (by assumption) ?_ ?_)
  | (show JE _ (.Compare _ [.NotEq] _ _) _; first
      | refine' jk_ne (by assumption) ?_ ?_)
  | (show JT _ (.Compare _ [.Lt] _ _) _; first
      | refine' jt_lt ?_ ?_)
  | (show JE _ (.Compare _ [.Lt] _ _) _; first
      | refine' jk_lt ?_ ?_)
  | (show JT _ (.Compare _ [.LtE] _ _) _; first
      | refine' jt_le ?_ ?_)
  | (show JE _ (.Compare _ [.LtE] _ _) _; first
      | refine' jk_le ?_ ?_)
  | (show JT _ (.Compare _ [.Gt] _ _) _; first
      | refine' jt_gt ?_ ?_)
  | (show JE _ (.Compare _ [.Gt] _ _) _; first
      | refine' jk_gt ?_ ?_)
  | (show JT _ (.Compare _ [.GtE] _ _) _; first
      | refine' jt_ge ?_ ?_)
  | (show JE _ (.Compare _ [.GtE] _ _) _; first
      | refine' jk_ge ?_ ?_)
  | (show JT _ (.Compare _ [.In] _ _) _; first
      | refine' jt_in ?_ ?_ rfl)
  | (show JE _ (.Compare _ [.In] _ _) _; first
      | refine' jk_in ?_ ?_ rfl)
  | (show JT _ (.Compare _ [.NotIn] _ _) _; first
      | refine' jt_notin ?_ ?_ rfl)
  | (show JE _ (.Compare _ [.NotIn] _ _) _; first
      | refine' jk_notin ?_ ?_ rfl)
  | (show JT _ (.Compare _ [.Is] _ _) _; first
      | refine' jt_isN ?_ ?_ rfl)
  | (show JE _ (.Compare _ [.Is] _ _) _; first
      | refine' jk_isN ?_ ?_ rfl)
  | (show JT _ (.Compare _ [.IsNot] _ _) _; first
      | refine' jt_isnN ?_ ?_ rfl)
  | (show JE _ (.Compare _ [.IsNot] _ _) _; first
      | refine' jk_isnN ?_ ?_ rfl)
  | (show JT _ (.Compare _ [.LtE, .LtE] _ _) _; first
      | refine' jt_lele ?_ ?_ ?_)
  | (show JE _ (.Compare _ [.LtE, .LtE] _ _) _; first
      | refine' jk_lele ?_ ?_ ?_)
  | (show JT _ (.UnaryOp .Not _ _) _; first
      | refine' jt_not ?_)
  | (show JT _ (.BoolOp _ _ _) _; first
      | refine' jw_t ?_)
  | (show JW _ _ _; first
      | refine' jw_or ?_ ?_
      | refine' jw_and ?_ ?_
      | refine' jw_or1 ?_
      | refine' jw_and1 ?_)
  | (show JT _ _ _; first
      | refine' jt_val ?_)
  | (show JE _ (.UnaryOp .Not _ _) _; first
      | refine' j_not ?_)
  | (show JE _ (.UnaryOp .USub _ _) _; first
      | refine' j_un u_neg ?_)
  | (show JE _ (.BoolOp _ _ _) _; first
      | refine' j_and ?_ ?_
      | refine' j_or ?_ ?_
      | refine' j_one ?_)
  | (show JE _ (.IfExp _ _ _ _) _; first
      | refine' j_ifE ?_ ?_ ?_)
  | (show JE _ (.List _ _) _; first
      | refine' j_lst ?_)
  | (show JE _ (.Tuple _ _ _) _; first
      | refine' j_tup ?_)
  | (show JE _ (.Subscript _ (.Slice _ _ _ _) _) _; first
      | refine' j_rev ?_
      | refine' j_slice ?_ ?_ ?_)
  | (show JE _ (.Subscript _ _ _) _; first
      | refine' j_ixS ?_ ?_)
  | (show JE _ (.Call (.Name _ _) _ [_] _) _; first
      | refine' j_minD (by assumption) rfl ?_ ?_
      | refine' j_maxD (by assumption) rfl ?_ ?_)
  | (show JE _ (.Call (.Attribute _ _ _) _ _ _) _; first
      | refine' j_getD (by assumption) (by assumption) ?_
      | refine' jm_append ?_ ?_
      | refine' jm_extend ?_ ?_
      | refine' jm_join ?_ ?_
      | refine' jm_pop ?_
      | refine' jm_reverse ?_)
  | (show JE _ (.Call (.Name _ _) _ _ _) _; first
      | refine' j_cal (by assumption) (by assumption) (by first | assumption | omega) ?_
      | refine' jc_len (by assumption) ?_
      | refine' jc_inst (by assumption) ?_
      | refine' jc_all (by assumption) rfl ?_
      | refine' jc_any (by assumption) rfl ?_
      | refine' jc_max (by assumption) rfl ?_
      | refine' jc_sum (by assumption) rfl ?_
      | refine' jc_sorted (by assumption) ?_
      | refine' jc_list (by assumption) rfl ?_
      | refine' jc_tuple (by assumption) ?_
      | refine' jc_range (by assumption) ?_
      | refine' jc_int (by assumption) ?_)
  | (show JI _ _ (.Call (.Name _ _) _ _ _) _; first
      | refine' ji_zip (BN.zip (by assumption)) ?_
      | refine' ji_range1 (BN.range (by assumption)) ?_
      | refine' ji_range2 (BN.range (by assumption)) ?_
      | refine' ji_range3 (BN.range (by assumption)) ?_
      | refine' ji_enum (BN.enumerate (by assumption)) ?_
      | refine' ji_name ?_)
  | (show JI _ _ _ _; first
      | refine' ji_name ?_)
  | (show JG _ (.Name _ _) _; first
      | exact jg_name (i := 0) (by assumption) rfl (by first | exact Or.inl rfl | exact Or.inr rfl)
      | exact jg_name (i := 1) (by assumption) rfl (by first | exact Or.inl rfl | exact Or.inr rfl)
      | exact jg_name (i := 2) (by assumption) rfl (by first | exact Or.inl rfl | exact Or.inr rfl)
      | exact jg_name (i := 3) (by assumption) rfl (by first | exact Or.inl rfl | exact Or.inr rfl)
      | exact jg_name (i := 4) (by assumption) rfl (by first | exact Or.inl rfl | exact Or.inr rfl)
      | exact jg_name (i := 5) (by assumption) rfl (by first | exact Or.inl rfl | exact Or.inr rfl)
      | exact jg_name (i := 6) (by assumption) rfl (by first | exact Or.inl rfl | exact Or.inr rfl)
      | exact jg_name (i := 7) (by assumption) rfl (by first | exact Or.inl rfl | exact Or.inr rfl)
      | exact jg_name (i := 8) (by assumption) rfl (by first | exact Or.inl rfl | exact Or.inr rfl)
      | exact jg_name (i := 9) (by assumption) rfl (by first | exact Or.inl rfl | exact Or.inr rfl)
      | exact jg_name (i := 10) (by assumption) rfl (by first | exact Or.inl rfl | exact Or.inr rfl)
      | exact jg_name (i := 11) (by assumption) rfl (by first | exact Or.inl rfl | exact Or.inr rfl))
  | (show JG _ (.Tuple _ _ _) _; first
      | refine' jg_name2 (i := 0) (j := 1) rfl (by assumption) rfl (by first | exact Or.inl rfl | exact Or.inr rfl) rfl (by first | exact Or.inl rfl | exact Or.inr rfl)
      | refine' jg_name2 (i := 1) (j := 2) rfl (by assumption) rfl (by first | exact Or.inl rfl | exact Or.inr rfl) rfl (by first | exact Or.inl rfl | exact Or.inr rfl)
      | refine' jg_name2 (i := 2) (j := 3) rfl (by assumption) rfl (by first | exact Or.inl rfl | exact Or.inr rfl) rfl (by first | exact Or.inl rfl | exact Or.inr rfl)
      | refine' jg_name2 (i := 3) (j := 4) rfl (by assumption) rfl (by first | exact Or.inl rfl | exact Or.inr rfl) rfl (by first | exact Or.inl rfl | exact Or.inr rfl)
      | refine' jg_name2 (i := 4) (j := 5) rfl (by assumption) rfl (by first | exact Or.inl rfl | exact Or.inr rfl) rfl (by first | exact Or.inl rfl | exact Or.inr rfl)
      | refine' jg_name2 (i := 5) (j := 6) rfl (by assumption) rfl (by first | exact Or.inl rfl | exact Or.inr rfl) rfl (by first | exact Or.inl rfl | exact Or.inr rfl)
      | refine' jg_name2 (i := 6) (j := 7) rfl (by assumption) rfl (by first | exact Or.inl rfl | exact Or.inr rfl) rfl (by first | exact Or.inl rfl | exact Or.inr rfl)
      | refine' jg_name2 (i := 7) (j := 8) rfl (by assumption) rfl (by first | exact Or.inl rfl | exact Or.inr rfl) rfl (by first | exact Or.inl rfl | exact Or.inr rfl)
      | refine' jg_name2 (i := 8) (j := 9) rfl (by assumption) rfl (by first | exact Or.inl rfl | exact Or.inr rfl) rfl (by first | exact Or.inl rfl | exact Or.inr rfl)
      | refine' jg_name2 (i := 9) (j := 10) rfl (by assumption) rfl (by first | exact Or.inl rfl | exact Or.inr rfl) rfl (by first | exact Or.inl rfl | exact Or.inr rfl)))
abbrev xWhole : Stmt := top 4
abbrev xText : Stmt := top 5
abbrev xWord : Stmt := top 6
abbrev xRising : Stmt := top 15
abbrev xKind : Stmt := top 16
section
variable {P : Program} {w : World} {K : PySem.W.Frag} {mg : Str → Option Value} {base : Heap} {f ft fl fn fp fa fi fm fo : Addr} {fd dt dl dn dp da di dm do' : FuncData}
def intV : PV → Bool
  | .int _ => true
  | _ => false
theorem scWhole : FnScope ["thing"] ["thing"] (defScope xWhole) := ⟨rfl, rfl, rfl, by decide +kernel, rfl, by decide +kernel, by decide +kernel⟩
def spWhole : Sp2 := fun ps G Q => ∃ v : PV, ps = [v] ∧ okV v ∧ Q (.bl (intV v)) G
set_option maxHeartbeats 2000000 in
theorem ok_whole (F : Fun K "is_whole" "is_whole" xWhole f fd) (B : BN mg) : Ok2 P w K mg base 1 f fd ["thing"] spWhole := by
  have nd := scWhole.nd
  refine fn2 F scWhole (fun vs G Q h => ?_) (fun cdv A outer s H E as G Q hr h => ?_)
  · obtain ⟨p, rfl, _⟩ := h
    rfl
  have hU := u200 hr
  apply ex2
  case a => get_elem_tactic_extensible
  obtain ⟨v, rfl, hv, q⟩ := h
  cases v with
  | int n =>
    with_reducible conv => whnf
    refine inst_i rfl (by decide) ?_
    refine ifT rfl ?_
    with_reducible conv => whnf
    refine inst_i rfl (by decide) ?_
    with_reducible conv => whnf
    exact ⟨G, GE.refl, q⟩
  | str z =>
    with_reducible conv => whnf
    refine inst_i rfl (by decide) ?_
    refine ifF rfl ?_
    exact ⟨G, GE.refl, q⟩
  | tup xs =>
    with_reducible conv => whnf
    refine inst_i rfl (by decide) ?_
    refine ifF rfl ?_
    exact ⟨G, GE.refl, q⟩
  | _ => exact hv.elim
theorem all_map {xs : List PV} {g : PV → Bool} : (xs.map g).all id = xs.all g := by
  rw [List.all_map]; rfl
theorem lenS_i {z : Str} {G : Gp} {Q : K2} (h : z.length ≤ 1000000) (q : Q (.int z.length) G) : len2 [.str z] G Q := ⟨h, q⟩
theorem lenT_i {xs : List PV} {G : Gp} {Q : K2} (q : Q (.int xs.length) G) : len2 [.tup xs] G Q := q
theorem scText : FnScope ["thing"] ["thing"] (defScope xText) := ⟨rfl, rfl, rfl, by decide +kernel, rfl, by decide +kernel, by decide +kernel⟩
theorem csText : compOkB (defScope xText) ["thing"] (cscope [(".0", .local), ("sign", .local), ("SIGNS", .globalImplicit)]) ["sign"] [none] 0 "sign" = true := by decide +kernel
def spText : Sp2 := fun ps G Q => ∃ v : PV, ps = [v] ∧ okV v ∧ Q (.bl (textV v)) G
set_option maxHeartbeats 2000000 in
theorem ok_text {t : Tok} (hS : mg "SIGNS" = some (.str SIG t)) (F : Fun K "is_text" "is_text" xText f fd) (B : BN mg) : Ok2 P w K mg base 1 f fd ["thing"] spText := by
  have nd := scText.nd
  refine fn2 F scText (fun vs G Q h => ?_) (fun cdv A outer s H E as G Q hr h => ?_)
  · obtain ⟨p, rfl, _⟩ := h
    rfl
  have hU := u200 hr
  apply ex2
  case a =>
    get_elem_tactic_extensible
    all_goals try (refine' j_comp csText rfl ?_ fun _ _ _ _ => ⟨?_, ?_⟩)
    all_goals get_elem_tactic_extensible
  obtain ⟨v, rfl, hv, q⟩ := h
  cases v with
  | str z =>
    have hz : z.length ≤ 1000 := hv.2
    with_reducible conv => whnf
    refine inst_i rfl (by decide) ?_
    with_reducible conv => whnf
    intro acc hacc
    refine cGo_pure (fun _ => true) (fun x => .bl (inS SIG x)) (by rw [signsP_length]; omega) (fun _ => trivial) (fun x ys R hx r => r) (fun x ys R hx _ r => ?_) ?_
    · obtain ⟨i, hi⟩ := List.getElem?_of_mem hx
      obtain ⟨c, _, rfl⟩ := signs_at hi
      exact r
    with_reducible conv => whnf
    refine allL_i (bs := (signsP z).map (inS SIG)) (lk_lst (by rw [up_same, List.map_map, List.filter_eq_self.mpr (by simp)]; rfl)) ?_
    with_reducible conv => whnf
    rw [all_map]
    exact ⟨_, GE.refl.new hacc, q⟩
  | int n =>
    with_reducible conv => whnf
    refine inst_i rfl (by decide) ?_
    exact ⟨G, GE.refl, q⟩
  | tup xs =>
    with_reducible conv => whnf
    refine inst_i rfl (by decide) ?_
    exact ⟨G, GE.refl, q⟩
  | _ => exact hv.elim
theorem scWord : FnScope ["thing"] ["thing"] (defScope xWord) := ⟨rfl, rfl, rfl, by decide +kernel, rfl, by decide +kernel, by decide +kernel⟩
theorem csWord : compOkB (defScope xWord) ["thing"] (cscope [(".0", .local), ("letter", .local), ("LETTERS", .globalImplicit)]) ["letter"] [none] 0 "letter" = true := by decide +kernel
def spWord : Sp2 := fun ps G Q => ∃ v : PV, ps = [v] ∧ okV v ∧ Q (.bl (wordV v)) G
set_option maxHeartbeats 2000000 in
theorem ok_word {t t' : Tok} (hS : mg "LETTERS" = some (.str LET t)) (hL : mg "LONGEST_WORD" = some (.int 8 t')) (F : Fun K "is_word" "is_word" xWord f fd) (B : BN mg) : Ok2 P w K mg base 1 f fd ["thing"] spWord := by
  have nd := scWord.nd
  refine fn2 F scWord (fun vs G Q h => ?_) (fun cdv A outer s H E as G Q hr h => ?_)
  · obtain ⟨p, rfl, _⟩ := h
    rfl
  have hU := u200 hr
  apply ex2
  case a =>
    get_elem_tactic_extensible
    all_goals try (refine' j_comp csWord rfl ?_ fun _ _ _ _ => ⟨?_, ?_⟩)
    all_goals get_elem_tactic_extensible
  obtain ⟨v, rfl, hv, q⟩ := h
  cases v with
  | str z =>
    have hz : z.length ≤ 1000 := hv.2
    have q' : Q (.bl (wordB z)) G := q
    with_reducible conv => whnf
    refine inst_i rfl (by decide) ?_
    refine ifF rfl ?_
    with_reducible conv => whnf
    refine lenS_i (by omega) ?_
    with_reducible conv => whnf
    refine ifB (fun h1 => ?_) (fun h1 => ?_)
    · with_reducible conv => whnf
      refine ifB (fun h2 => ?_) (fun h2 => ?_)
      · with_reducible conv => whnf
        refine ⟨G, GE.refl, ?_⟩
        have h3 : decide (z.length ≤ 8) = false := by
          have h2' : (!decide ((z.length : Int) ≤ 8)) = true := h2
          rw [Bool.not_eq_true', decide_eq_false_iff_not] at h2'
          exact decide_eq_false (by omega)
        rw [show wordB z = false by unfold wordB; rw [h3, Bool.and_false, Bool.false_and]] at q'
        exact q'
      · with_reducible conv => whnf
        intro acc hacc
        refine cGo_pure (fun _ => true) (fun x => .bl (inS LET x)) (by rw [signsP_length]; omega) (fun _ => trivial) (fun x ys R hx r => r) (fun x ys R hx _ r => ?_) ?_
        · obtain ⟨i, hi⟩ := List.getElem?_of_mem hx
          obtain ⟨c, _, rfl⟩ := signs_at hi
          exact r
        refine allL_i (bs := (signsP z).map (inS LET)) (lk_lst (by rw [up_same, List.map_map, List.filter_eq_self.mpr (by simp)]; rfl)) ?_
        rw [all_map]
        refine ⟨_, GE.refl.new hacc, ?_⟩
        have h1' : decide ((1 : Int) ≤ z.length) = true := h1
        have h2' : (!decide ((z.length : Int) ≤ 8)) = false := h2
        have h3 : decide (z.length ≤ 8) = true := by
          rw [Bool.not_eq_false', decide_eq_true_iff] at h2'
          exact decide_eq_true (by omega)
        have h4 : decide (1 ≤ z.length) = true := by
          rw [decide_eq_true_iff] at h1'
          exact decide_eq_true (by omega)
        rw [show wordB z = (signsP z).all (inS LET) by unfold wordB; rw [h3, h4, Bool.true_and, Bool.true_and]] at q'
        exact q'
    · with_reducible conv => whnf
      refine ⟨G, GE.refl, ?_⟩
      have h1' : decide ((1 : Int) ≤ z.length) = false := h1
      have h4 : decide (1 ≤ z.length) = false := by
        rw [decide_eq_false_iff_not] at h1'
        exact decide_eq_false (by omega)
      rw [show wordB z = false by unfold wordB; rw [h4, Bool.false_and, Bool.false_and]] at q'
      exact q'
  | int n =>
    with_reducible conv => whnf
    refine inst_i rfl (by decide) ?_
    refine ifT rfl ?_
    exact ⟨G, GE.refl, q⟩
  | tup xs =>
    with_reducible conv => whnf
    refine inst_i rfl (by decide) ?_
    refine ifT rfl ?_
    exact ⟨G, GE.refl, q⟩
  | _ => exact hv.elim
end
abbrev xMake : Stmt := top 17
abbrev xBlank : Stmt := top 20
theorem allB_map : ∀ ps : List Pt, (ps.map canB).all id = allB ps
  | [] => rfl
  | p :: ps => by rw [List.map_cons, List.all_cons, allB_map ps]; rfl
theorem anyB_map : ∀ ps : List Pt, (ps.map canB).any id = anyB ps
  | [] => rfl
  | p :: ps => by rw [List.map_cons, List.any_cons, anyB_map ps]; rfl
theorem encs_at' {ps : List Pt} {i : Nat} {x : PV} (h : (encs ps)[i]? = some x) : ∃ c, ps[i]? = some c ∧ x = enc c := by
  rw [encs_map, List.getElem?_map] at h
  cases e : ps[i]? with
  | none => rw [e] at h; cases h
  | some c => rw [e] at h; exact ⟨c, rfl, (Option.some.inj h).symm⟩
/-- the turns of a comprehension over some patterns, where no turn changes anything -/
theorem cGo_encs {cs : List Pt} {c : Gp → Prop} {ix : List (Option Nat)} {j : Nat} {τ : St2} {te : E2} {Q : K2} {G1 : Gp} {acc : Addr} (g : Pt → PV) (hz : cs.length < 1000000)
    (hc : ∀ ys, c (up G1 acc (.lst ys))) (he : ∀ x ys (R : K2), x ∈ cs → R (g x) (up G1 acc (.lst ys)) → te (L3.st (cap2 ix τ) j (some (enc x))) (up G1 acc (.lst ys)) R)
    (hq : Q (.ref acc) (up G1 acc (.lst (cs.map g)))) : cGo (encs cs) c ix j τ tYes2 te Q G1 acc := by
  refine ⟨fun i ys G => ys = (cs.take i).map g ∧ G = up G1 acc (.lst ys), ⟨by simp, rfl⟩, ?_, ?_, ?_⟩
  · rintro i ys G hi ⟨rfl, rfl⟩
    refine ⟨hc _, up_same, ?_⟩
    rw [List.length_map, List.length_take]
    omega
  · rintro i ys G x hx ⟨rfl, rfl⟩
    obtain ⟨d, hd, rfl⟩ := encs_at' hx
    have tk : cs.take (i + 1) = cs.take i ++ [d] := by rw [List.take_add_one, hd]; rfl
    refine ifT rfl ?_
    refine he d _ _ (List.mem_of_getElem? hd) ⟨up_same, ?_, up_up⟩
    rw [tk, List.map_append]
    rfl
  · rintro ys G ⟨rfl, rfl⟩
    rw [encs_length, List.take_length]
    exact hq
theorem mk_kind {v : PV} (h : mkB v = true) : kindV v = true := by
  match v, h with
  | .tup [.str k], h =>
    have : k = "none" ∨ k = "blank" := by simpa [mkB] using h
    rcases this with rfl | rfl <;> rfl
  | .tup [.str k, y], h =>
    have : (((k = "sign" ∧ riseV y = true) ∨ (k = "row" ∧ partsV y = true)) ∨ (k = "pick" ∧ partsV y = true)) ∨ k = "again" := by simpa [mkB] using h
    rcases this with ((⟨rfl, h⟩ | ⟨rfl, h⟩) | ⟨rfl, h⟩) | rfl <;> rfl
  | .tup [.str k, y, z], h =>
    have : (k = "held" ∧ wordV y = true) ∨ (k = "price" ∧ priceV y = true) := by simpa [mkB] using h
    rcases this with ⟨rfl, h⟩ | ⟨rfl, h⟩ <;> rfl
theorem asc_slice {z : Str} (h : asc z) (lo hi : Option Int) : asc (Txt.slice z lo hi) := by
  unfold Txt.slice
  split
  · exact h
  · unfold asc
    rw [Array.all_eq_true']
    intro c hc
    have hc' : c ∈ (Builtin.Str.strSliceIndices lo hi 1 z.length).filterMap (z.cps[·]?) := by simpa using hc
    obtain ⟨i, _, e⟩ := List.mem_filterMap.mp hc'
    unfold asc at h
    rw [Array.all_eq_true'] at h
    exact h c (Array.mem_of_getElem? e)
theorem ltS_i {x y : Str} {G : Gp} {Q : K2} (q : Q (.bl (decide (x.cps.toList < y.cps.toList))) G) : ltS2 (.str x) (.str y) G Q := q
theorem atI_zero {α : Type} {x : α} {xs : List α} : atI (x :: xs) 0 = some x := by
  unfold atI ixN
  rw [if_pos (by decide), if_pos (by simp only [List.length_cons]; omega)]
  rfl
section
variable {P : Program} {w : World} {K : PySem.W.Frag} {mg : Str → Option Value} {base : Heap} {f fk fr fw ft fl fn fp fa fi fm fo : Addr} {fd dk dr dw dt dl dn dp da di dm do' : FuncData}
def spInnerV : Sp2 := fun ps G Q => ∃ v ys, ps = [v] ∧ Shp v ys ∧ Q (.tup ys) G
set_option maxHeartbeats 2000000 in
theorem ok_innerV (F : Fun K "inner_patterns" "inner_patterns" xInner f fd) (B : BN mg) : Ok2 P w K mg base 1 f fd ["pattern"] spInnerV := by
  have nd := scInner.nd
  refine fn2 F scInner (fun vs G Q h => ?_) (fun cdv A outer s H E as G Q hr h => ?_)
  · obtain ⟨_, _, rfl, _⟩ := h
    rfl
  have hU := u200 hr
  apply ex2
  case a => get_elem_tactic_extensible
  obtain ⟨v, ys, rfl, hs, q⟩ := h
  cases hs with
  | none => exact ⟨lek, rfl, rfl, rfl, rfl, lek, rfl, rfl, lek, G, GE.refl, q⟩
  | blank => exact ⟨lek, rfl, rfl, rfl, rfl, lek, rfl, rfl, lek, G, GE.refl, q⟩
  | sign s => exact ⟨lek, rfl, rfl, rfl, rfl, lek, rfl, rfl, lek, G, GE.refl, q⟩
  | row => exact ⟨lek, rfl, rfl, G, GE.refl, q⟩
  | pick => exact ⟨lek, rfl, rfl, G, GE.refl, q⟩
  | again p => exact ⟨lek, rfl, rfl, rfl, rfl, lek, G, GE.refl, q⟩
  | held n p => exact ⟨lek, rfl, rfl, rfl, rfl, lek, rfl, rfl, lek, G, GE.refl, q⟩
  | price n p => exact ⟨lek, rfl, rfl, rfl, rfl, lek, rfl, rfl, lek, G, GE.refl, q⟩
theorem scRising : FnScope ["thing"] ["thing"] (defScope xRising) := ⟨rfl, rfl, rfl, by decide +kernel, rfl, by decide +kernel, by decide +kernel⟩
theorem csRising : compOkB (defScope xRising) ["thing"] (cscope [(".0", .local), ("one", .local), ("after", .local)]) ["one", "after"] [none, none] 0 "one" = true := by decide +kernel
theorem csRising2 : CompTwo (cscope [(".0", .local), ("one", .local), ("after", .local)]) ["one", "after"] [none, none] 1 "after" := ⟨rfl, by decide +kernel, rfl⟩
def spRising : Sp2 := fun ps G Q => ∃ v : PV, ps = [v] ∧ okV v ∧ Q (.bl (riseV v)) G
set_option maxHeartbeats 2000000 in
theorem ok_rising (F : Fun K "are_rising_signs" "are_rising_signs" xRising f fd) (B : BN mg) (C : Cal2 P w K mg base 1 "is_text" ft dt ["thing"] spText) : Ok2 P w K mg base 2 f fd ["thing"] spRising := by
  have nd := scRising.nd
  refine fn2 F scRising (fun vs G Q h => ?_) (fun cdv A outer s H E as G Q hr h => ?_)
  · obtain ⟨p, rfl, _⟩ := h
    rfl
  have hU := u200 hr
  apply ex2
  case a =>
    get_elem_tactic_extensible
    all_goals try (refine' j_comp2 csRising csRising2 rfl ?_ fun _ _ _ _ => ⟨?_, jk_ltS ?_ ?_⟩)
    all_goals get_elem_tactic_extensible
  obtain ⟨v, rfl, hv, q⟩ := h
  with_reducible conv => whnf
  refine ⟨v, rfl, hv, ?_⟩
  with_reducible conv => whnf
  refine ifB (fun ht => ?_) (fun ht => ?_)
  · with_reducible conv => whnf
    refine ⟨G, GE.refl, ?_⟩
    have ht' : textV v = false := by
      have : (!textV v) = true := ht
      simpa using this
    have : riseV v = false := by
      cases v with
      | str z => show riseB z = false; unfold riseB; rw [show textB z = false from ht', Bool.false_and, Bool.false_and]
      | _ => rfl
    rw [this] at q
    exact q
  have ht' : textV v = true := by
    have : (!textV v) = false := ht
    simpa using this
  cases v with
  | str z =>
    have hz : asc z := hv.1
    have hl : z.length ≤ 1000 := hv.2
    have q' : Q (.bl (riseB z)) G := q
    have tz : textB z = true := ht'
    with_reducible conv => whnf
    refine eqP_i rfl rfl ?_
    with_reducible conv => whnf
    refine ifB (fun he => ?_) (fun hne => ?_)
    · with_reducible conv => whnf
      refine ⟨G, GE.refl, ?_⟩
      have he' : (z == "") = true := he
      rw [show riseB z = false by unfold riseB; rw [he', Bool.not_true, Bool.and_false, Bool.false_and]] at q'
      exact q'
    have hne' : (z == "") = false := hne
    have h1 : 1 ≤ z.length := by
      refine Nat.pos_of_ne_zero fun h0 => ?_
      have e0 : z = ⟨#[]⟩ := by
        obtain ⟨cs⟩ := z
        have : cs = #[] := Array.eq_empty_of_size_eq_zero h0
        rw [this]
      rw [e0] at hne'
      exact absurd hne' (by decide)
    have ts := tail_size h1
    have tl : (Txt.slice z (some 1) none).cps.size < z.cps.size := by
      have e : z.cps.size = z.length := rfl
      omega
    with_reducible conv => whnf
    refine ⟨by omega, ?_⟩
    with_reducible conv => whnf
    refine ⟨hz, asc_slice hz _ _, tl, ?_⟩
    intro acc hacc
    refine cGo2_pure (fun x => .bl (ltP x)) ?_ (fun _ => trivial) (fun x ys R hx r => ?_) ?_
    · rw [zipP_length]
      omega
    · unfold zipP at hx
      obtain ⟨i, _, rfl⟩ := List.mem_map.mp hx
      exact ⟨_, _, rfl, ltS_i r⟩
    with_reducible conv => whnf
    refine allL_i (bs := (zipP z (Txt.slice z (some 1) none)).map ltP) (lk_lst (by rw [up_same, List.map_map]; rfl)) ?_
    with_reducible conv => whnf
    rw [all_map]
    refine ⟨_, GE.refl.new hacc, ?_⟩
    rw [show riseB z = (zipP z (Txt.slice z (some 1) none)).all ltP by unfold riseB; rw [tz, hne', Bool.true_and, Bool.not_false, Bool.true_and]] at q'
    exact q'
  | _ => cases ht'
theorem scKind : FnScope ["thing"] ["thing"] (defScope xKind) := ⟨rfl, rfl, rfl, by decide +kernel, rfl, by decide +kernel, by decide +kernel⟩
def spKind : Sp2 := fun ps G Q => ∃ v : PV, ps = [v] ∧ okV v ∧ Q (.bl (kindV v)) G
set_option maxHeartbeats 2000000 in
theorem ok_kind {dL : Addr} (hD : DGet P w K dL lenK) (hm : mg "LENGTHS" = some (.ref dL)) (F : Fun K "has_kind" "has_kind" xKind f fd) (B : BN mg) : Ok2 P w K mg base 1 f fd ["thing"] spKind := by
  have nd := scKind.nd
  refine fn2 F scKind (fun vs G Q h => ?_) (fun cdv A outer s H E as G Q hr h => ?_)
  · obtain ⟨p, rfl, _⟩ := h
    rfl
  have hU := u200 hr
  apply ex2
  case a => get_elem_tactic_extensible
  obtain ⟨v, rfl, hv, q⟩ := h
  cases v with
  | int n =>
    with_reducible conv => whnf
    refine inst_i rfl (by decide) ?_
    refine ifT rfl ?_
    exact ⟨G, GE.refl, q⟩
  | str n =>
    with_reducible conv => whnf
    refine inst_i rfl (by decide) ?_
    refine ifT rfl ?_
    exact ⟨G, GE.refl, q⟩
  | tup xs =>
    with_reducible conv => whnf
    refine inst_i rfl (by decide) ?_
    refine ifF rfl ?_
    with_reducible conv => whnf
    refine lenT_i ?_
    with_reducible conv => whnf
    refine eqP_i rfl rfl ?_
    with_reducible conv => whnf
    cases xs with
    | nil =>
      refine ifT rfl ?_
      exact ⟨G, GE.refl, q⟩
    | cons x xs =>
      refine ifF ?_ ?_
      · show (((x :: xs).length : Int) == 0) = false
        simp
        omega
      with_reducible conv => whnf
      refine ixT_i atI_zero ?_
      with_reducible conv => whnf
      have hx : okV x := hv.1
      cases x with
      | int n =>
        refine inst_i rfl (by decide) ?_
        refine ifT rfl ?_
        exact ⟨G, GE.refl, q⟩
      | tup n =>
        refine inst_i rfl (by decide) ?_
        refine ifT rfl ?_
        exact ⟨G, GE.refl, q⟩
      | str k =>
        refine inst_i rfl (by decide) ?_
        refine ifF rfl ?_
        with_reducible conv => whnf
        refine ixT_i atI_zero ?_
        with_reducible conv => whnf
        have q' : Q (.bl (lenK k == some ((xs.length : Int) + 1))) G := q
        generalize lenK k = o at q' ⊢
        cases o with
        | none =>
          with_reducible conv => whnf
          refine lenT_i ?_
          with_reducible conv => whnf
          refine eqP_i rfl rfl ?_
          exact ⟨G, GE.refl, q'⟩
        | some n =>
          with_reducible conv => whnf
          refine lenT_i ?_
          with_reducible conv => whnf
          refine eqP_i rfl rfl ?_
          refine ⟨G, GE.refl, ?_⟩
          have e : deq (.int n) (.int ((PV.str k :: xs).length : Nat)) = (some n == some ((xs.length : Int) + 1)) := by
            show (n == (((PV.str k :: xs).length : Nat) : Int)) = _
            rw [List.length_cons]
            by_cases h : n = (xs.length : Int) + 1
            · subst h; simp
            · have h2 : ¬ n = ((xs.length + 1 : Nat) : Int) := by omega
              rw [beq_eq_false_iff_ne.mpr h2]
              symm
              simp [h]
          rw [← e] at q'
          exact q'
      | _ => exact hx.elim
  | _ => exact hv.elim
theorem scMake : FnScope ["thing", "kind"] ["thing"] (defScope xMake) := ⟨rfl, rfl, rfl, by decide +kernel, rfl, by decide +kernel, by decide +kernel⟩
def spMake : Sp2 := fun ps G Q => ∃ v : PV, ps = [v] ∧ okV v ∧ Q (.bl (mkB v)) G
set_option maxHeartbeats 4000000 in
theorem ok_make {t1 t2 t3 : Tok} (h1 : mg "FEWEST_PARTS" = some (.int 2 t1)) (h2 : mg "MOST_PARTS" = some (.int 6 t2)) (h3 : mg "HIGHEST_PRICE" = some (.int 1000 t3)) (F : Fun K "is_make" "is_make" xMake f fd) (B : BN mg)
    (CK : Cal2 P w K mg base 1 "has_kind" fk dk ["thing"] spKind) (CR : Cal2 P w K mg base 2 "are_rising_signs" fr dr ["thing"] spRising) (CW : Cal2 P w K mg base 1 "is_word" fw dw ["thing"] spWord) (CN : Cal2 P w K mg base 1 "is_whole" fn dn ["thing"] spWhole) : Ok2 P w K mg base 3 f fd ["thing"] spMake := by
  have nd := scMake.nd
  refine fn2 F scMake (fun vs G Q h => ?_) (fun cdv A outer s H E as G Q hr h => ?_)
  · obtain ⟨p, rfl, _⟩ := h
    rfl
  have hU := u200 hr
  apply ex2
  case a => get_elem_tactic_extensible
  obtain ⟨v, rfl, hv, q⟩ := h
  with_reducible conv => whnf
  refine ⟨v, rfl, hv, ?_⟩
  with_reducible conv => whnf
  refine ifB (fun hk => ?_) (fun hk => ?_)
  · with_reducible conv => whnf
    refine ⟨G, GE.refl, ?_⟩
    have : mkB v = false := by
      have hk' : (!kindV v) = true := hk
      cases e : mkB v with
      | false => rfl
      | true => rw [mk_kind e] at hk'; cases hk'
    rw [this] at q
    exact q
  have hk' : kindV v = true := by
    have : (!kindV v) = false := hk
    simpa using this
  cases knd_of hk' with
  | none => exact ⟨rfl, rfl, lek, rfl, rfl, rfl, rfl, rfl, rfl, G, GE.refl, q⟩
  | blank => exact ⟨rfl, rfl, lek, rfl, rfl, rfl, rfl, rfl, rfl, G, GE.refl, q⟩
  | again p => exact ⟨rfl, rfl, lek, rfl, rfl, rfl, rfl, rfl, rfl, G, GE.refl, by
      have e : mkB (.tup [.str "again", p]) = true := by
        show ((false && riseV p || false && partsV p) || false && partsV p || true) = true
        simp
      rw [e] at q
      exact q⟩
  | sign y => exact ⟨rfl, rfl, y, rfl, hv.2.1, G, GE.refl, by
      have e : mkB (.tup [.str "sign", y]) = riseV y := by
        show ((true && riseV y || false && partsV y) || false && partsV y || false) = _
        simp
      rw [e] at q
      exact q⟩
  | held y z => exact ⟨rfl, rfl, lek, rfl, rfl, rfl, rfl, y, rfl, hv.2.1, G, GE.refl, by
      have e : mkB (.tup [.str "held", y, z]) = wordV y := by
        show (true && wordV y || false && priceV y) = _
        simp
      rw [e] at q
      exact q⟩
  | price y z =>
    have e : mkB (.tup [.str "price", y, z]) = priceV y := by
      show (false && wordV y || true && priceV y) = _
      simp
    rw [e] at q
    refine ⟨rfl, rfl, lek, rfl, rfl, rfl, rfl, rfl, rfl, y, rfl, hv.2.1, ?_⟩
    have hy : okV y := hv.2.1
    with_reducible conv => whnf
    cases y with
    | int n =>
      refine ifT rfl ?_
      with_reducible conv => whnf
      refine ifB (fun h1 => ?_) (fun h1 => ?_)
      · refine ⟨G, GE.refl, ?_⟩
        have h1' : decide ((0 : Int) ≤ n) = true := h1
        have e2 : priceV (.int n) = decide (n ≤ 1000) := by
          show (decide (0 ≤ n) && decide (n ≤ 1000)) = _
          rw [h1', Bool.true_and]
        rw [e2] at q
        exact q
      · refine ⟨G, GE.refl, ?_⟩
        have h1' : decide ((0 : Int) ≤ n) = false := h1
        have e2 : priceV (.int n) = false := by
          show (decide (0 ≤ n) && decide (n ≤ 1000)) = _
          rw [h1', Bool.false_and]
        rw [e2] at q
        exact q
    | str n =>
      refine ifF rfl ?_
      exact ⟨G, GE.refl, q⟩
    | tup n =>
      refine ifF rfl ?_
      exact ⟨G, GE.refl, q⟩
    | _ => exact hy.elim
  | row y =>
    have e : mkB (.tup [.str "row", y]) = partsV y := by
      show ((false && riseV y || true && partsV y) || false && partsV y || false) = _
      simp
    rw [e] at q
    have hy : okV y := hv.2.1
    cases y with
    | int n =>
      refine ⟨rfl, rfl, lek, rfl, rfl, (by decide : "tuple" ∈ Tys), ?_⟩
      refine ifF rfl ?_
      exact ⟨G, GE.refl, q⟩
    | str n =>
      refine ⟨rfl, rfl, lek, rfl, rfl, (by decide : "tuple" ∈ Tys), ?_⟩
      refine ifF rfl ?_
      exact ⟨G, GE.refl, q⟩
    | tup ys =>
      refine ⟨rfl, rfl, lek, rfl, rfl, (by decide : "tuple" ∈ Tys), ?_⟩
      with_reducible conv => whnf
      refine ifT rfl ?_
      with_reducible conv => whnf
      refine ixT_i (i := 1) (x := .tup ys) (xs := [_, .tup ys]) rfl ?_
      with_reducible conv => whnf
      refine lenT_i ?_
      with_reducible conv => whnf
      refine ifB (fun h1 => ?_) (fun h1 => ?_)
      · refine ⟨G, GE.refl, ?_⟩
        have h1' : decide ((2 : Int) ≤ (ys.length : Nat)) = true := h1
        have e2 : partsV (.tup ys) = decide (((ys.length : Nat) : Int) ≤ 6) := by
          show (decide (2 ≤ ys.length) && decide (ys.length ≤ 6)) = _
          rw [decide_eq_true_iff] at h1'
          rw [decide_eq_true (show 2 ≤ ys.length by omega), Bool.true_and]
          exact decide_eq_decide.mpr (by omega)
        rw [e2] at q
        exact q
      · refine ⟨G, GE.refl, ?_⟩
        have h1' : decide ((2 : Int) ≤ (ys.length : Nat)) = false := h1
        have e2 : partsV (.tup ys) = false := by
          show (decide (2 ≤ ys.length) && decide (ys.length ≤ 6)) = _
          rw [decide_eq_false_iff_not] at h1'
          rw [decide_eq_false (show ¬ 2 ≤ ys.length by omega), Bool.false_and]
        rw [e2] at q
        exact q
    | _ => exact hy.elim
  | pick y =>
    have e : mkB (.tup [.str "pick", y]) = partsV y := by
      show ((false && riseV y || false && partsV y) || true && partsV y || false) = _
      simp
    rw [e] at q
    have hy : okV y := hv.2.1
    cases y with
    | int n =>
      refine ⟨rfl, rfl, lek, rfl, rfl, (by decide : "tuple" ∈ Tys), ?_⟩
      refine ifF rfl ?_
      exact ⟨G, GE.refl, q⟩
    | str n =>
      refine ⟨rfl, rfl, lek, rfl, rfl, (by decide : "tuple" ∈ Tys), ?_⟩
      refine ifF rfl ?_
      exact ⟨G, GE.refl, q⟩
    | tup ys =>
      refine ⟨rfl, rfl, lek, rfl, rfl, (by decide : "tuple" ∈ Tys), ?_⟩
      with_reducible conv => whnf
      refine ifT rfl ?_
      with_reducible conv => whnf
      refine ixT_i (i := 1) (x := .tup ys) (xs := [_, .tup ys]) rfl ?_
      with_reducible conv => whnf
      refine lenT_i ?_
      with_reducible conv => whnf
      refine ifB (fun h1 => ?_) (fun h1 => ?_)
      · refine ⟨G, GE.refl, ?_⟩
        have h1' : decide ((2 : Int) ≤ (ys.length : Nat)) = true := h1
        have e2 : partsV (.tup ys) = decide (((ys.length : Nat) : Int) ≤ 6) := by
          show (decide (2 ≤ ys.length) && decide (ys.length ≤ 6)) = _
          rw [decide_eq_true_iff] at h1'
          rw [decide_eq_true (show 2 ≤ ys.length by omega), Bool.true_and]
          exact decide_eq_decide.mpr (by omega)
        rw [e2] at q
        exact q
      · refine ⟨G, GE.refl, ?_⟩
        have h1' : decide ((2 : Int) ≤ (ys.length : Nat)) = false := h1
        have e2 : partsV (.tup ys) = false := by
          show (decide (2 ≤ ys.length) && decide (ys.length ≤ 6)) = _
          rw [decide_eq_false_iff_not] at h1'
          rw [decide_eq_false (show ¬ 2 ≤ ys.length by omega), Bool.false_and]
        rw [e2] at q
        exact q
    | _ => exact hy.elim
theorem scBlank : FnScope ["pattern", "kind", "answers"] ["pattern"] (defScope xBlank) := ⟨rfl, rfl, rfl, by decide +kernel, rfl, by decide +kernel, by decide +kernel⟩
theorem csBlank : compOkB (defScope xBlank) ["pattern", "kind", "answers"] (cscope [(".0", .local), ("part", .local), ("can_be_blank", .globalImplicit)]) ["part"] [none] 0 "part" = true := by decide +kernel
def spBlank (n : Nat) : Sp2 := fun ps G Q => ∃ p : Pt, ps = [enc p] ∧ depth p < n ∧ size p ≤ 10000 ∧ Q (.bl (canB p)) G
set_option maxHeartbeats 4000000 in
theorem ok_blank {n k : Nat} (hk : 1 ≤ k) (F : Fun K "can_be_blank" "can_be_blank" xBlank f fd) (B : BN mg) (CI : Cal2 P w K mg base 1 "inner_patterns" fi di ["pattern"] spInner) (C : Cal2 P w K mg base k "can_be_blank" fa da ["pattern"] (spBlank n)) :
    Ok2 P w K mg base (k + 1) f fd ["pattern"] (spBlank (n + 1)) := by
  have nd := scBlank.nd
  refine fn2 F scBlank (fun vs G Q h => ?_) (fun cdv A outer s H E as G Q hr h => ?_)
  · obtain ⟨p, rfl, _⟩ := h
    rfl
  have hU := u200 hr
  apply ex2
  case a =>
    get_elem_tactic_extensible
    all_goals try (refine' js_comp (n := 2) (by assumption) rfl rfl csBlank rfl ?_ fun _ _ _ _ => ⟨?_, ?_⟩)
    all_goals get_elem_tactic_extensible
  obtain ⟨p, rfl, hd, hz, q⟩ := h
  have hdi := size_depth_inner p
  have hsi := size_inner p
  have key : ∀ (τ : St2) (R : K2), (∀ acc, G acc = none → R (.ref acc) (up G acc (.lst ((inner p).map fun c => .bl (canB c))))) → ∀ acc, G acc = none → cGo (encs (inner p)) (fun _ => True) [none] 0 τ tYes2 (eCall (spBlank n) (aCons (eV 0) aNil)) R G acc := fun τ R r acc hacc => by
    refine cGo_encs (fun c => .bl (canB c)) ?_ (fun _ => trivial) (fun x ys R hx r => ?_) (r acc hacc)
    · have := length_le_sizes (inner p); omega
    · have := depth_mem hx
      have := size_mem hx
      exact ⟨x, rfl, by omega, by omega, r⟩
  cases p with
  | none => exact ⟨lek, rfl, rfl, lek, rfl, rfl, G, GE.refl, q⟩
  | blank => exact ⟨lek, rfl, rfl, G, GE.refl, q⟩
  | sign s => exact ⟨lek, rfl, rfl, lek, rfl, rfl, G, GE.refl, q⟩
  | again p => exact ⟨lek, rfl, rfl, G, GE.refl, q⟩
  | row ps =>
    refine ⟨lek, rfl, rfl, lek, rfl, rfl, Pt.row ps, rfl, ?_⟩
    refine key _ _ fun acc hacc => ?_
    refine ⟨rfl, rfl, ?_⟩
    refine allL_i (bs := ps.map canB) (lk_lst (by rw [up_same, List.map_map]; rfl)) ?_
    rw [allB_map]
    exact ⟨_, GE.refl.new hacc, q⟩
  | pick ps =>
    refine ⟨lek, rfl, rfl, lek, rfl, rfl, Pt.pick ps, rfl, ?_⟩
    refine key _ _ fun acc hacc => ?_
    refine ⟨rfl, rfl, ?_⟩
    refine anyL_i (bs := ps.map canB) (lk_lst (by rw [up_same, List.map_map]; rfl)) ?_
    rw [anyB_map]
    exact ⟨_, GE.refl.new hacc, q⟩
  | held m p =>
    refine ⟨lek, rfl, rfl, lek, rfl, rfl, Pt.held m p, rfl, ?_⟩
    refine key _ _ fun acc hacc => ?_
    refine ⟨rfl, rfl, ?_⟩
    refine allL_i (bs := [canB p]) (lk_lst (by rw [up_same]; rfl)) ?_
    rw [show [canB p].all id = canB p by simp]
    exact ⟨_, GE.refl.new hacc, q⟩
  | price m p =>
    refine ⟨lek, rfl, rfl, lek, rfl, rfl, Pt.price m p, rfl, ?_⟩
    refine key _ _ fun acc hacc => ?_
    refine ⟨rfl, rfl, ?_⟩
    refine allL_i (bs := [canB p]) (lk_lst (by rw [up_same]; rfl)) ?_
    rw [show [canB p].all id = canB p by simp]
    exact ⟨_, GE.refl.new hacc, q⟩
end
abbrev xMade : Stmt := top 18
abbrev xIsP : Stmt := top 19
def encD (x : PV × Int) : PV := .tup [x.1, .int x.2]
section
variable {P : Program} {w : World} {K : PySem.W.Frag} {mg : Str → Option Value} {base : Heap} {f fk fr fw ft fl fn fp fa fi fm fo : Addr} {fd dk dr dw dt dl dn dp da di dm do' : FuncData}
theorem scMade : FnScope ["thing", "waiting", "seen", "pair", "depth", "part"] ["thing"] (defScope xMade) := ⟨rfl, rfl, rfl, by decide +kernel, rfl, by decide +kernel, by decide +kernel⟩
def spMade : Sp2 := fun ps G Q => ∃ v : PV, ps = [v] ∧ okV v ∧ ∀ b, (b = true ↔ Made v) → Q (.bl b) G
set_option maxHeartbeats 8000000 in
theorem ok_made {t1 t2 : Tok} (h1 : mg "DEEPEST" = some (.int 9 t1)) (h2 : mg "MOST_MAKES" = some (.int 40 t2)) (F : Fun K "is_made_of_makes" "is_made_of_makes" xMade f fd) (B : BN mg)
    (CM : Cal2 P w K mg base 3 "is_make" fm dm ["thing"] spMake) (CI : Cal2 P w K mg base 1 "inner_patterns" fi di ["pattern"] spInnerV) : Ok2 P w K mg base 4 f fd ["thing"] spMade := by
  have nd := scMade.nd
  refine fn2 F scMade (fun vs G Q h => ?_) (fun cdv A outer s H E as G Q hr h => ?_)
  · obtain ⟨p, rfl, _⟩ := h
    rfl
  have hU := u200 hr
  apply ex2
  case a => get_elem_tactic_extensible
  obtain ⟨t, rfl, ht, q⟩ := h
  refine ⟨lek, lek, fun v hv => ?_⟩
  refine ⟨fun k τ G' => ∃ (st : List (PV × Int)) (sn : Int) (z1 z2 z3 : Option PV), τ = [some t, some (.ref v), some (.int sn), z1, z2, z3] ∧ G' v = some (.lst (st.map encD)) ∧ GE G G' ∧ (∀ x ∈ st, okV x.1) ∧ 0 ≤ sn ∧ sn ≤ 40 ∧ (k : Int) = 41 - sn ∧ (st.length : Int) ≤ 1 + 6 * sn ∧ (Rest st sn ↔ Made t),
    ⟨41, [(t, 1)], 0, .none, .none, .none, rfl, by rw [up_same]; rfl, GE.refl.new hv, fun x hx => by cases List.mem_singleton.mp hx; exact ht, by decide, by decide, by decide, by simp, rest_one⟩, ?_⟩
  rintro k τ G' ⟨st, sn, z1, z2, z3, rfl, gv, ge, hok, hs0, hs, hk, hlen, hR⟩
  refine len_i (lk_lst gv) ?_
  rcases List.eq_nil_or_concat st with rfl | ⟨st', x, rfl⟩
  · exact ⟨_, ge, q _ ⟨fun _ => hR.mp (rest_nil hs), fun _ => rfl⟩⟩
  refine ifT ?_ ?_
  · refine decide_eq_true ?_
    simp
  rw [List.concat_eq_append, List.map_append] at gv
  rw [List.concat_eq_append] at hok hlen hR
  have hxo : okV x.1 := hok x (by simp)
  obtain ⟨x, d⟩ := x
  have no : ¬ Rest (st' ++ [(x, d)]) sn → Q (.bl false) G := fun h => q _ ⟨fun z => (nomatch z), fun z => absurd (hR.mpr z) h⟩
  refine ⟨⟨_, gv⟩, pop_i (y := encD (x, d)) gv ?_⟩
  with_reducible conv => whnf
  refine ixT_i (i := 1) (xs := [x, .int d]) (x := .int d) rfl ?_
  with_reducible conv => whnf
  refine ifB (fun hd => ?_) (fun hd => ?_)
  · with_reducible conv => whnf
    have hd' : (9 : Int) < d := of_decide_eq_true hd
    exact ⟨_, ge.mod hv, no fun h => by have := (rest_to h).1; omega⟩
  have hd' : ¬ (9 : Int) < d := of_decide_eq_false hd
  with_reducible conv => whnf
  refine ifB (fun hn => ?_) (fun hn => ?_)
  · with_reducible conv => whnf
    have hn' : (40 : Int) < sn + 1 := of_decide_eq_true hn
    exact ⟨_, ge.mod hv, no fun h => by have := (rest_to h).2.1; omega⟩
  have hn' : ¬ (40 : Int) < sn + 1 := of_decide_eq_false hn
  with_reducible conv => whnf
  refine ixT_i (i := 0) (xs := [x, .int d]) (x := x) rfl ?_
  with_reducible conv => whnf
  refine ⟨x, rfl, hxo, ?_⟩
  with_reducible conv => whnf
  refine ifB (fun hm => ?_) (fun hm => ?_)
  · with_reducible conv => whnf
    have hm' : (!mkB x) = true := hm
    exact ⟨_, ge.mod hv, no fun h => by rw [(rest_to h).2.2.1] at hm'; cases hm'⟩
  have hm' : mkB x = true := by
    have : (!mkB x) = false := hm
    simpa using this
  obtain ⟨ys, hsh, hl6⟩ := mk_shp hm'
  with_reducible conv => whnf
  refine ixT_i (i := 0) (xs := [x, .int d]) (x := x) rfl ?_
  with_reducible conv => whnf
  refine ⟨x, ys, rfl, hsh, ?_⟩
  with_reducible conv => whnf
  have hle : (st' ++ [(x, d)]).length = st'.length + 1 := by simp
  refine ⟨fun i τ G2 => ∃ z5, τ = [some t, some (.ref v), some (.int (sn + 1)), some (encD (x, d)), some (.int d), z5] ∧ G2 v = some (.lst ((st' ++ (ys.take i).map fun c => (c, d + 1)).map encD)) ∧ GE G G2, ⟨_, rfl, by rw [up_same]; simp, ge.mod hv⟩, fun _ _ _ _ _ => trivial, ?_, ?_⟩
  · rintro i y τ G2 hy ⟨z5, rfl, g2, ge2⟩
    have hi : i < ys.length := (List.getElem?_eq_some_iff.mp hy).1
    with_reducible conv => whnf
    refine ⟨⟨_, g2⟩, ?_⟩
    with_reducible conv => whnf
    refine ⟨lek, ?_⟩
    with_reducible conv => whnf
    refine append_i g2 ?_ ?_
    · rw [List.length_map, List.length_append, List.length_map, List.length_take]
      omega
    · refine ⟨_, rfl, ?_, ge2.mod hv⟩
      have tk : ys.take (i + 1) = ys.take i ++ [y] := by rw [List.take_add_one, hy]; rfl
      rw [up_same, tk]
      simp only [List.map_append, List.append_assoc, List.map_cons, List.map_nil]
      rfl
  · rintro τ G2 ⟨z5, rfl, g2, ge2⟩
    rw [List.take_length] at g2
    refine ⟨k - 1, by omega, _, _, _, _, _, rfl, g2, ge2, ?_, by omega, by omega, by omega, ?_, ?_⟩
    · intro y hy
      rcases List.mem_append.mp hy with hy | hy
      · exact hok y (by simp [hy])
      · obtain ⟨c, hc, rfl⟩ := List.mem_map.mp hy
        exact shp_ok hsh hxo c hc
    · rw [List.length_append, List.length_map]
      omega
    · rw [← hR]
      exact ⟨fun h => rest_from (by omega) hm' hsh h, fun h => (rest_to h).2.2.2 ys hsh⟩
theorem depth_makes' {p c : Pt} (h : c ∈ makes p) : depth c ≤ depth p ∧ size c ≤ size p := by
  induction hn : size p using Nat.strongRecOn generalizing p with
  | _ n ih =>
    rw [makes_inner] at h
    rcases List.mem_cons.mp h with rfl | h
    · exact ⟨Nat.le_refl _, by omega⟩
    · obtain ⟨q, hq, hc⟩ := makess_mem.mp h
      have h1 := size_mem hq
      have h2 := size_inner p
      have h3 := depth_mem hq
      have h4 := size_depth_inner p
      have := ih (size q) (by omega) hc rfl
      omega
theorem scIsP : FnScope ["thing", "make"] ["thing"] (defScope xIsP) := ⟨rfl, rfl, rfl, by decide +kernel, rfl, by decide +kernel, by decide +kernel⟩
def spIsP : Sp2 := fun ps G Q => ∃ v : PV, ps = [v] ∧ okV v ∧ ∀ b, (b = true ↔ IsP v) → Q (.bl b) G
set_option maxHeartbeats 8000000 in
theorem ok_isp {k : Nat} (hk : 4 ≤ k) (F : Fun K "is_pattern" "is_pattern" xIsP f fd) (B : BN mg) (CM : Cal2 P w K mg base 4 "is_made_of_makes" fm dm ["thing"] spMade) (CA : Cal2 P w K mg base 2 "makes_of" fa da ["pattern"] spMakes) (CB : Cal2 P w K mg base k "can_be_blank" fl dl ["pattern"] (spBlank 21)) : Ok2 P w K mg base (k + 1) f fd ["thing"] spIsP := by
  have nd := scIsP.nd
  refine fn2 F scIsP (fun vs G Q h => ?_) (fun cdv A outer s H E as G Q hr h => ?_)
  · obtain ⟨p, rfl, _⟩ := h
    rfl
  have hU := u200 hr
  apply ex2
  case a => get_elem_tactic_extensible
  obtain ⟨v, rfl, hv, q⟩ := h
  with_reducible conv => whnf
  refine ⟨v, rfl, hv, fun b hb => ?_⟩
  with_reducible conv => whnf
  refine ifB (fun hf => ?_) (fun hf => ?_)
  · with_reducible conv => whnf
    have hf' : (!b) = true := hf
    refine ⟨_, GE.refl, q _ ⟨fun z => (nomatch z), fun ⟨p, e, h1, h2, h3, _⟩ => ?_⟩⟩
    rw [hb.mpr ⟨p, e, h1, h2, h3⟩] at hf'
    cases hf'
  have hf' : b = true := by
    have : (!b) = false := hf
    simpa using this
  obtain ⟨p, rfl, hd, hz, hM⟩ := hb.mp hf'
  with_reducible conv => whnf
  refine ⟨p, rfl, by omega, fun m hm => ?_⟩
  with_reducible conv => whnf
  rw [lk_up]
  with_reducible conv => whnf
  refine ⟨fun i τ G2 => ∃ z1, τ = [some (enc p), z1] ∧ G2 = up G m (.lst (encs (makes p))) ∧ ∀ c ∈ (makes p).take i, agC c = true, ⟨_, rfl, rfl, by simp⟩, ?_, ?_, ?_⟩
  · rintro i τ G2 _ ⟨z1, rfl, rfl, _⟩
    exact lk_up
  · rintro i y τ G2 hy ⟨z1, rfl, rfl, hA⟩
    obtain ⟨c, hc, rfl⟩ := encs_at' hy
    have hcm := List.mem_of_getElem? hc
    obtain ⟨hcd, hcs⟩ := depth_makes' hcm
    have tk : (makes p).take (i + 1) = (makes p).take i ++ [c] := by rw [List.take_add_one, hc]; rfl
    have go : agC c = true → ∀ d ∈ (makes p).take (i + 1), agC d = true := fun h d hd => by
      rw [tk] at hd
      rcases List.mem_append.mp hd with hd | hd
      · exact hA d hd
      · cases List.mem_singleton.mp hd; exact h
    cases c with
    | again c' =>
      have e1 : depth (Pt.again c') = 1 + depth c' := rfl
      have e2 : size (Pt.again c') = 1 + size c' := rfl
      refine ⟨rfl, rfl, c', rfl, by omega, by omega, ?_⟩
      refine ifB (fun hb' => ?_) (fun hb' => ?_)
      · refine ⟨_, GE.refl.new hm, q _ ⟨fun z => (nomatch z), fun h => ?_⟩⟩
        have := (isP_enc.mp h).2.2.2 _ hcm
        have e3 : (!canB c') = true := this
        have e4 : canB c' = true := hb'
        rw [e4] at e3
        cases e3
      · have e4 : canB c' = false := hb'
        exact ⟨_, rfl, rfl, go (by show (!canB c') = true; rw [e4]; rfl)⟩
    | _ => exact ⟨rfl, rfl, _, rfl, rfl, go rfl⟩
  · rintro τ G2 ⟨z1, rfl, rfl, hA⟩
    rw [encs_length, List.take_length] at hA
    exact ⟨_, GE.refl.new hm, q _ ⟨fun _ => isP_enc.mpr ⟨hd, hz, hM, hA⟩, fun _ => rfl⟩⟩
end
local macro_rules | `(tactic| get_elem_tactic_extensible) => `(tactic| repeat' first
  | (show JB _ _ _; first
      | exact jb_nil
      | refine' jb_one ?_
      | refine' jb_cons ?_ ?_)
  | (show JA _ _ _; first
      | exact ja_nil
      | refine' ja_cons ?_ ?_)
  | (show JF _ _ _; first
      | exact jf_nil
      | refine' jf_one ?_)
  | (show JO _ _ _; first
      | exact jo_none
      | refine' jo_some ?_)
  | (show JS _ (.Assign [.Name _ _] _ _) _; first
      | refine' js_set (i := 0) ?_ (by assumption) rfl (by first | exact Or.inl rfl | exact Or.inr rfl)
      | refine' js_set (i := 1) ?_ (by assumption) rfl (by first | exact Or.inl rfl | exact Or.inr rfl)
      | refine' js_set (i := 2) ?_ (by assumption) rfl (by first | exact Or.inl rfl | exact Or.inr rfl)
      | refine' js_set (i := 3) ?_ (by assumption) rfl (by first | exact Or.inl rfl | exact Or.inr rfl)
      | refine' js_set (i := 4) ?_ (by assumption) rfl (by first | exact Or.inl rfl | exact Or.inr rfl)
      | refine' js_set (i := 5) ?_ (by assumption) rfl (by first | exact Or.inl rfl | exact Or.inr rfl)
      | refine' js_set (i := 6) ?_ (by assumption) rfl (by first | exact Or.inl rfl | exact Or.inr rfl)
      | refine' js_set (i := 7) ?_ (by assumption) rfl (by first | exact Or.inl rfl | exact Or.inr rfl)
      | refine' js_set (i := 8) ?_ (by assumption) rfl (by first | exact Or.inl rfl | exact Or.inr rfl)
      | refine' js_set (i := 9) ?_ (by assumption) rfl (by first | exact Or.inl rfl | exact Or.inr rfl)
      | refine' js_set (i := 10) ?_ (by assumption) rfl (by first | exact Or.inl rfl | exact Or.inr rfl)
      | refine' js_set (i := 11) ?_ (by assumption) rfl (by first | exact Or.inl rfl | exact Or.inr rfl))
  | (show JS _ (.Assign [.Subscript _ _ _] _ _) _; first
      | refine' js_asg ?_ (jg_sub ?_ ?_ set_L))
  | (show JS _ (.Assign [.Tuple _ _ _] _ _) _; first
      | refine' js_asg ?_ (jg_name3 (i := 0) (j := 1) (k := 2) rfl (by assumption) rfl (by first | exact Or.inl rfl | exact Or.inr rfl) rfl (by first | exact Or.inl rfl | exact Or.inr rfl) rfl (by first | exact Or.inl rfl | exact Or.inr rfl))
      | refine' js_asg ?_ (jg_name3 (i := 1) (j := 2) (k := 3) rfl (by assumption) rfl (by first | exact Or.inl rfl | exact Or.inr rfl) rfl (by first | exact Or.inl rfl | exact Or.inr rfl) rfl (by first | exact Or.inl rfl | exact Or.inr rfl))
      | refine' js_asg ?_ (jg_name3 (i := 2) (j := 3) (k := 4) rfl (by assumption) rfl (by first | exact Or.inl rfl | exact Or.inr rfl) rfl (by first | exact Or.inl rfl | exact Or.inr rfl) rfl (by first | exact Or.inl rfl | exact Or.inr rfl))
      | refine' js_asg ?_ (jg_name3 (i := 3) (j := 4) (k := 5) rfl (by assumption) rfl (by first | exact Or.inl rfl | exact Or.inr rfl) rfl (by first | exact Or.inl rfl | exact Or.inr rfl) rfl (by first | exact Or.inl rfl | exact Or.inr rfl))
      | refine' js_asg ?_ (jg_name3 (i := 4) (j := 5) (k := 6) rfl (by assumption) rfl (by first | exact Or.inl rfl | exact Or.inr rfl) rfl (by first | exact Or.inl rfl | exact Or.inr rfl) rfl (by first | exact Or.inl rfl | exact Or.inr rfl))
      | refine' js_asg ?_ (jg_name3 (i := 5) (j := 6) (k := 7) rfl (by assumption) rfl (by first | exact Or.inl rfl | exact Or.inr rfl) rfl (by first | exact Or.inl rfl | exact Or.inr rfl) rfl (by first | exact Or.inl rfl | exact Or.inr rfl))
      | refine' js_asg ?_ (jg_name3 (i := 6) (j := 7) (k := 8) rfl (by assumption) rfl (by first | exact Or.inl rfl | exact Or.inr rfl) rfl (by first | exact Or.inl rfl | exact Or.inr rfl) rfl (by first | exact Or.inl rfl | exact Or.inr rfl))
      | refine' js_asg ?_ (jg_name3 (i := 7) (j := 8) (k := 9) rfl (by assumption) rfl (by first | exact Or.inl rfl | exact Or.inr rfl) rfl (by first | exact Or.inl rfl | exact Or.inr rfl) rfl (by first | exact Or.inl rfl | exact Or.inr rfl)))
  | (show JS _ (.Return (some _) _) _; first
      | refine' js_ret ?_)
  | (show JS _ (.If _ _ _ _) _; first
      | refine' js_if ?_ ?_ ?_)
  | (show JS _ (.For _ _ _ [] _) _; first
      | refine' js_for PassesOwn.never rfl ?_ ?_ ?_)
  | (show JS _ (.While _ _ [] _) _; first
      | refine' js_while PassesOwn.never ?_ ?_)
  | (show JS _ (.Expr _ _) _; first
      | refine' js_expr ?_)
  | (show JS _ (.AugAssign (.Name _ _) _ _ _) _; first
      | refine' js_aug (n := 0) p_add ?_ (by assumption) rfl (by first | exact Or.inl rfl | exact Or.inr rfl)
      | refine' js_aug (n := 1) p_add ?_ (by assumption) rfl (by first | exact Or.inl rfl | exact Or.inr rfl)
      | refine' js_aug (n := 2) p_add ?_ (by assumption) rfl (by first | exact Or.inl rfl | exact Or.inr rfl)
      | refine' js_aug (n := 3) p_add ?_ (by assumption) rfl (by first | exact Or.inl rfl | exact Or.inr rfl)
      | refine' js_aug (n := 4) p_add ?_ (by assumption) rfl (by first | exact Or.inl rfl | exact Or.inr rfl)
      | refine' js_aug (n := 5) p_add ?_ (by assumption) rfl (by first | exact Or.inl rfl | exact Or.inr rfl)
      | refine' js_aug (n := 6) p_add ?_ (by assumption) rfl (by first | exact Or.inl rfl | exact Or.inr rfl)
      | refine' js_aug (n := 7) p_add ?_ (by assumption) rfl (by first | exact Or.inl rfl | exact Or.inr rfl))
  | (show JS _ (.AugAssign (.Subscript _ _ _) _ _ _) _; first
      | refine' js_augS g_seq p_add set_L ?_ ?_ ?_)
  | (show JS _ _ _; first
      | exact js_break
      | exact js_cont
      | exact js_pass)
  | (show JE _ (.Name _ _) _; first
      | exact jv 0
      | exact jv 1
      | exact jv 2
      | exact jv 3
      | exact jv 4
      | exact jv 5
      | exact jv 6
      | exact jv 7
      | exact jv 8
      | exact jv 9
      | exact jv 10
      | exact jv 11
      | exact jn_int (by assumption)
      | exact jn_bool (by assumption)
      | exact jn_str (by assumption)
      | exact jn_tuple (by assumption)
      | exact jn_list (by assumption)
      | exact j_gint (by assumption)
      | exact j_gstr (by assumption))
  | (show JE _ (.Constant _ _ _) _; first
      | exact j_int
      | exact j_str
      | exact j_bl
      | exact j_non)
  | (show JE _ (.BinOp _ .Add _ _) _; first
      | refine' jb_add ?_ ?_)
  | (show JE _ (.BinOp (.Tuple _ _ _) .Mult _ _) _; first
      | refine' jb_mulU ?_ ?_)
  | (show JT _ (.Compare (.Constant .none _ _) [.In] _ _) _; first
      | refine' jt_inNone (by assumption) ?_ ?_ rfl)
  | (show JT _ (.Compare _ [.IsNot] [.Constant (.bool _) _ _] _) _; first
      | refine' jt_isnB ?_ ?_ rfl)
  | (show JE _ (.BinOp _ .Sub _ _) _; first
      | refine' jb_sub ?_ ?_)
  | (show JE _ (.BinOp _ .Mult _ _) _; first
      | refine' jb_mul ?_ ?_)
  | (show JE _ (.BinOp _ .Mod _ _) _; first
      | refine' jb_mod ?_ ?_)
  | (show JE _ (.BinOp _ .FloorDiv _ _) _; first
      | refine' jb_fdiv ?_ ?_)
  | (show JE _ (.BinOp _ .Pow _ _) _; first
      | refine' jb_pow ?_ ?_)
  | (show JT _ (.Compare _ [.NotIn] [.Call (.Name _ _) _ _ _] _) _; first
      | refine' jt_notinR ?_ ?_ rfl)
  | (show JT _ (.Compare _ [.Eq] _ _) _; first
      | refine' jt_eq (by assumption) ?_ ?_)
  | (show JE _ (.Compare _ [.Eq] _ _) _; first
      | refine' jk_eq (by assumption) ?_ ?_)
  | (show JT _ (.Compare _ [.NotEq] _ _) _; first
      | refine' jt_ne (by assumption) ?_ ?_)
  | (show JE _ (.Compare _ [.NotEq] _ _) _; first
      | refine' jk_ne (by assumption) ?_ ?_)
  | (show JT _ (.Compare _ [.Lt] _ _) _; first
      | refine' jt_lt ?_ ?_)
  | (show JE _ (.Compare _ [.Lt] _ _) _; first
      | refine' jk_lt ?_ ?_)
  | (show JT _ (.Compare _ [.LtE] _ _) _; first
      | refine' jt_le ?_ ?_)
  | (show JE _ (.Compare _ [.LtE] _ _) _; first
      | refine' jk_le ?_ ?_)
  | (show JT _ (.Compare _ [.Gt] _ _) _; first
      | refine' jt_gt ?_ ?_)
  | (show JE _ (.Compare _ [.Gt] _ _) _; first
      | refine' jk_gt ?_ ?_)
  | (show JT _ (.Compare _ [.GtE] _ _) _; first
      | refine' jt_ge ?_ ?_)
  | (show JE _ (.Compare _ [.GtE] _ _) _; first
      | refine' jk_ge ?_ ?_)
  | (show JT _ (.Compare _ [.In] _ _) _; first
      | refine' jt_in ?_ ?_ rfl)
  | (show JE _ (.Compare _ [.In] _ _) _; first
      | refine' jk_in ?_ ?_ rfl)
  | (show JT _ (.Compare _ [.NotIn] _ _) _; first
      | refine' jt_notin ?_ ?_ rfl)
  | (show JE _ (.Compare _ [.NotIn] _ _) _; first
      | refine' jk_notin ?_ ?_ rfl)
  | (show JT _ (.Compare _ [.Is] _ _) _; first
      | refine' jt_isN ?_ ?_ rfl)
  | (show JE _ (.Compare _ [.Is] _ _) _; first
      | refine' jk_isN ?_ ?_ rfl)
  | (show JT _ (.Compare _ [.IsNot] _ _) _; first
      | refine' jt_isnN ?_ ?_ rfl)
  | (show JE _ (.Compare _ [.IsNot] _ _) _; first
      | refine' jk_isnN ?_ ?_ rfl)
  | (show JT _ (.Compare _ [.LtE, .LtE] _ _) _; first
      | refine' jt_lele ?_ ?_ ?_)
  | (show JE _ (.Compare _ [.LtE, .LtE] _ _) _; first
      | refine' jk_lele ?_ ?_ ?_)
  | (show JT _ (.Compare _ [.LtE, .Lt] _ _) _; first
      | refine' jt_lelt ?_ ?_ ?_)
  | (show JE _ (.Compare _ [.LtE, .Lt] _ _) _; first
      | refine' jk_lelt ?_ ?_ ?_)
  | (show JT _ (.UnaryOp .Not _ _) _; first
      | refine' jt_not ?_)
  | (show JT _ (.BoolOp _ _ _) _; first
      | refine' jw_t ?_)
  | (show JW _ _ _; first
      | refine' jw_or ?_ ?_
      | refine' jw_and ?_ ?_
      | refine' jw_or1 ?_
      | refine' jw_and1 ?_)
  | (show JT _ _ _; first
      | refine' jt_val ?_)
  | (show JE _ (.UnaryOp .Not _ _) _; first
      | refine' j_not ?_)
  | (show JE _ (.UnaryOp .USub _ _) _; first
      | refine' j_un u_neg ?_)
  | (show JE _ (.BoolOp _ _ _) _; first
      | refine' j_and ?_ ?_
      | refine' j_or ?_ ?_
      | refine' j_one ?_)
  | (show JE _ (.IfExp _ _ _ _) _; first
      | refine' j_ifE ?_ ?_ ?_)
  | (show JE _ (.List _ _) _; first
      | refine' j_lst ?_)
  | (show JE _ (.Tuple _ _ _) _; first
      | refine' j_tup ?_)
  | (show JE _ (.Subscript (.Dict _ _ _) _ _) _; first
      | refine' j_dix (by assumption) (j_dispC rfl (by simp) (by decide)) ?_)
  | (show JE _ (.Subscript _ (.Slice _ _ _ _) _) _; first
      | refine' j_rev ?_
      | refine' j_slice ?_ ?_ ?_)
  | (show JE _ (.Subscript _ _ _) _; first
      | refine' j_ixS ?_ ?_)
  | (show JE _ (.Call (.Name _ _) [.Call (.Name (Str.ofString "set") _) _ _ _] [] _) _; first
      | refine' j_sortedSet (by assumption) rfl ?_)
  | (show JE _ (.Dict [] [] _) _; first
      | exact j_dnew)
  | (show JE _ (.Call (.Name _ _) _ [_] _) _; first
      | refine' j_minD (by assumption) rfl ?_ ?_
      | refine' j_maxD (by assumption) rfl ?_ ?_)
  | (show JE _ (.Call (.Attribute _ _ _) _ _ _) _; first
      | refine' j_getD (by assumption) (by assumption) ?_
      | refine' jm_append ?_ ?_
      | refine' jm_extend ?_ ?_
      | refine' jm_join ?_ ?_
      | refine' jm_pop ?_
      | refine' jm_reverse ?_)
  | (show JE _ (.Call (.Name _ _) _ _ _) _; first
      | refine' j_cal (by assumption) (by assumption) (by first | assumption | omega) ?_
      | refine' jc_len (by assumption) ?_
      | refine' jc_inst (by assumption) ?_
      | refine' jc_all (by assumption) rfl ?_
      | refine' jc_any (by assumption) rfl ?_
      | refine' jc_maxI (by assumption) rfl ?_
      | refine' jc_sum (by assumption) rfl ?_
      | refine' jc_sortedS (by assumption) rfl ?_
      | refine' jc_list (by assumption) rfl ?_
      | refine' jc_tuple (by assumption) ?_
      | refine' jc_range (by assumption) ?_
      | refine' jc_int (by assumption) ?_)
  | (show JI _ _ (.Call (.Name _ _) _ _ _) _; first
      | refine' ji_zipT (BN.zip (by assumption)) ?_
      | refine' ji_range1 (BN.range (by assumption)) ?_
      | refine' ji_range2 (BN.range (by assumption)) ?_
      | refine' ji_range3 (BN.range (by assumption)) ?_
      | refine' ji_enum (BN.enumerate (by assumption)) ?_
      | refine' ji_name ?_
      | refine' ji_list ?_)
  | (show JI _ _ _ _; first
      | refine' ji_name ?_
      | refine' ji_list ?_)
  | (show JG _ (.Name _ _) _; first
      | exact jg_name (i := 0) (by assumption) rfl (by first | exact Or.inl rfl | exact Or.inr rfl)
      | exact jg_name (i := 1) (by assumption) rfl (by first | exact Or.inl rfl | exact Or.inr rfl)
      | exact jg_name (i := 2) (by assumption) rfl (by first | exact Or.inl rfl | exact Or.inr rfl)
      | exact jg_name (i := 3) (by assumption) rfl (by first | exact Or.inl rfl | exact Or.inr rfl)
      | exact jg_name (i := 4) (by assumption) rfl (by first | exact Or.inl rfl | exact Or.inr rfl)
      | exact jg_name (i := 5) (by assumption) rfl (by first | exact Or.inl rfl | exact Or.inr rfl)
      | exact jg_name (i := 6) (by assumption) rfl (by first | exact Or.inl rfl | exact Or.inr rfl)
      | exact jg_name (i := 7) (by assumption) rfl (by first | exact Or.inl rfl | exact Or.inr rfl)
      | exact jg_name (i := 8) (by assumption) rfl (by first | exact Or.inl rfl | exact Or.inr rfl)
      | exact jg_name (i := 9) (by assumption) rfl (by first | exact Or.inl rfl | exact Or.inr rfl)
      | exact jg_name (i := 10) (by assumption) rfl (by first | exact Or.inl rfl | exact Or.inr rfl)
      | exact jg_name (i := 11) (by assumption) rfl (by first | exact Or.inl rfl | exact Or.inr rfl))
  | (show JG _ (.Tuple _ _ _) _; first
      | refine' jg_name2 (i := 0) (j := 1) rfl (by assumption) rfl (by first | exact Or.inl rfl | exact Or.inr rfl) rfl (by first | exact Or.inl rfl | exact Or.inr rfl)
      | refine' jg_name2 (i := 1) (j := 2) rfl (by assumption) rfl (by first | exact Or.inl rfl | exact Or.inr rfl) rfl (by first | exact Or.inl rfl | exact Or.inr rfl)
      | refine' jg_name2 (i := 2) (j := 3) rfl (by assumption) rfl (by first | exact Or.inl rfl | exact Or.inr rfl) rfl (by first | exact Or.inl rfl | exact Or.inr rfl)
      | refine' jg_name2 (i := 3) (j := 4) rfl (by assumption) rfl (by first | exact Or.inl rfl | exact Or.inr rfl) rfl (by first | exact Or.inl rfl | exact Or.inr rfl)
      | refine' jg_name2 (i := 4) (j := 5) rfl (by assumption) rfl (by first | exact Or.inl rfl | exact Or.inr rfl) rfl (by first | exact Or.inl rfl | exact Or.inr rfl)
      | refine' jg_name2 (i := 5) (j := 6) rfl (by assumption) rfl (by first | exact Or.inl rfl | exact Or.inr rfl) rfl (by first | exact Or.inl rfl | exact Or.inr rfl)
      | refine' jg_name2 (i := 6) (j := 7) rfl (by assumption) rfl (by first | exact Or.inl rfl | exact Or.inr rfl) rfl (by first | exact Or.inl rfl | exact Or.inr rfl)
      | refine' jg_name2 (i := 7) (j := 8) rfl (by assumption) rfl (by first | exact Or.inl rfl | exact Or.inr rfl) rfl (by first | exact Or.inl rfl | exact Or.inr rfl)
      | refine' jg_name2 (i := 8) (j := 9) rfl (by assumption) rfl (by first | exact Or.inl rfl | exact Or.inr rfl) rfl (by first | exact Or.inl rfl | exact Or.inr rfl)
      | refine' jg_name2 (i := 9) (j := 10) rfl (by assumption) rfl (by first | exact Or.inl rfl | exact Or.inr rfl) rfl (by first | exact Or.inl rfl | exact Or.inr rfl)))
abbrev xHas : Stmt := top 21
mutual
def hasT : Pt → Bool
  | .none => false
  | .blank => true
  | .sign _ => true
  | .row ps => allT ps
  | .pick ps => anyT ps
  | .again _ => true
  | .held _ p => hasT p
  | .price _ p => hasT p
def allT : List Pt → Bool
  | [] => true
  | p :: ps => hasT p && allT ps
def anyT : List Pt → Bool
  | [] => false
  | p :: ps => hasT p || anyT ps
end
theorem allT_map : ∀ ps : List Pt, (ps.map hasT).all id = allT ps
  | [] => rfl
  | p :: ps => by rw [List.map_cons, List.all_cons, allT_map ps]; rfl
theorem anyT_map : ∀ ps : List Pt, (ps.map hasT).any id = anyT ps
  | [] => rfl
  | p :: ps => by rw [List.map_cons, List.any_cons, anyT_map ps]; rfl
section
variable {P : Program} {w : World} {K : PySem.W.Frag} {mg : Str → Option Value} {base : Heap} {f fi fa fm : Addr} {fd di da dm : FuncData}
theorem scHas : FnScope ["pattern", "kind", "answers"] ["pattern"] (defScope xHas) := ⟨rfl, rfl, rfl, by decide +kernel, rfl, by decide +kernel, by decide +kernel⟩
theorem csHas : compOkB (defScope xHas) ["pattern", "kind", "answers"] (cscope [(".0", .local), ("part", .local), ("has_texts", .globalImplicit)]) ["part"] [none] 0 "part" = true := by decide +kernel
def spHas (n : Nat) : Sp2 := fun ps G Q => ∃ p : Pt, ps = [enc p] ∧ depth p < n ∧ size p ≤ 10000 ∧ Q (.bl (hasT p)) G
set_option maxHeartbeats 4000000 in
theorem ok_has {n k : Nat} (hk : 1 ≤ k) (F : Fun K "has_texts" "has_texts" xHas f fd) (B : BN mg) (CI : Cal2 P w K mg base 1 "inner_patterns" fi di ["pattern"] spInner) (C : Cal2 P w K mg base k "has_texts" fa da ["pattern"] (spHas n)) :
    Ok2 P w K mg base (k + 1) f fd ["pattern"] (spHas (n + 1)) := by
  have nd := scHas.nd
  refine fn2 F scHas (fun vs G Q h => ?_) (fun cdv A outer s H E as G Q hr h => ?_)
  · obtain ⟨p, rfl, _⟩ := h
    rfl
  have hU := u200 hr
  apply ex2
  case a =>
    get_elem_tactic_extensible
    all_goals try (refine' js_comp (n := 2) (by assumption) rfl rfl csHas rfl ?_ fun _ _ _ _ => ⟨?_, ?_⟩)
    all_goals get_elem_tactic_extensible
  obtain ⟨p, rfl, hd, hz, q⟩ := h
  have hdi := size_depth_inner p
  have hsi := size_inner p
  have key : ∀ (τ : St2) (R : K2), (∀ acc, G acc = none → R (.ref acc) (up G acc (.lst ((inner p).map fun c => .bl (hasT c))))) → ∀ acc, G acc = none → cGo (encs (inner p)) (fun _ => True) [none] 0 τ tYes2 (eCall (spHas n) (aCons (eV 0) aNil)) R G acc := fun τ R r acc hacc => by
    refine cGo_encs (fun c => .bl (hasT c)) ?_ (fun _ => trivial) (fun x ys R hx r => ?_) (r acc hacc)
    · have := length_le_sizes (inner p); omega
    · have := depth_mem hx
      have := size_mem hx
      exact ⟨x, rfl, by omega, by omega, r⟩
  cases p with
  | none => exact ⟨rfl, rfl, G, GE.refl, q⟩
  | blank => exact ⟨rfl, rfl, lek, rfl, rfl, G, GE.refl, q⟩
  | sign s => exact ⟨rfl, rfl, lek, rfl, rfl, G, GE.refl, q⟩
  | again p => exact ⟨rfl, rfl, lek, rfl, rfl, G, GE.refl, q⟩
  | row ps =>
    refine ⟨rfl, rfl, lek, rfl, rfl, Pt.row ps, rfl, ?_⟩
    refine key _ _ fun acc hacc => ?_
    refine ⟨rfl, rfl, ?_⟩
    refine allL_i (bs := ps.map hasT) (lk_lst (by rw [up_same, List.map_map]; rfl)) ?_
    rw [allT_map]
    exact ⟨_, GE.refl.new hacc, q⟩
  | pick ps =>
    refine ⟨rfl, rfl, lek, rfl, rfl, Pt.pick ps, rfl, ?_⟩
    refine key _ _ fun acc hacc => ?_
    refine ⟨rfl, rfl, ?_⟩
    refine anyL_i (bs := ps.map hasT) (lk_lst (by rw [up_same, List.map_map]; rfl)) ?_
    rw [anyT_map]
    exact ⟨_, GE.refl.new hacc, q⟩
  | held m p =>
    refine ⟨rfl, rfl, lek, rfl, rfl, Pt.held m p, rfl, ?_⟩
    refine key _ _ fun acc hacc => ?_
    refine ⟨rfl, rfl, ?_⟩
    refine allL_i (bs := [hasT p]) (lk_lst (by rw [up_same]; rfl)) ?_
    rw [show [hasT p].all id = hasT p by simp]
    exact ⟨_, GE.refl.new hacc, q⟩
  | price m p =>
    refine ⟨rfl, rfl, lek, rfl, rfl, Pt.price m p, rfl, ?_⟩
    refine key _ _ fun acc hacc => ?_
    refine ⟨rfl, rfl, ?_⟩
    refine allL_i (bs := [hasT p]) (lk_lst (by rw [up_same]; rfl)) ?_
    rw [show [hasT p].all id = hasT p by simp]
    exact ⟨_, GE.refl.new hacc, q⟩
end
abbrev xPartsOf : Stmt := top 23
section
variable {P : Program} {w : World} {K : PySem.W.Frag} {mg : Str → Option Value} {base : Heap} {f fi fm : Addr} {fd di dm : FuncData}
theorem scPartsOf : FnScope ["pattern", "makes", "sizes", "parts", "number", "numbers", "part"] ["pattern"] (defScope xPartsOf) := ⟨rfl, rfl, rfl, by decide +kernel, rfl, by decide +kernel, by decide +kernel⟩
theorem csPartsOf : compOkB (defScope xPartsOf) ["pattern", "makes", "sizes", "parts", "number", "numbers", "part"] (cscope [(".0", .local), ("make", .local)]) ["make"] [none] 0 "make" = true := by decide +kernel
def spPartsOf : Sp2 := fun ps G Q => ∃ p, ps = [enc p] ∧ size p ≤ 10000 ∧ ∀ c, G c = none → Q (.ref c) (up G c (.lst (partsP p)))
set_option maxHeartbeats 8000000 in
theorem ok_partsof (F : Fun K "parts_of" "parts_of" xPartsOf f fd) (B : BN mg) (CI : Cal2 P w K mg base 1 "inner_patterns" fi di ["pattern"] spInner) (CM : Cal2 P w K mg base 2 "makes_of" fm dm ["pattern"] spMakes) : Ok2 P w K mg base 3 f fd ["pattern"] spPartsOf := by
  have nd := scPartsOf.nd
  refine fn2 F scPartsOf (fun vs G Q h => ?_) (fun cdv A outer s H E as G Q hr h => ?_)
  · obtain ⟨p, rfl, _⟩ := h
    rfl
  have hU := u200 hr
  apply ex2
  case a =>
    get_elem_tactic_extensible
    all_goals try (refine' js_comp (n := 2) (ix := [none]) (j := 0) nd rfl rfl csPartsOf rfl ?_ (fun C s H fp => ⟨?_, ?_⟩))
    all_goals try (refine' js_comp (n := 3) (ix := [none]) (j := 0) nd rfl rfl csPartsOf rfl ?_ (fun C s H fp => ⟨?_, ?_⟩))
    all_goals get_elem_tactic_extensible
  obtain ⟨p, rfl, hz, q⟩ := h
  have lM : (encs (makes p)).length = size p := by rw [encs_length, makes_length]
  with_reducible conv => whnf
  refine ⟨p, rfl, hz, fun mk hmk => ?_⟩
  with_reducible conv => whnf
  rw [lk_up]
  with_reducible conv => whnf
  intro sz hsz
  have nsm : sz ≠ mk := (up_none hsz).1
  refine cGo_pure (fun _ => true) (fun _ => .int 1) (by rw [lM]; omega) (fun ys => lk_lst (by rw [up_ne (Ne.symm nsm), up_same])) (fun x ys R _ hR => hR) (fun x ys R _ _ hR => hR) ?_
  rw [List.filter_eq_self.mpr (fun _ _ => rfl), List.map_const', lM]
  with_reducible conv => whnf
  rw [lk_lst (show up (up G mk _) sz _ mk = some (.lst (encs (makes p))) by rw [up_ne (Ne.symm nsm), up_same])]
  with_reducible conv => whnf
  intro pa hpa
  obtain ⟨nps, hpa2⟩ := up_none hpa
  obtain ⟨npm, hpa3⟩ := up_none hpa2
  have hsz' := (up_none hsz).2
  refine cGo_pure (fun _ => true) (fun _ => .tup []) (by rw [lM]; omega) (fun ys => lk_lst (by rw [up_ne (Ne.symm npm), up_ne (Ne.symm nsm), up_same])) (fun x ys R _ hR => hR) (fun x ys R _ _ hR => ⟨lek, hR⟩) ?_
  rw [List.filter_eq_self.mpr (fun _ _ => rfl), List.map_const', lM]
  with_reducible conv => whnf
  refine len_i (xs := encs (makes p)) (lk_lst (by rw [up_ne (Ne.symm npm), up_ne (Ne.symm nsm), up_same])) ?_
  rw [lM]
  with_reducible conv => whnf
  refine ⟨rfl, ⟨by omega, by omega, by decide, by decide⟩, ?_⟩
  rw [show ((size p : Int) - 1 - -1).toNat = size p by omega]
  refine ⟨fun i τ G2 => ∃ (S T : List PV) (t4 t5 t6 : Option PV), τ = [some (enc p), some (.ref mk), some (.ref sz), some (.ref pa), t4, t5, t6] ∧ G2 mk = some (.lst (encs (makes p))) ∧ G2 sz = some (.lst S) ∧ G2 pa = some (.lst T) ∧ GE G G2 ∧
    S.length = size p ∧ T.length = size p ∧ (∀ j, j < size p - i → S[j]? = some (.int 1)) ∧ (∀ j c, size p - i ≤ j → (makes p)[j]? = some c → S[j]? = some (.int (size c)) ∧ T[j]? = some (.tup ((childN (j + 1) (inner c)).map intN))), ?_, ?_, ?_, ?_⟩
  · refine ⟨_, _, _, _, _, rfl, by rw [up_ne (Ne.symm npm), up_ne (Ne.symm nsm), up_same], by rw [up_ne (Ne.symm nps), up_same], up_same, ((GE.refl.new hmk).mod hsz').mod hpa3, by simp, by simp, fun j hj => ?_, fun j c hj hc => ?_⟩
    · rw [List.getElem?_replicate, if_pos (by omega)]
    · have := (List.getElem?_eq_some_iff.mp hc).1
      rw [makes_length] at this
      omega
  · intros; trivial
  · rintro i x τ G2 hx ⟨S, T, t4, t5, t6, rfl, gm, gs, gp, ge, lS, lT, h1, h2⟩
    obtain ⟨hi, rfl⟩ := down_at hx
    obtain ⟨j0, hj0⟩ : ∃ j0, j0 = size p - 1 - i := ⟨_, rfl⟩
    have hjn : ((size p : Int) - 1 - i) = (j0 : Int) := by omega
    rw [hjn]
    have hjl : j0 < (makes p).length := by rw [makes_length]; omega
    obtain ⟨c0, hc0⟩ : ∃ c0, (makes p)[j0]? = some c0 := ⟨_, List.getElem?_eq_getElem hjl⟩
    with_reducible conv => whnf
    refine ⟨lek, fun nb hnb => ?_⟩
    have nbm : mk ≠ nb := ne_none gm hnb
    have nbs : sz ≠ nb := ne_none gs hnb
    have nbp : pa ≠ nb := ne_none gp hnb
    with_reducible conv => whnf
    refine ixL_i (lk_lst (by rw [up_ne nbm]; exact gm)) (atI_nat (at_encs hc0)) ?_
    with_reducible conv => whnf
    refine ⟨c0, rfl, ?_⟩
    with_reducible conv => whnf
    refine ⟨fun k τ G3 => ∃ (S2 : List PV) (t6 : Option PV), τ = [some (enc p), some (.ref mk), some (.ref sz), some (.ref pa), some (.int j0), some (.ref nb), t6] ∧ G3 mk = some (.lst (encs (makes p))) ∧ G3 sz = some (.lst S2) ∧ G3 pa = some (.lst T) ∧ G3 nb = some (.lst ((childN (j0 + 1) ((inner c0).take k)).map intN)) ∧ GE G G3 ∧
      S2.length = size p ∧ S2[j0]? = some (.int (1 + sizes ((inner c0).take k))) ∧ ∀ j, j ≠ j0 → S2[j]? = S[j]?, ?_, ?_, ?_, ?_⟩
    · refine ⟨S, t6, rfl, by rw [up_ne nbm]; exact gm, by rw [up_ne nbs]; exact gs, by rw [up_ne nbp]; exact gp, up_same, ge.new hnb, lS, ?_, fun _ _ => rfl⟩
      rw [h1 j0 (by omega)]; simp [sizes]
    · intros; trivial
    · rintro k x τ G3 hx3 ⟨S2, t6', rfl, gm3, gs3, gp3, gn3, ge3, lS2, e1, e2⟩
      obtain ⟨c, hc, rfl⟩ := encs_at hx3
      have hkl : k < (inner c0).length := (List.getElem?_eq_some_iff.mp hc).1
      have tk : (inner c0).take (k + 1) = (inner c0).take k ++ [c] := by rw [List.take_add_one, hc]; rfl
      have spl : inner c0 = (inner c0).take k ++ c :: (inner c0).drop (k + 1) := by
        have e3 := (List.take_append_drop k (inner c0)).symm
        rw [List.drop_eq_getElem_cons hkl] at e3
        have e4 : (inner c0)[k] = c := by
          have := hc; rw [List.getElem?_eq_getElem hkl] at this; exact Option.some.inj this
        rw [e4] at e3
        exact e3
      have hpart := seg_part hc0 spl
      have hle := seg_size hpart
      have hcp := size_pos c
      with_reducible conv => whnf
      refine ⟨⟨_, gn3⟩, ?_⟩
      with_reducible conv => whnf
      refine ixL_i (lk_lst gs3) (atI_nat e1) ?_
      with_reducible conv => whnf
      refine addI_i ?_
      with_reducible conv => whnf
      refine append_i gn3 (by rw [List.length_map, childN_length, List.length_take]; have := length_le_sizes (inner c0); have := seg_size hc0; have := size_inner c0; omega) ?_
      have nn : (nb : Addr) ≠ sz := Ne.symm nbs
      with_reducible conv => whnf
      refine ixG_i (i := (j0 : Int)) (lk_lst (by rw [up_ne nbs]; exact gs3)) (atI_nat e1) ?_
      with_reducible conv => whnf
      refine ixL_i (lk_lst up_same) (atI_last _ _) ?_
      with_reducible conv => whnf
      have e5 : S2[j0 + 1 + sizes ((inner c0).take k)]? = some (.int (size c)) := by
        rw [e2 _ (by omega)]
        exact (h2 _ c (by omega) hpart).1
      refine ixL_i (lk_lst (by rw [up_ne nbs]; exact gs3)) (by
        have e6 := atI_nat e5
        rw [show (((j0 + 1 + sizes ((inner c0).take k) : Nat) : Int)) = (j0 : Int) + (1 + (sizes ((inner c0).take k) : Int)) by omega] at e6
        exact e6) ?_
      with_reducible conv => whnf
      refine setL_i (k := (j0 : Int)) (by rw [up_ne nbs]; exact gs3) (ixN_nat (by omega)) ?_
      refine ⟨_, _, rfl, by rw [up_ne (Ne.symm nsm), up_ne nbm]; exact gm3, up_same, by rw [up_ne (by exact nps), up_ne nbp]; exact gp3, ?_, (ge3.mod (by
        cases e : G nb with
        | none => rfl
        | some o => rw [ge _ _ e] at hnb; cases hnb)).mod hsz', by rw [List.length_set]; exact lS2, ?_, fun j hj => ?_⟩
      · rw [up_ne (Ne.symm nbs), up_same, tk, childN_append, List.map_append]
        simp [childN, intN]
        omega
      · rw [List.getElem?_set_self (by omega), tk, sizes_append]
        simp [sizes]; omega
      · rw [List.getElem?_set_ne (Ne.symm hj)]; exact e2 j hj
    · rintro τ G3 ⟨S2, t6', rfl, gm3, gs3, gp3, gn3, ge3, lS2, e1, e2⟩
      rw [encs_length, List.take_length] at gn3 e1
      with_reducible conv => whnf
      refine tupL_i (lk_lst gn3) ?_
      with_reducible conv => whnf
      refine setL_i (k := (j0 : Int)) gp3 (ixN_nat (by omega)) ?_
      refine ⟨S2, _, _, _, _, rfl, by rw [up_ne (Ne.symm npm)]; exact gm3, by rw [up_ne (Ne.symm nps)]; exact gs3, up_same, ge3.mod hpa3, lS2, by rw [List.length_set]; exact lT, fun j hj => ?_, fun j c hj hc => ?_⟩
      · rw [e2 j (by omega)]; exact h1 j (by omega)
      · by_cases hjj : j = j0
        · subst hjj
          rw [hc0] at hc; cases hc
          refine ⟨?_, ?_⟩
          · rw [e1, size_inner c0]; simp
          · rw [List.getElem?_set_self (by omega)]
        · rw [e2 j hjj, List.getElem?_set_ne (Ne.symm hjj)]
          exact h2 j c (by omega) hc
  · rintro τ G2 ⟨S, T, t4, t5, t6, rfl, gm, gs, gp, ge, lS, lT, h1, h2⟩
    rw [down_len] at h1 h2
    have eT : T = partsP p := by
      apply List.ext_getElem?
      intro j
      by_cases hj : j < size p
      · obtain ⟨c, hc⟩ : ∃ c, (makes p)[j]? = some c := ⟨_, List.getElem?_eq_getElem (by rw [makes_length]; exact hj)⟩
        rw [(h2 j c (by omega) hc).2, partsP_at hc]
      · rw [List.getElem?_eq_none (by omega), List.getElem?_eq_none (by rw [partsP_length]; omega)]
    subst eT
    exact ⟨_, ge.at gp, q pa hpa3⟩
end
abbrev xDepth : Stmt := top 24
abbrev xSignsOf : Stmt := top 25
theorem max_fold : ∀ (r : List Int) (x : Int), let b := r.foldl (fun a b => if decide (a < b) = true then b else a) x; (b = x ∨ b ∈ r) ∧ x ≤ b ∧ ∀ y ∈ r, y ≤ b
  | [], x => ⟨.inl rfl, Int.le_refl _, by simp⟩
  | y :: r, x => by
    have ih := max_fold r (if decide (x < y) = true then y else x)
    dsimp only at ih ⊢
    rw [List.foldl_cons]
    obtain ⟨h1, h2, h3⟩ := ih
    by_cases hy : x < y
    · rw [if_pos (by simpa using hy)] at h1 h2 h3 ⊢
      refine ⟨.inr ?_, by omega, fun z hz => ?_⟩
      · rcases h1 with h1 | h1
        · rw [h1]; simp
        · exact List.mem_cons.mpr (.inr h1)
      · rcases List.mem_cons.mp hz with rfl | hz
        · exact h2
        · exact h3 z hz
    · rw [if_neg (by simpa using hy)] at h1 h2 h3 ⊢
      refine ⟨?_, h2, fun z hz => ?_⟩
      · rcases h1 with h1 | h1
        · exact .inl h1
        · exact .inr (List.mem_cons.mpr (.inr h1))
      · rcases List.mem_cons.mp hz with rfl | hz
        · omega
        · exact h3 z hz
theorem max_ok {xs : List Int} (h : xs ≠ []) : bestI (fun a b => decide (b < a)) xs ∈ xs ∧ ∀ y ∈ xs, y ≤ bestI (fun a b => decide (b < a)) xs := by
  cases xs with
  | nil => exact absurd rfl h
  | cons x r =>
    obtain ⟨h1, h2, h3⟩ := max_fold r x
    refine ⟨?_, fun y hy => ?_⟩
    · rcases h1 with h1 | h1
      · exact List.mem_cons.mpr (.inl h1)
      · exact List.mem_cons.mpr (.inr h1)
    · rcases List.mem_cons.mp hy with rfl | hy
      · exact h2
      · exact h3 y hy
theorem depths_max {ps : List Pt} (h : ps ≠ []) : ∃ c ∈ ps, depth c = depths ps := by
  induction ps with
  | nil => exact absurd rfl h
  | cons p ps ih =>
    by_cases hp : ps = []
    · subst hp
      exact ⟨p, by simp, by simp only [depths]; omega⟩
    · obtain ⟨c, hc, e⟩ := ih hp
      simp only [depths]
      by_cases hh : depths ps ≤ depth p
      · exact ⟨p, by simp, by omega⟩
      · exact ⟨c, by simp [hc], by omega⟩
theorem depths_best (ps : List Pt) : (if ps.map (fun c => ((depth c : Nat) : Int)) = [] then (0 : Int) else bestI (fun a b => decide (b < a)) (ps.map fun c => ((depth c : Nat) : Int))) = (depths ps : Nat) := by
  by_cases h : ps = []
  · subst h; rfl
  · have h' : ps.map (fun c => ((depth c : Nat) : Int)) ≠ [] := fun e => h (List.map_eq_nil_iff.mp e)
    rw [if_neg h']
    obtain ⟨h1, h2⟩ := max_ok h'
    obtain ⟨c, hc, e1⟩ := List.mem_map.mp h1
    obtain ⟨d, hd, e2⟩ := depths_max h
    have h3 := h2 _ (List.mem_map.mpr ⟨d, hd, rfl⟩)
    have h4 := depth_mem hc
    omega
/-- the signs of a make -/
def sgM : Pt → List Nat
  | .sign s => s.cps.toList
  | _ => []
def sgsOf (ps : List Pt) : List Nat := (ps.map sgM).flatten
@[reducible] def isSg : PV → Bool
  | .tup [.str k, _] => k == "sign"
  | _ => false
@[reducible] def sgOf1 : PV → PV
  | .tup [_, y] => y
  | _ => .non
def sgO' : Pt → Option Str
  | .sign s => some s
  | _ => none
theorem sgf_map : ∀ l : List Pt, ((encs l).filter isSg).map sgOf1 = (l.filterMap sgO').map PV.str
  | [] => rfl
  | c :: l => by
    have ih := sgf_map l
    show ((enc c :: encs l).filter isSg).map sgOf1 = _
    cases c with
    | sign s => rw [List.filter_cons_of_pos (by rfl), List.map_cons, ih]; rfl
    | _ => rw [List.filter_cons_of_neg (by simp only [enc, isSg]; decide), ih]; rfl
theorem sgf_cps : ∀ l : List Pt, ((l.filterMap sgO').map fun z => z.cps.toList).flatten = sgsOf l
  | [] => rfl
  | c :: l => by
    have ih := sgf_cps l
    unfold sgsOf at ih ⊢
    cases c with
    | sign s => rw [List.filterMap_cons]; show (s.cps.toList :: _).flatten = _; rw [List.flatten_cons, ih]; rfl
    | _ => rw [List.filterMap_cons]; simpa [sgO', sgM] using ih
theorem makess_mem : ∀ {ps : List Pt} {c : Pt}, c ∈ makess ps ↔ ∃ p ∈ ps, c ∈ makes p
  | [], c => by simp [makess]
  | p :: ps, c => by
    show c ∈ makes p ++ makess ps ↔ _
    rw [List.mem_append, makess_mem (ps := ps)]
    simp
theorem wf_makes {z : Str} : ∀ (n : Nat) (p : Pt), size p ≤ n → wf z p → ∀ c ∈ makes p, wf z c
  | 0, p, h, _, _, _ => by have := size_pos p; omega
  | n + 1, p, h, hw, c, hc => by
    rw [makes_inner] at hc
    rcases List.mem_cons.mp hc with rfl | hc
    · exact hw
    · obtain ⟨q, hq, hc⟩ := makess_mem.mp hc
      have h1 := size_mem hq
      have h2 := size_inner p
      exact wf_makes n q (by omega) (wf_part hw hq) c hc
def LB : List Nat := (letterS.map fun z => z.cps.toList).flatten
theorem LB_len : LB.length < 64 := by decide +kernel
theorem LB_mem {z : Str} (hz : z ∈ letterS) {x : Nat} (hx : x ∈ z.cps.toList) : x ∈ LB := List.mem_flatten.mpr ⟨_, List.mem_map.mpr ⟨z, hz, rfl⟩, hx⟩
/-- the signs of a pattern are few, each stretch is short -/
def Sg (p : Pt) : Prop := ∀ c ∈ makes p, (sgM c).length ≤ 6 ∧ ∀ x ∈ sgM c, x ∈ LB
theorem wf_sg {z : Str} (hz : z ∈ letterS) {p : Pt} (h : wf z p) : Sg p := fun c hc => by
  have hw := wf_makes _ p (Nat.le_refl _) h c hc
  have h6 := (letters_ok z hz).2
  cases c with
  | sign s =>
    refine ⟨?_, fun x hx => LB_mem hz (hw.2.subset hx)⟩
    have h3 := hw.2.length_le
    have e2 : z.cps.toList.length = z.length := by simp [Str.length]
    show s.cps.toList.length ≤ 6
    omega
  | _ => exact ⟨by simp [sgM], fun x hx => by cases hx⟩
theorem sgs_in {p : Pt} (h : Sg p) : ∀ c ∈ sgsOf (makes p), c ∈ LB := fun c hc => by
  unfold sgsOf at hc
  obtain ⟨l, hl, hcl⟩ := List.mem_flatten.mp hc
  obtain ⟨m, hm, rfl⟩ := List.mem_map.mp hl
  exact (h m hm).2 c hcl
theorem sgs_len {p : Pt} (h : Sg p) : (((makes p).filterMap sgO').map (·.length)).sum ≤ 6 * size p := by
  have key : ∀ l : List Pt, (∀ c ∈ l, (sgM c).length ≤ 6) → ((l.filterMap sgO').map (·.length)).sum ≤ 6 * l.length := by
    intro l
    induction l with
    | nil => intro _; simp
    | cons c l ih =>
      intro hl
      have h1 := ih fun d hd => hl d (by simp [hd])
      have h2 := hl c (by simp)
      cases c with
      | sign s =>
        have h3 : s.cps.toList.length ≤ 6 := h2
        have e1 : s.cps.toList.length = s.length := by simp [Str.length]
        rw [List.filterMap_cons]
        show (s.length :: _).sum ≤ _
        rw [List.sum_cons, List.length_cons]
        omega
      | _ =>
        rw [List.filterMap_cons, List.length_cons]
        show ((l.filterMap sgO').map (·.length)).sum ≤ _
        omega
  have := key (makes p) fun c hc => (h c hc).1
  rwa [makes_length] at this
section
variable {P : Program} {w : World} {K : PySem.W.Frag} {mg : Str → Option Value} {base : Heap} {f fi fa fm : Addr} {fd di da dm : FuncData}
theorem scDepth : FnScope ["pattern"] ["pattern"] (defScope xDepth) := ⟨rfl, rfl, rfl, by decide +kernel, rfl, by decide +kernel, by decide +kernel⟩
theorem csDepth : compOkB (defScope xDepth) ["pattern"] (cscope [(".0", .local), ("part", .local), ("depth_of", .globalImplicit)]) ["part"] [none] 0 "part" = true := by decide +kernel
def spDepth (n : Nat) : Sp2 := fun ps G Q => ∃ p : Pt, ps = [enc p] ∧ depth p < n ∧ size p ≤ 10000 ∧ Q (.int (depth p : Nat)) G
set_option maxHeartbeats 4000000 in
theorem ok_depth {n k : Nat} (hk : 1 ≤ k) (F : Fun K "depth_of" "depth_of" xDepth f fd) (B : BN mg) (CI : Cal2 P w K mg base 1 "inner_patterns" fi di ["pattern"] spInner) (C : Cal2 P w K mg base k "depth_of" fa da ["pattern"] (spDepth n)) :
    Ok2 P w K mg base (k + 1) f fd ["pattern"] (spDepth (n + 1)) := by
  have nd := scDepth.nd
  refine fn2 F scDepth (fun vs G Q h => ?_) (fun cdv A outer s H E as G Q hr h => ?_)
  · obtain ⟨p, rfl, _⟩ := h
    rfl
  have hU := u200 hr
  apply ex2
  case a =>
    get_elem_tactic_extensible
    all_goals try (refine' j_comp csDepth rfl ?_ fun _ _ _ _ => ⟨?_, ?_⟩)
    all_goals get_elem_tactic_extensible
  obtain ⟨p, rfl, hd, hz, q⟩ := h
  have hdi := size_depth_inner p
  have hsi := size_inner p
  with_reducible conv => whnf
  refine ⟨p, rfl, ?_⟩
  with_reducible conv => whnf
  intro acc hacc
  refine cGo_encs (fun c => .int (depth c : Nat)) ?_ (fun ys => trivial) (fun x ys R hx r => ?_) ?_
  · have := length_le_sizes (inner p); omega
  · have := depth_mem hx
    have := size_mem hx
    exact ⟨x, rfl, by omega, by omega, r⟩
  with_reducible conv => whnf
  rw [lk_up]
  with_reducible conv => whnf
  refine ⟨(inner p).map fun c => ((depth c : Nat) : Int), by rw [List.map_map]; rfl, ?_⟩
  rw [depths_best]
  with_reducible conv => whnf
  refine ⟨G, GE.refl.new hacc, ?_⟩
  rw [show (1 : Int) + ((depths (inner p) : Nat) : Int) = ((depth p : Nat) : Int) by omega]
  exact q
theorem scSignsOf : FnScope ["pattern", "found"] ["pattern"] (defScope xSignsOf) := ⟨rfl, rfl, rfl, by decide +kernel, rfl, by decide +kernel, by decide +kernel⟩
theorem csSignsOf : compOkB (defScope xSignsOf) ["pattern", "found"] (cscope [(".0", .local), ("make", .local)]) ["make"] [none] 0 "make" = true := by decide +kernel
def spSignsOf : Sp2 := fun ps G Q => ∃ p : Pt, ps = [enc p] ∧ Sg p ∧ size p ≤ 100 ∧ ∀ cs : List Nat, cs.Pairwise (· < ·) → (∀ x, x ∈ cs ↔ x ∈ sgsOf (makes p)) → Q (.str (Txt.join (Str.ofString "") (cs.map oneS))) G
set_option maxHeartbeats 4000000 in
theorem ok_signsOf (F : Fun K "signs_of" "signs_of" xSignsOf f fd) (B : BN mg) (CM : Cal2 P w K mg base 2 "makes_of" fm dm ["pattern"] spMakes) : Ok2 P w K mg base 3 f fd ["pattern"] spSignsOf := by
  have nd := scSignsOf.nd
  refine fn2 F scSignsOf (fun vs G Q h => ?_) (fun cdv A outer s H E as G Q hr h => ?_)
  · obtain ⟨_, rfl, _⟩ := h
    rfl
  have hU := u200 hr
  apply ex2
  case a =>
    get_elem_tactic_extensible
    all_goals try (refine' j_comp csSignsOf rfl ?_ fun _ _ _ _ => ⟨?_, ?_⟩)
    all_goals get_elem_tactic_extensible
  obtain ⟨p, rfl, hw, hz, q⟩ := h
  with_reducible conv => whnf
  refine ⟨p, rfl, by omega, fun l hl => ?_⟩
  with_reducible conv => whnf
  rw [lk_up]
  with_reducible conv => whnf
  intro acc hacc
  have nla := ne_none (G := up G l (.lst (encs (makes p)))) up_same hacc
  have hln := makes_length p
  refine cGo_pure isSg sgOf1 (by rw [encs_length]; omega) (fun ys => lk_lst (by rw [up_ne nla, up_same])) (fun x ys R hx r => ?_) (fun x ys R hx hs r => ?_) ?_
  · rw [encs_map] at hx
    obtain ⟨c, _, rfl⟩ := List.mem_map.mp hx
    cases c <;> exact ⟨rfl, rfl, r⟩
  · rw [encs_map] at hx
    obtain ⟨c, _, rfl⟩ := List.mem_map.mp hx
    cases c with
    | sign s => exact r
    | _ => exact absurd hs (by simp only [enc, isSg]; decide)
  with_reducible conv => whnf
  have hsl := sgs_len hw
  refine joinL_i (zs := (makes p).filterMap sgO') (lk_lst (by rw [up_same, sgf_map])) ?_ ?_
  · have e : (Str.ofString "").length = 0 := rfl
    rw [e, Nat.mul_zero]
    omega
  with_reducible conv => whnf
  have ecps : (Txt.join (Str.ofString "") ((makes p).filterMap sgO')).cps.toList = sgsOf (makes p) := by rw [joinE_cps, sgf_cps]
  have elen : (Txt.join (Str.ofString "") ((makes p).filterMap sgO')).length = (sgsOf (makes p)).length := by rw [← ecps]; simp [Str.length]
  have hfl : (sgsOf (makes p)).length ≤ 600 := by
    rw [← sgf_cps, List.length_flatten, List.map_map]
    have : (List.map (List.length ∘ fun z : Str => z.cps.toList) ((makes p).filterMap sgO')).sum = (((makes p).filterMap sgO').map (·.length)).sum := by
      congr 1
    rw [this]
    omega
  refine ⟨by rw [elen]; omega, ⟨LB, LB_len, fun c hc => sgs_in hw c (by rw [← ecps]; exact hc)⟩, fun cs c hcs hmem hc => ?_⟩
  with_reducible conv => whnf
  have hcl : cs.length ≤ LB.length := nodup_sub_len (hcs.imp (fun h => Nat.ne_of_lt h)) fun x hx => sgs_in hw x (by rw [← ecps]; exact (hmem x).mp hx)
  have hz6 := LB_len
  refine joinL_i (zs := cs.map oneS) (lk_lst (by rw [up_same, List.map_map]; rfl)) ?_ ?_
  · have e : (Str.ofString "").length = 0 := rfl
    rw [sum_ones, e, Nat.mul_zero]
    omega
  exact ⟨G, ((GE.refl.new hl).new hacc).new hc, q cs hcs fun x => by rw [hmem x, ecps]⟩
end
abbrev xJoined : Stmt := top 34
/-- the rows of numbers, the first with number b -/
def rowP (b : Nat) (M : List Pt) : List PV := (List.range M.length).map fun j => .tup ((childN (b + j + 1) (inner (M.getD j .none))).map intN)
theorem rowP_cons (b : Nat) (q : Pt) (M : List Pt) : rowP b (q :: M) = .tup ((childN (b + 1) (inner q)).map intN) :: rowP (b + 1) M := by
  unfold rowP
  rw [List.length_cons, List.range_succ_eq_map, List.map_cons, List.map_map]
  congr 1
  apply List.map_congr_left
  intro j _
  show PV.tup ((childN (b + (j + 1) + 1) (inner ((q :: M).getD (j + 1) .none))).map intN) = PV.tup ((childN (b + 1 + j + 1) (inner (M.getD j .none))).map intN)
  rw [getD_cons_succ, show b + (j + 1) + 1 = b + 1 + j + 1 by omega]
theorem rowP_append (b : Nat) : ∀ (M N : List Pt), rowP b (M ++ N) = rowP b M ++ rowP (b + M.length) N := by
  intro M
  induction M generalizing b with
  | nil => intro N; rfl
  | cons q M ih => intro N; rw [List.cons_append, rowP_cons, rowP_cons, ih, List.cons_append, List.length_cons, show b + 1 + M.length = b + (M.length + 1) by omega]
theorem rowP_parts (p : Pt) : partsP p = rowP 0 (makes p) := by
  unfold partsP rowP
  rw [makes_length]
  apply List.map_congr_left
  intro j _
  rw [Nat.zero_add]
theorem rowP_whole (p : Pt) : partsP p = .tup ((childN 1 (inner p)).map intN) :: rowP 1 (makess (inner p)) := by
  rw [rowP_parts, makes_inner, rowP_cons]
theorem rowP_length (b : Nat) (M : List Pt) : (rowP b M).length = M.length := by unfold rowP; simp
theorem childN_shift (s : Nat) : ∀ (ps : List Pt) (b : Nat), childN (s + b) ps = (childN b ps).map (s + ·)
  | [], b => rfl
  | p :: ps, b => by
    simp only [childN, List.map_cons]
    rw [← childN_shift s ps, Nat.add_assoc]
theorem row_at {s : Nat} {M : List Pt} {j : Nat} {x : PV} (h : (rowP 0 M)[j]? = some x) : ∃ xs : List Nat, x = .tup (xs.map intN) ∧ xs.length = (inner (M.getD j .none)).length ∧ (rowP s M)[j]? = some (.tup ((xs.map (s + ·)).map intN)) := by
  unfold rowP at h ⊢
  rw [List.getElem?_map] at h ⊢
  cases e : (List.range M.length)[j]? with
  | none => rw [e] at h; cases h
  | some k =>
    rw [e] at h
    have hj : j < M.length := by
      have := (List.getElem?_eq_some_iff.mp e).1
      simpa using this
    rw [List.getElem?_range hj] at e
    cases e
    refine ⟨childN (0 + j + 1) (inner (M.getD j .none)), (Option.some.inj h).symm, childN_length _ _, ?_⟩
    show some (PV.tup ((childN (s + j + 1) (inner (M.getD j .none))).map intN)) = _
    rw [show s + j + 1 = s + (0 + j + 1) by omega, childN_shift]
@[reducible] def shV (s : Nat) : PV → PV
  | .int n => .int (s + n)
  | v => v
theorem shV_map (s : Nat) (xs : List Nat) : (xs.map intN).map (shV s) = (xs.map (s + ·)).map intN := by
  rw [List.map_map, List.map_map]
  apply List.map_congr_left
  intro x _
  show PV.int ((s : Int) + (x : Int)) = PV.int ((s + x : Nat) : Int)
  rw [Int.natCast_add]
theorem inner_len {p : Pt} : (inner p).length ≤ size p := by
  have := length_le_sizes (inner p)
  have := size_inner p
  omega
section
variable {P : Program} {w : World} {K : PySem.W.Frag} {mg : Str → Option Value} {base : Heap} {f fi fa fm : Addr} {fd di da dm : FuncData}
theorem scJoined : FnScope ["parts", "found", "heads", "part", "shift", "numbers"] ["parts"] (defScope xJoined) := ⟨rfl, rfl, rfl, by decide +kernel, rfl, by decide +kernel, by decide +kernel⟩
theorem csJoined : compOkB (defScope xJoined) ["parts", "found", "heads", "part", "shift", "numbers"] (cscope [(".0", .local), ("one", .local), ("shift", .free)]) ["one", "shift"] [none, some 4] 0 "one" = true := by decide +kernel
def spJoined : Sp2 := fun ps G Q => ∃ (l : Addr) (cs : List Pt) (p : Pt), ps = [.ref l] ∧ G l = some (.lst (encs cs)) ∧ inner p = cs ∧ sizes cs ≤ 1000 ∧ ∀ c, G c = none → Q (.ref c) (up G c (.lst (partsP p)))
set_option maxHeartbeats 8000000 in
theorem ok_joined (F : Fun K "_law_joined" "_law_joined" xJoined f fd) (B : BN mg) (CQ : Cal2 P w K mg base 3 "parts_of" fm dm ["pattern"] spPartsOf) : Ok2 P w K mg base 4 f fd ["parts"] spJoined := by
  have nd := scJoined.nd
  refine fn2 F scJoined (fun vs G Q h => ?_) (fun cdv A outer s H E as G Q hr h => ?_)
  · obtain ⟨_, _, _, rfl, _⟩ := h
    rfl
  have hU := u200 hr
  apply ex2
  case a =>
    get_elem_tactic_extensible
    all_goals try (refine' j_comp csJoined rfl ?_ fun _ _ _ _ => ⟨?_, ?_⟩)
    all_goals get_elem_tactic_extensible
  obtain ⟨l, cs, p, rfl, gl, hi, hz, q⟩ := h
  with_reducible conv => whnf
  refine ⟨lek, ?_⟩
  with_reducible conv => whnf
  refine ⟨lek, fun fo hfo => ?_⟩
  with_reducible conv => whnf
  refine ⟨lek, fun he hhe => ?_⟩
  with_reducible conv => whnf
  have nfe : he ≠ fo := (up_none hhe).1
  have hhe' := (up_none hhe).2
  have nlf : l ≠ fo := ne_none gl hfo
  have nle : l ≠ he := ne_none gl hhe'
  rw [show lk (up (up G fo (MO.lst [PV.tup []])) he (MO.lst [])) l = some (encs cs) from lk_lst (by rw [up_ne nle, up_ne nlf]; exact gl)]
  with_reducible conv => whnf
  refine ⟨fun i τ G1 => ∃ t3 t4 t5 : Option PV, τ = [some (.ref l), some (.ref fo), some (.ref he), t3, t4, t5] ∧ GE G G1 ∧ G1 l = some (.lst (encs cs)) ∧ G1 fo = some (.lst (.tup [] :: rowP 1 (makess (cs.take i)))) ∧ G1 he = some (.lst ((childN 1 (cs.take i)).map intN)),
    ⟨_, _, _, rfl, (GE.refl.new hfo).new hhe, by rw [up_ne nle, up_ne nlf]; exact gl, by rw [up_ne (Ne.symm nfe), up_same]; rfl, by rw [up_same]; rfl⟩, ?_, ?_, ?_⟩
  · rintro i τ G1 _ ⟨t3, t4, t5, rfl, _, h, _⟩
    exact lk_lst h
  · rintro i x τ G1 hx ⟨t3, t4, t5, rfl, ge, k1, k2, k3⟩
    obtain ⟨c, hc, rfl⟩ := encs_at' hx
    have tk : cs.take (i + 1) = cs.take i ++ [c] := by rw [List.take_add_one, hc]; rfl
    have htk : sizes (cs.take i) + size c ≤ 1000 := by
      have h4 : sizes (cs.take (i + 1)) + sizes (cs.drop (i + 1)) = sizes cs := by rw [← sizes_append, List.take_append_drop]
      rw [tk, sizes_append] at h4
      have : sizes [c] = size c := by simp [sizes]
      omega
    have lF : (PV.tup [] :: rowP 1 (makess (cs.take i))).length = 1 + sizes (cs.take i) := by rw [List.length_cons, rowP_length, makess_length]; omega
    have lH : ((childN 1 (cs.take i)).map intN).length ≤ 1000 := by
      rw [List.length_map, childN_length]
      have := length_le_sizes (cs.take i)
      omega
    with_reducible conv => whnf
    refine len_i (lk_lst k2) ?_
    rw [lF]
    with_reducible conv => whnf
    refine ⟨⟨_, k3⟩, ?_⟩
    refine append_i k3 (by omega) ?_
    with_reducible conv => whnf
    refine ⟨c, rfl, by omega, fun r hr' => ?_⟩
    have hrn := (up_none hr').2
    have nre : r ≠ he := (up_none hr').1
    have nrf : r ≠ fo := Ne.symm (ne_none k2 hrn)
    have nrl : r ≠ l := Ne.symm (ne_none k1 hrn)
    with_reducible conv => whnf
    rw [lk_up]
    with_reducible conv => whnf
    refine ⟨fun j τ G2 => ∃ t5 : Option PV, τ = [some (.ref l), some (.ref fo), some (.ref he), some (enc c), some (.int (1 + sizes (cs.take i) : Nat)), t5] ∧ GE G G2 ∧ G2 l = some (.lst (encs cs)) ∧ G2 fo = some (.lst (.tup [] :: rowP 1 (makess (cs.take i)) ++ (rowP (1 + sizes (cs.take i)) (makes c)).take j)) ∧ G2 he = some (.lst ((childN 1 (cs.take (i + 1))).map intN)) ∧ G2 r = some (.lst (partsP c)),
      ⟨_, rfl, (ge.mod hhe').new hr', ?_, ?_, ?_, up_same⟩, ?_, ?_, ?_⟩
    · rw [up_ne (Ne.symm nrl), up_ne nle]; exact k1
    · rw [up_ne (Ne.symm nrf), up_ne (Ne.symm nfe), List.take_zero, List.append_nil]; exact k2
    · rw [up_ne (Ne.symm nre), up_same, tk, childN_append, List.map_append]; rfl
    · rintro j τ G2 _ ⟨t5, rfl, _, _, _, _, h⟩
      exact lk_lst h
    · rintro j y τ G2 hy ⟨t5', rfl, ge2, m1, m2, m3, m4⟩
      rw [rowP_parts] at hy
      obtain ⟨xs, rfl, hxs, hrow⟩ := row_at (s := 1 + sizes (cs.take i)) hy
      have tk2 : (rowP (1 + sizes (cs.take i)) (makes c)).take (j + 1) = (rowP (1 + sizes (cs.take i)) (makes c)).take j ++ [.tup ((xs.map (1 + sizes (cs.take i) + ·)).map intN)] := by rw [List.take_add_one, hrow]; rfl
      have hjl : j < (makes c).length := by
        have := (List.getElem?_eq_some_iff.mp hy).1
        rwa [rowP_length] at this
      have hxl : xs.length ≤ 1000 := by
        have hm : (makes c).getD j .none ∈ makes c := by
          rw [List.getD_eq_getElem?_getD, List.getElem?_eq_getElem hjl]; exact List.getElem_mem hjl
        have h1 := (depth_makes' hm).2
        have h2 := inner_len (p := (makes c).getD j .none)
        omega
      with_reducible conv => whnf
      refine ⟨⟨_, m2⟩, ?_⟩
      with_reducible conv => whnf
      intro acc hacc
      refine cGo_pure (fun _ => true) (shV (1 + sizes (cs.take i))) (by rw [List.length_map]; omega) (fun _ => trivial) (fun x ys R hx r => r) (fun x ys R hx _ r => ?_) ?_
      · obtain ⟨n, _, rfl⟩ := List.mem_map.mp hx
        exact r
      rw [List.filter_eq_self.mpr (fun _ _ => rfl), shV_map]
      with_reducible conv => whnf
      refine tupL_i lk_up ?_
      with_reducible conv => whnf
      refine append_i (by rw [up_ne (ne_none m2 hacc)]; exact m2) ?_ ?_
      · rw [List.length_append, lF, List.length_take, rowP_length, makes_length]; omega
      refine ⟨_, rfl, (ge2.new hacc).mod hfo, ?_, ?_, ?_, ?_⟩
      · rw [up_ne nlf, up_ne (ne_none m1 hacc)]; exact m1
      · rw [up_same, tk2, List.append_assoc]
      · rw [up_ne nfe, up_ne (ne_none m3 hacc)]; exact m3
      · rw [up_ne nrf, up_ne (ne_none m4 hacc)]; exact m4
    · rintro τ G2 ⟨t5', rfl, ge2, m1, m2, m3, m4⟩
      refine ⟨_, _, _, rfl, ge2, m1, ?_, m3⟩
      rw [m2, partsP_length, List.take_of_length_le (l := rowP (1 + sizes (cs.take i)) (makes c)) (by rw [rowP_length, makes_length]; exact Nat.le_refl _), tk, makess_append, rowP_append, makess_length, show makess [c] = makes c by simp [makess]]
      rfl
  · rintro τ G1 ⟨t3, t4, t5, rfl, ge, k1, k2, k3⟩
    rw [encs_length, List.take_length] at k2 k3
    with_reducible conv => whnf
    refine tupL_i (lk_lst k3) ?_
    with_reducible conv => whnf
    refine setL_i (k := ((0 : Nat) : Int)) (j := 0) k2 (ixN_nat (by simp)) ?_
    with_reducible conv => whnf
    refine ⟨_, (ge.mod hfo).at up_same, ?_⟩
    have := q fo hfo
    rw [rowP_whole, hi] at this
    exact this
end
abbrev xBounded : Stmt := top 35
/-- the turns of a comprehension over some patterns, where each turn may leave something new -/
theorem cGo_encsG {cs : List Pt} {c : Gp → Prop} {ix : List (Option Nat)} {j : Nat} {τ : St2} {te : E2} {Q : K2} {G1 : Gp} {acc : Addr} (g : Pt → PV) (hz : cs.length < 1000000) (hacc : G1 acc = none)
    (hc : ∀ G, GE G1 G → c G) (he : ∀ x G (R : K2), x ∈ cs → GE G1 G → (∀ G', GE G G' → R (g x) G') → te (L3.st (cap2 ix τ) j (some (enc x))) G R)
    (hq : ∀ G, GE G1 G → G acc = some (.lst (cs.map g)) → Q (.ref acc) G) : cGo (encs cs) c ix j τ tYes2 te Q G1 acc := by
  refine ⟨fun i ys G => ys = (cs.take i).map g ∧ GE G1 G ∧ G acc = some (.lst ys), ⟨by simp, GE.refl.mod hacc, up_same⟩, ?_, ?_, ?_⟩
  · rintro i ys G hi ⟨rfl, ge, ga⟩
    refine ⟨hc _ ge, ga, ?_⟩
    rw [List.length_map, List.length_take]
    omega
  · rintro i ys G x hx ⟨rfl, ge, ga⟩
    obtain ⟨d, hd, rfl⟩ := encs_at' hx
    have tk : cs.take (i + 1) = cs.take i ++ [d] := by rw [List.take_add_one, hd]; rfl
    refine ifT rfl ?_
    refine he d _ _ (List.mem_of_getElem? hd) ge fun G' ge' => ⟨ge' _ _ ga, ?_, (ge.trans ge').mod hacc, up_same⟩
    rw [tk, List.map_append]
    rfl
  · rintro ys G ⟨rfl, ge, ga⟩
    rw [encs_length, List.take_length] at ga
    exact hq _ ge ga
def Gd (p : Pt) : Prop := depth p ≤ 9 ∧ size p ≤ 40 ∧ ∃ z ∈ letterS, wf z p
def GdL (cs : List Pt) : Prop := cs ≠ [] ∧ cs.length ≤ 6 ∧ ∀ c ∈ cs, Gd c
theorem GdL.sizes {cs : List Pt} (h : GdL cs) : L3.sizes cs ≤ 240 := by
  have key : ∀ l : List Pt, (∀ c ∈ l, Gd c) → L3.sizes l ≤ 40 * l.length := by
    intro l
    induction l with
    | nil => intro _; simp [L3.sizes]
    | cons c l ih =>
      intro hl
      have h1 := ih fun d hd => hl d (by simp [hd])
      have h2 := (hl c (by simp)).2.1
      simp only [L3.sizes, List.length_cons]
      omega
  have := key cs h.2.2
  have := h.2.1
  omega
theorem GdL.depths {cs : List Pt} (h : GdL cs) : L3.depths cs ≤ 9 := by
  obtain ⟨c, hc, e⟩ := depths_max h.1
  have := (h.2.2 c hc).1
  omega
theorem sum_sizes : ∀ cs : List Pt, (cs.map fun c => ((size c : Nat) : Int)).sum = ((sizes cs : Nat) : Int)
  | [] => rfl
  | c :: cs => by rw [List.map_cons, List.sum_cons, sum_sizes cs]; simp [sizes]
theorem max_depths {cs : List Pt} {M : Int} (h : cs ≠ []) (h1 : M ∈ cs.map fun c => ((depth c : Nat) : Int)) (h2 : ∀ a ∈ cs.map (fun c => ((depth c : Nat) : Int)), a ≤ M) : M = (depths cs : Nat) := by
  obtain ⟨c, hc, e1⟩ := List.mem_map.mp h1
  obtain ⟨d, hd, e2⟩ := depths_max h
  have h3 := h2 _ (List.mem_map.mpr ⟨d, hd, rfl⟩)
  have h4 := depth_mem hc
  omega
/-- whether a whole of these parts is a pattern -/
def bnd (w : Str) (cs : List Pt) : Bool := !(((w == "row" || w == "pick") && decide (cs.length < 2)) || (w == "again" && canB (cs.headD .none))) && decide (depths cs ≤ 8) && decide (sizes cs ≤ 39)
section
variable {P : Program} {w : World} {K : PySem.W.Frag} {mg : Str → Option Value} {base : Heap} {f fi fa fm : Addr} {fd di da dm : FuncData}
theorem scBounded : FnScope ["word", "parts"] ["word", "parts"] (defScope xBounded) := ⟨rfl, rfl, rfl, by decide +kernel, rfl, by decide +kernel, by decide +kernel⟩
theorem csBounded : compOkB (defScope xBounded) ["word", "parts"] (cscope [(".0", .local), ("part", .local), ("depth_of", .globalImplicit)]) ["part"] [none] 0 "part" = true := by decide +kernel
def spBounded : Sp2 := fun ps G Q => ∃ (v : Str) (l : Addr) (cs : List Pt), ps = [.str v, .ref l] ∧ G l = some (.lst (encs cs)) ∧ GdL cs ∧ v ∈ (["row", "pick", "held", "price", "again"] : List Str) ∧ Q (.bl (bnd v cs)) G
set_option maxHeartbeats 8000000 in
theorem ok_bounded {k : Nat} (hk : 22 ≤ k) (F : Fun K "_law_bounded" "_law_bounded" xBounded f fd) (B : BN mg) (CM : Cal2 P w K mg base 2 "makes_of" fm dm ["pattern"] spMakes) (CB : Cal2 P w K mg base 22 "can_be_blank" fa da ["pattern"] (spBlank 21)) (CD : Cal2 P w K mg base 22 "depth_of" fi di ["pattern"] (spDepth 21)) : Ok2 P w K mg base (k + 1) f fd ["word", "parts"] spBounded := by
  have nd := scBounded.nd
  refine fn2 F scBounded (fun vs G Q h => ?_) (fun cdv A outer s H E as G Q hr h => ?_)
  · obtain ⟨_, _, _, rfl, _⟩ := h
    rfl
  have hU := u200 hr
  apply ex2
  case a =>
    get_elem_tactic_extensible
    all_goals try (refine' j_comp csBounded rfl ?_ fun _ _ _ _ => ⟨?_, ?_⟩)
    all_goals try (refine' j_comp csBounded2 rfl ?_ fun _ _ _ _ => ⟨?_, ?_⟩)
    all_goals get_elem_tactic_extensible
  obtain ⟨v, l, cs, rfl, gl, hg, hv, q⟩ := h
  with_reducible conv => whnf
  refine ⟨lek, fun p0 hp0 => ?_⟩
  with_reducible conv => whnf
  have ge1 : GE G (up G p0 (.lst [.str "row", .str "pick"])) := GE.refl.new hp0
  have gl1 : up G p0 (.lst [.str "row", .str "pick"]) l = some (.lst (encs cs)) := by rw [up_ne (ne_none gl hp0)]; exact gl
  have hlk : lk (up G p0 (.lst [.str "row", .str "pick"])) p0 = some [.str "row", .str "pick"] := lk_up
  generalize up G p0 (.lst [.str "row", .str "pick"]) = G1 at ge1 gl1 hlk
  refine inL_i hlk rfl rfl ?_
  have hl6 := hg.2.1
  obtain ⟨c0, cs', rfl⟩ : ∃ c0 cs', cs = c0 :: cs' := by
    cases cs with
    | nil => exact absurd rfl hg.1
    | cons c0 cs' => exact ⟨c0, cs', rfl⟩
  generalize hcs : c0 :: cs' = cs at gl gl1 hg hl6 q
  have h0 : cs.headD .none = c0 := by rw [← hcs]; rfl
  have h0m : c0 ∈ cs := by rw [← hcs]; simp
  have h00 : (encs cs)[0]? = some (enc c0) := by rw [← hcs]; rfl
  rcases List.mem_cons.mp hv with rfl | hv
  · refine ifT rfl ?_
    with_reducible conv => whnf
    refine len_i (lk_lst gl1) ?_
    rw [encs_length]
    with_reducible conv => whnf
    refine ifB (fun h2 => ?_) (fun h2 => ?_)
    · with_reducible conv => whnf
      refine ⟨G, ge1, ?_⟩
      have h2' : decide (cs.length < 2) = true := decide_eq_true (by have := of_decide_eq_true h2; omega)
      have hb : bnd "row" cs = false := by unfold bnd; rw [h2']; rfl
      rw [hb] at q
      exact q
    with_reducible conv => whnf
    refine eqP_i rfl rfl ?_
    refine ifF rfl ?_
    refine ifF rfl ?_
    have h2' : decide (cs.length < 2) = false := decide_eq_false (by have := of_decide_eq_false h2; omega)
    have hb : bnd "row" cs = (decide (depths cs ≤ 8) && decide (sizes cs ≤ 39)) := by unfold bnd; rw [h2']; rfl
    with_reducible conv => whnf
    rw [lk_lst gl1]
    with_reducible conv => whnf
    intro acc hacc
    refine cGo_encs (fun c => .int (depth c : Nat)) (by omega) (fun ys => lk_lst (by rw [up_ne (ne_none gl1 hacc)]; exact gl1)) (fun x ys R hx r => ?_) ?_
    · have := (hg.2.2 x hx).1
      have := (hg.2.2 x hx).2.1
      exact ⟨x, rfl, by omega, by omega, r⟩
    with_reducible conv => whnf
    refine maxI_i (ns := cs.map fun c => ((depth c : Nat) : Int)) (lk_lst (by rw [up_same, List.map_map]; rfl)) (by rw [List.length_map]; exact List.length_pos_iff.mpr hg.1) fun M hM1 hM2 => ?_
    have hM := max_depths hg.1 hM1 hM2
    subst hM
    with_reducible conv => whnf
    have ge2 : GE G (up G1 acc (.lst (cs.map fun c => .int (depth c : Nat)))) := ge1.new hacc
    have gl2 : up G1 acc (.lst (cs.map fun c => .int (depth c : Nat))) l = some (.lst (encs cs)) := by rw [up_ne (ne_none gl1 hacc)]; exact gl1
    generalize up G1 acc (.lst (cs.map fun c => .int (depth c : Nat))) = G2 at ge2 gl2
    refine ifB (fun h8 => ?_) (fun h8 => ?_)
    · with_reducible conv => whnf
      refine ⟨G, ge2, ?_⟩
      have h8' : decide (depths cs ≤ 8) = false := decide_eq_false (by have := of_decide_eq_true h8; omega)
      rw [hb, h8', Bool.false_and] at q
      exact q
    with_reducible conv => whnf
    rw [lk_lst gl2]
    with_reducible conv => whnf
    intro acc2 hacc2
    refine cGo_encsG (fun c => .int (size c : Nat)) (by omega) hacc2 (fun G ge => lk_lst (ge _ _ gl2)) (fun x G R hx ge r => ?_) (fun G3 ge3 ga3 => ?_)
    · have := (hg.2.2 x hx).2.1
      refine ⟨x, rfl, by omega, fun c hc => ?_⟩
      with_reducible conv => whnf
      refine len_i lk_up ?_
      rw [encs_length, makes_length]
      exact r _ (GE.refl.new hc)
    with_reducible conv => whnf
    refine sumL_i (ns := cs.map fun c => ((size c : Nat) : Int)) (lk_lst (by rw [ga3, List.map_map]; rfl)) ?_
    rw [sum_sizes]
    with_reducible conv => whnf
    refine ⟨G, ge2.trans ge3, ?_⟩
    have h8' : decide (depths cs ≤ 8) = true := decide_eq_true (by have := of_decide_eq_false h8; omega)
    rw [hb, h8', Bool.true_and] at q
    rw [show decide (((sizes cs : Nat) : Int) ≤ 39) = decide (sizes cs ≤ 39) by rw [decide_eq_decide]; omega]
    exact q
  rcases List.mem_cons.mp hv with rfl | hv
  · refine ifT rfl ?_
    with_reducible conv => whnf
    refine len_i (lk_lst gl1) ?_
    rw [encs_length]
    with_reducible conv => whnf
    refine ifB (fun h2 => ?_) (fun h2 => ?_)
    · with_reducible conv => whnf
      refine ⟨G, ge1, ?_⟩
      have h2' : decide (cs.length < 2) = true := decide_eq_true (by have := of_decide_eq_true h2; omega)
      have hb : bnd "pick" cs = false := by unfold bnd; rw [h2']; rfl
      rw [hb] at q
      exact q
    with_reducible conv => whnf
    refine eqP_i rfl rfl ?_
    refine ifF rfl ?_
    refine ifF rfl ?_
    have h2' : decide (cs.length < 2) = false := decide_eq_false (by have := of_decide_eq_false h2; omega)
    have hb : bnd "pick" cs = (decide (depths cs ≤ 8) && decide (sizes cs ≤ 39)) := by unfold bnd; rw [h2']; rfl
    with_reducible conv => whnf
    rw [lk_lst gl1]
    with_reducible conv => whnf
    intro acc hacc
    refine cGo_encs (fun c => .int (depth c : Nat)) (by omega) (fun ys => lk_lst (by rw [up_ne (ne_none gl1 hacc)]; exact gl1)) (fun x ys R hx r => ?_) ?_
    · have := (hg.2.2 x hx).1
      have := (hg.2.2 x hx).2.1
      exact ⟨x, rfl, by omega, by omega, r⟩
    with_reducible conv => whnf
    refine maxI_i (ns := cs.map fun c => ((depth c : Nat) : Int)) (lk_lst (by rw [up_same, List.map_map]; rfl)) (by rw [List.length_map]; exact List.length_pos_iff.mpr hg.1) fun M hM1 hM2 => ?_
    have hM := max_depths hg.1 hM1 hM2
    subst hM
    with_reducible conv => whnf
    have ge2 : GE G (up G1 acc (.lst (cs.map fun c => .int (depth c : Nat)))) := ge1.new hacc
    have gl2 : up G1 acc (.lst (cs.map fun c => .int (depth c : Nat))) l = some (.lst (encs cs)) := by rw [up_ne (ne_none gl1 hacc)]; exact gl1
    generalize up G1 acc (.lst (cs.map fun c => .int (depth c : Nat))) = G2 at ge2 gl2
    refine ifB (fun h8 => ?_) (fun h8 => ?_)
    · with_reducible conv => whnf
      refine ⟨G, ge2, ?_⟩
      have h8' : decide (depths cs ≤ 8) = false := decide_eq_false (by have := of_decide_eq_true h8; omega)
      rw [hb, h8', Bool.false_and] at q
      exact q
    with_reducible conv => whnf
    rw [lk_lst gl2]
    with_reducible conv => whnf
    intro acc2 hacc2
    refine cGo_encsG (fun c => .int (size c : Nat)) (by omega) hacc2 (fun G ge => lk_lst (ge _ _ gl2)) (fun x G R hx ge r => ?_) (fun G3 ge3 ga3 => ?_)
    · have := (hg.2.2 x hx).2.1
      refine ⟨x, rfl, by omega, fun c hc => ?_⟩
      with_reducible conv => whnf
      refine len_i lk_up ?_
      rw [encs_length, makes_length]
      exact r _ (GE.refl.new hc)
    with_reducible conv => whnf
    refine sumL_i (ns := cs.map fun c => ((size c : Nat) : Int)) (lk_lst (by rw [ga3, List.map_map]; rfl)) ?_
    rw [sum_sizes]
    with_reducible conv => whnf
    refine ⟨G, ge2.trans ge3, ?_⟩
    have h8' : decide (depths cs ≤ 8) = true := decide_eq_true (by have := of_decide_eq_false h8; omega)
    rw [hb, h8', Bool.true_and] at q
    rw [show decide (((sizes cs : Nat) : Int) ≤ 39) = decide (sizes cs ≤ 39) by rw [decide_eq_decide]; omega]
    exact q
  rcases List.mem_cons.mp hv with rfl | hv
  · refine ifF rfl ?_
    refine ifF rfl ?_
    with_reducible conv => whnf
    refine eqP_i rfl rfl ?_
    refine ifF rfl ?_
    refine ifF rfl ?_
    have hb : bnd "held" cs = (decide (depths cs ≤ 8) && decide (sizes cs ≤ 39)) := rfl
    with_reducible conv => whnf
    rw [lk_lst gl1]
    with_reducible conv => whnf
    intro acc hacc
    refine cGo_encs (fun c => .int (depth c : Nat)) (by omega) (fun ys => lk_lst (by rw [up_ne (ne_none gl1 hacc)]; exact gl1)) (fun x ys R hx r => ?_) ?_
    · have := (hg.2.2 x hx).1
      have := (hg.2.2 x hx).2.1
      exact ⟨x, rfl, by omega, by omega, r⟩
    with_reducible conv => whnf
    refine maxI_i (ns := cs.map fun c => ((depth c : Nat) : Int)) (lk_lst (by rw [up_same, List.map_map]; rfl)) (by rw [List.length_map]; exact List.length_pos_iff.mpr hg.1) fun M hM1 hM2 => ?_
    have hM := max_depths hg.1 hM1 hM2
    subst hM
    with_reducible conv => whnf
    have ge2 : GE G (up G1 acc (.lst (cs.map fun c => .int (depth c : Nat)))) := ge1.new hacc
    have gl2 : up G1 acc (.lst (cs.map fun c => .int (depth c : Nat))) l = some (.lst (encs cs)) := by rw [up_ne (ne_none gl1 hacc)]; exact gl1
    generalize up G1 acc (.lst (cs.map fun c => .int (depth c : Nat))) = G2 at ge2 gl2
    refine ifB (fun h8 => ?_) (fun h8 => ?_)
    · with_reducible conv => whnf
      refine ⟨G, ge2, ?_⟩
      have h8' : decide (depths cs ≤ 8) = false := decide_eq_false (by have := of_decide_eq_true h8; omega)
      rw [hb, h8', Bool.false_and] at q
      exact q
    with_reducible conv => whnf
    rw [lk_lst gl2]
    with_reducible conv => whnf
    intro acc2 hacc2
    refine cGo_encsG (fun c => .int (size c : Nat)) (by omega) hacc2 (fun G ge => lk_lst (ge _ _ gl2)) (fun x G R hx ge r => ?_) (fun G3 ge3 ga3 => ?_)
    · have := (hg.2.2 x hx).2.1
      refine ⟨x, rfl, by omega, fun c hc => ?_⟩
      with_reducible conv => whnf
      refine len_i lk_up ?_
      rw [encs_length, makes_length]
      exact r _ (GE.refl.new hc)
    with_reducible conv => whnf
    refine sumL_i (ns := cs.map fun c => ((size c : Nat) : Int)) (lk_lst (by rw [ga3, List.map_map]; rfl)) ?_
    rw [sum_sizes]
    with_reducible conv => whnf
    refine ⟨G, ge2.trans ge3, ?_⟩
    have h8' : decide (depths cs ≤ 8) = true := decide_eq_true (by have := of_decide_eq_false h8; omega)
    rw [hb, h8', Bool.true_and] at q
    rw [show decide (((sizes cs : Nat) : Int) ≤ 39) = decide (sizes cs ≤ 39) by rw [decide_eq_decide]; omega]
    exact q
  rcases List.mem_cons.mp hv with rfl | hv
  · refine ifF rfl ?_
    refine ifF rfl ?_
    with_reducible conv => whnf
    refine eqP_i rfl rfl ?_
    refine ifF rfl ?_
    refine ifF rfl ?_
    have hb : bnd "price" cs = (decide (depths cs ≤ 8) && decide (sizes cs ≤ 39)) := rfl
    with_reducible conv => whnf
    rw [lk_lst gl1]
    with_reducible conv => whnf
    intro acc hacc
    refine cGo_encs (fun c => .int (depth c : Nat)) (by omega) (fun ys => lk_lst (by rw [up_ne (ne_none gl1 hacc)]; exact gl1)) (fun x ys R hx r => ?_) ?_
    · have := (hg.2.2 x hx).1
      have := (hg.2.2 x hx).2.1
      exact ⟨x, rfl, by omega, by omega, r⟩
    with_reducible conv => whnf
    refine maxI_i (ns := cs.map fun c => ((depth c : Nat) : Int)) (lk_lst (by rw [up_same, List.map_map]; rfl)) (by rw [List.length_map]; exact List.length_pos_iff.mpr hg.1) fun M hM1 hM2 => ?_
    have hM := max_depths hg.1 hM1 hM2
    subst hM
    with_reducible conv => whnf
    have ge2 : GE G (up G1 acc (.lst (cs.map fun c => .int (depth c : Nat)))) := ge1.new hacc
    have gl2 : up G1 acc (.lst (cs.map fun c => .int (depth c : Nat))) l = some (.lst (encs cs)) := by rw [up_ne (ne_none gl1 hacc)]; exact gl1
    generalize up G1 acc (.lst (cs.map fun c => .int (depth c : Nat))) = G2 at ge2 gl2
    refine ifB (fun h8 => ?_) (fun h8 => ?_)
    · with_reducible conv => whnf
      refine ⟨G, ge2, ?_⟩
      have h8' : decide (depths cs ≤ 8) = false := decide_eq_false (by have := of_decide_eq_true h8; omega)
      rw [hb, h8', Bool.false_and] at q
      exact q
    with_reducible conv => whnf
    rw [lk_lst gl2]
    with_reducible conv => whnf
    intro acc2 hacc2
    refine cGo_encsG (fun c => .int (size c : Nat)) (by omega) hacc2 (fun G ge => lk_lst (ge _ _ gl2)) (fun x G R hx ge r => ?_) (fun G3 ge3 ga3 => ?_)
    · have := (hg.2.2 x hx).2.1
      refine ⟨x, rfl, by omega, fun c hc => ?_⟩
      with_reducible conv => whnf
      refine len_i lk_up ?_
      rw [encs_length, makes_length]
      exact r _ (GE.refl.new hc)
    with_reducible conv => whnf
    refine sumL_i (ns := cs.map fun c => ((size c : Nat) : Int)) (lk_lst (by rw [ga3, List.map_map]; rfl)) ?_
    rw [sum_sizes]
    with_reducible conv => whnf
    refine ⟨G, ge2.trans ge3, ?_⟩
    have h8' : decide (depths cs ≤ 8) = true := decide_eq_true (by have := of_decide_eq_false h8; omega)
    rw [hb, h8', Bool.true_and] at q
    rw [show decide (((sizes cs : Nat) : Int) ≤ 39) = decide (sizes cs ≤ 39) by rw [decide_eq_decide]; omega]
    exact q
  rcases List.mem_cons.mp hv with rfl | hv
  · refine ifF rfl ?_
    refine ifF rfl ?_
    with_reducible conv => whnf
    refine eqP_i rfl rfl ?_
    refine ifT rfl ?_
    with_reducible conv => whnf
    refine ixL_i (lk_lst gl1) (atI_nat (j := 0) h00) ?_
    with_reducible conv => whnf
    refine ⟨c0, rfl, by have := (hg.2.2 c0 h0m).1; omega, by have := (hg.2.2 c0 h0m).2.1; omega, ?_⟩
    with_reducible conv => whnf
    refine ifB (fun h2 => ?_) (fun h2 => ?_)
    · with_reducible conv => whnf
      refine ⟨G, ge1, ?_⟩
      have hb : bnd "again" cs = false := by unfold bnd; rw [h0, h2]; rfl
      rw [hb] at q
      exact q
    have hb : bnd "again" cs = (decide (depths cs ≤ 8) && decide (sizes cs ≤ 39)) := by unfold bnd; rw [h0, h2]; rfl
    with_reducible conv => whnf
    rw [lk_lst gl1]
    with_reducible conv => whnf
    intro acc hacc
    refine cGo_encs (fun c => .int (depth c : Nat)) (by omega) (fun ys => lk_lst (by rw [up_ne (ne_none gl1 hacc)]; exact gl1)) (fun x ys R hx r => ?_) ?_
    · have := (hg.2.2 x hx).1
      have := (hg.2.2 x hx).2.1
      exact ⟨x, rfl, by omega, by omega, r⟩
    with_reducible conv => whnf
    refine maxI_i (ns := cs.map fun c => ((depth c : Nat) : Int)) (lk_lst (by rw [up_same, List.map_map]; rfl)) (by rw [List.length_map]; exact List.length_pos_iff.mpr hg.1) fun M hM1 hM2 => ?_
    have hM := max_depths hg.1 hM1 hM2
    subst hM
    with_reducible conv => whnf
    have ge2 : GE G (up G1 acc (.lst (cs.map fun c => .int (depth c : Nat)))) := ge1.new hacc
    have gl2 : up G1 acc (.lst (cs.map fun c => .int (depth c : Nat))) l = some (.lst (encs cs)) := by rw [up_ne (ne_none gl1 hacc)]; exact gl1
    generalize up G1 acc (.lst (cs.map fun c => .int (depth c : Nat))) = G2 at ge2 gl2
    refine ifB (fun h8 => ?_) (fun h8 => ?_)
    · with_reducible conv => whnf
      refine ⟨G, ge2, ?_⟩
      have h8' : decide (depths cs ≤ 8) = false := decide_eq_false (by have := of_decide_eq_true h8; omega)
      rw [hb, h8', Bool.false_and] at q
      exact q
    with_reducible conv => whnf
    rw [lk_lst gl2]
    with_reducible conv => whnf
    intro acc2 hacc2
    refine cGo_encsG (fun c => .int (size c : Nat)) (by omega) hacc2 (fun G ge => lk_lst (ge _ _ gl2)) (fun x G R hx ge r => ?_) (fun G3 ge3 ga3 => ?_)
    · have := (hg.2.2 x hx).2.1
      refine ⟨x, rfl, by omega, fun c hc => ?_⟩
      with_reducible conv => whnf
      refine len_i lk_up ?_
      rw [encs_length, makes_length]
      exact r _ (GE.refl.new hc)
    with_reducible conv => whnf
    refine sumL_i (ns := cs.map fun c => ((size c : Nat) : Int)) (lk_lst (by rw [ga3, List.map_map]; rfl)) ?_
    rw [sum_sizes]
    with_reducible conv => whnf
    refine ⟨G, ge2.trans ge3, ?_⟩
    have h8' : decide (depths cs ≤ 8) = true := decide_eq_true (by have := of_decide_eq_false h8; omega)
    rw [hb, h8', Bool.true_and] at q
    rw [show decide (((sizes cs : Nat) : Int) ≤ 39) = decide (sizes cs ≤ 39) by rw [decide_eq_decide]; omega]
    exact q
  · cases hv
end
abbrev xRight : Stmt := top 36
/-- a whole put together from parts -/
inductive Wh : Pt → List Pt → Prop
  | row (cs : List Pt) : Wh (.row cs) cs
  | pick (cs : List Pt) : Wh (.pick cs) cs
  | held (c : Pt) : Wh (.held "x" c) [c]
  | price (n : Int) (c : Pt) (h0 : 0 ≤ n) (h1 : n ≤ 1000) : Wh (.price n c) [c]
  | again (c : Pt) : Wh (.again c) [c]
def wd : Pt → Str
  | .none => "none"
  | .blank => "blank"
  | .sign _ => "sign"
  | .row _ => "row"
  | .pick _ => "pick"
  | .again _ => "again"
  | .held _ _ => "held"
  | .price _ _ => "price"
theorem ix_wd {p : Pt} {G : Gp} {Q : K2} (q : Q (.str (wd p)) G) : ix2 (enc p) (.int 0) G Q := by
  cases p <;> exact q
theorem Wh.inner {p : Pt} {cs : List Pt} (h : Wh p cs) : L3.inner p = cs := by cases h <;> rfl
theorem Wh.word {p : Pt} {cs : List Pt} (h : Wh p cs) : wd p ∈ (["row", "pick", "held", "price", "again"] : List Str) := by
  cases h <;> simp [wd]
theorem Gd.okV {p : Pt} (h : Gd p) : L3.okV (enc p) := by
  obtain ⟨_, _, z, hz, hw⟩ := h
  exact wf_okV hz _ p (Nat.le_refl _) hw
theorem Wh.okV {p : Pt} {cs : List Pt} (h : Wh p cs) (hg : ∀ c ∈ cs, Gd c) : L3.okV (enc p) := by
  have hl : okVs (encs cs) := by
    rw [okVs_mem, encs_map]
    intro x hx
    obtain ⟨c, hc, rfl⟩ := List.mem_map.mp hx
    exact (hg c hc).okV
  cases h with
  | row => exact ⟨okV_lit, hl, trivial⟩
  | pick => exact ⟨okV_lit, hl, trivial⟩
  | held c => exact ⟨okV_lit, okV_lit, (hg c (by simp)).okV, trivial⟩
  | price n c => exact ⟨okV_lit, trivial, (hg c (by simp)).okV, trivial⟩
  | again c => exact ⟨okV_lit, (hg c (by simp)).okV, trivial⟩
theorem Wh.sg {p : Pt} {cs : List Pt} (h : Wh p cs) (hg : ∀ c ∈ cs, Gd c) : Sg p ∧ sgM p = [] := by
  have h1 : sgM p = [] := by cases h <;> rfl
  refine ⟨fun c hc => ?_, h1⟩
  rw [makes_inner, h.inner] at hc
  rcases List.mem_cons.mp hc with rfl | hc
  · rw [h1]; exact ⟨by simp, fun x hx => by cases hx⟩
  · obtain ⟨q, hq, hc⟩ := makess_mem.mp hc
    obtain ⟨_, _, z, hz, hw⟩ := hg q hq
    exact wf_sg hz hw c hc
theorem Wh.isP {p : Pt} {cs : List Pt} (h : Wh p cs) (hg : GdL cs) : IsP (enc p) ↔ bnd (wd p) cs = true := by
  rw [isP_enc]
  have h1 := size_inner p
  have h2 := size_depth_inner p
  rw [h.inner] at h1 h2
  have hM : ∀ q ∈ cs, (∀ c ∈ makes q, mkB (enc c) = true) ∧ ∀ c ∈ makes q, agC c = true := fun q hq => by
    obtain ⟨_, _, z, hz, hw⟩ := hg.2.2 q hq
    exact ⟨fun c hc => (wf_mk hz (wf_makes _ q (Nat.le_refl _) hw c hc)).1, fun c hc => (wf_mk hz (wf_makes _ q (Nat.le_refl _) hw c hc)).2⟩
  have hall : okM p ∧ okA p ↔ mkB (enc p) = true ∧ agC p = true := by
    constructor
    · rintro ⟨a, b⟩
      exact ⟨a p (by rw [makes_inner]; simp), b p (by rw [makes_inner]; simp)⟩
    · rintro ⟨a, b⟩
      constructor
      · intro c hc
        rw [makes_inner, h.inner] at hc
        rcases List.mem_cons.mp hc with rfl | hc
        · exact a
        · obtain ⟨q, hq, hc⟩ := makess_mem.mp hc
          exact (hM q hq).1 c hc
      · intro c hc
        rw [makes_inner, h.inner] at hc
        rcases List.mem_cons.mp hc with rfl | hc
        · exact b
        · obtain ⟨q, hq, hc⟩ := makess_mem.mp hc
          exact (hM q hq).2 c hc
  have key : (mkB (enc p) = true ∧ agC p = true) ↔ (!(((wd p == "row" || wd p == "pick") && decide (cs.length < 2)) || (wd p == "again" && canB (cs.headD .none)))) = true := by
    have hl6 := hg.2.1
    cases h with
    | row =>
      have e : mkB (enc (.row cs)) = (decide (2 ≤ (encs cs).length) && decide ((encs cs).length ≤ 6)) := by
        show ((("row" : Str) == "sign" && riseV (.tup (encs cs))) || (("row" : Str) == "row" && partsV (.tup (encs cs))) || (("row" : Str) == "pick" && partsV (.tup (encs cs))) || ("row" : Str) == "again") = _
        rw [show (("row" : Str) == "sign") = false from rfl, show (("row" : Str) == "row") = true from rfl, show (("row" : Str) == "pick") = false from rfl, show (("row" : Str) == "again") = false from rfl]
        simp [partsV]
      rw [e, encs_length]
      have e2 : (!(((wd (.row cs) == "row" || wd (.row cs) == "pick") && decide (cs.length < 2)) || (wd (.row cs) == "again" && canB (cs.headD .none)))) = !decide (cs.length < 2) := by
        rw [show (wd (.row cs) == "row") = true from rfl, show (wd (.row cs) == "again") = false from rfl]; simp
      rw [e2]
      simp [agC]
      omega
    | pick =>
      have e : mkB (enc (.pick cs)) = (decide (2 ≤ (encs cs).length) && decide ((encs cs).length ≤ 6)) := by
        show ((("pick" : Str) == "sign" && riseV (.tup (encs cs))) || (("pick" : Str) == "row" && partsV (.tup (encs cs))) || (("pick" : Str) == "pick" && partsV (.tup (encs cs))) || ("pick" : Str) == "again") = _
        rw [show (("pick" : Str) == "sign") = false from rfl, show (("pick" : Str) == "row") = false from rfl, show (("pick" : Str) == "pick") = true from rfl, show (("pick" : Str) == "again") = false from rfl]
        simp [partsV]
      rw [e, encs_length]
      have e2 : (!(((wd (.pick cs) == "row" || wd (.pick cs) == "pick") && decide (cs.length < 2)) || (wd (.pick cs) == "again" && canB (cs.headD .none)))) = !decide (cs.length < 2) := by
        rw [show (wd (.pick cs) == "row") = false from rfl, show (wd (.pick cs) == "pick") = true from rfl, show (wd (.pick cs) == "again") = false from rfl]; simp
      rw [e2]
      simp [agC]
      omega
    | held c =>
      refine ⟨fun _ => rfl, fun _ => ⟨?_, rfl⟩⟩
      show ((("held" : Str) == "held" && wordB "x") || (("held" : Str) == "price" && priceV (.str "x"))) = true
      decide +kernel
    | price n c h0 h1' =>
      refine ⟨fun _ => rfl, fun _ => ⟨?_, rfl⟩⟩
      show ((("price" : Str) == "held" && wordV (.int n)) || (("price" : Str) == "price" && (decide (0 ≤ n) && decide (n ≤ 1000)))) = true
      rw [decide_eq_true h0, decide_eq_true h1']
      rfl
    | again c =>
      have e : agC (.again c) = !canB c := rfl
      rw [e]
      have e2 : (!(((wd (.again c) == "row" || wd (.again c) == "pick") && decide (([c] : List Pt).length < 2)) || (wd (.again c) == "again" && canB (([c] : List Pt).headD .none)))) = !canB c := by
        rw [show (wd (.again c) == "row") = false from rfl, show (wd (.again c) == "pick") = false from rfl, show (wd (.again c) == "again") = true from rfl]; simp
      rw [e2]
      exact ⟨fun h => h.2, fun h => ⟨rfl, h⟩⟩
  rw [hall, key]
  unfold bnd
  rw [Bool.and_eq_true, Bool.and_eq_true, decide_eq_true_iff, decide_eq_true_iff]
  constructor
  · rintro ⟨a, b, c⟩
    exact ⟨⟨c, by omega⟩, by omega⟩
  · rintro ⟨⟨c, a⟩, b⟩
    exact ⟨by omega, by omega, c⟩
theorem str_app (x y : Str) : (x ++ y).cps.toList = x.cps.toList ++ y.cps.toList := by
  show (x.cps ++ y.cps).toList = _
  simp
theorem str_len (x : Str) : x.cps.toList.length = x.length := by simp [Str.length]
theorem pureMakes {p : Pt} (h : depth p ≤ 20) : pureL 100 (encs (makes p)) = true := by
  refine encs_pure _ _ ?_
  have : ∀ l : List Pt, (∀ c ∈ l, depth c ≤ 20) → depths l ≤ 20 := by
    intro l
    induction l with
    | nil => intro _; simp [depths]
    | cons c l ih => intro h; simp only [depths]; exact Nat.max_le.mpr ⟨h c (by simp), ih fun d hd => h d (by simp [hd])⟩
  have := this (makes p) (fun c hc => Nat.le_trans (depth_makes' hc).1 h)
  omega
theorem pureParts (p : Pt) : pureL 100 (partsP p) = true := by
  unfold partsP
  generalize List.range (size p) = rs
  induction rs with
  | nil => rfl
  | cons r rs ih => rw [List.map_cons]; unfold pureL; rw [ih, Bool.and_true]; exact pure_ints _ _
/-- blank and texts of a whole -/
def due (w : Str) (bs : List Bool) : Bool := if w = "row" then bs.all id else if w = "again" then true else bs.any id
theorem Wh.blank {p : Pt} {cs : List Pt} (h : Wh p cs) : canB p = due (wd p) (cs.map canB) ∧ hasT p = due (wd p) (cs.map hasT) := by
  cases h with
  | row => exact ⟨(allB_map cs).symm, (allT_map cs).symm⟩
  | pick => exact ⟨(anyB_map cs).symm, (anyT_map cs).symm⟩
  | held c => exact ⟨by show canB c = (canB c || false); simp, by show hasT c = (hasT c || false); simp⟩
  | price n c => exact ⟨by show canB c = (canB c || false); simp, by show hasT c = (hasT c || false); simp⟩
  | again c => exact ⟨rfl, rfl⟩
theorem sgsOf_app (a b : List Pt) : sgsOf (a ++ b) = sgsOf a ++ sgsOf b := by unfold sgsOf; rw [List.map_append, List.flatten_append]
section
variable {P : Program} {w : World} {K : PySem.W.Frag} {mg : Str → Option Value} {base : Heap} {f fi fa fm fb fh fq fs fj fo : Addr} {fd di da dm db dh dq ds dj do' : FuncData}
theorem scRight : FnScope ["whole", "parts", "word", "good", "found", "blanks_let", "some", "due", "makes", "signs", "part"] ["whole", "parts"] (defScope xRight) := ⟨rfl, rfl, rfl, by decide +kernel, rfl, by decide +kernel, by decide +kernel⟩
theorem csRight1 : compOkB (defScope xRight) ["whole", "parts", "word", "good", "found", "blanks_let", "some", "due", "makes", "signs", "part"] (cscope [(".0", .local), ("part", .local), ("can_be_blank", .globalImplicit)]) ["part"] [none] 0 "part" = true := by decide +kernel
theorem csRight2 : compOkB (defScope xRight) ["whole", "parts", "word", "good", "found", "blanks_let", "some", "due", "makes", "signs", "part"] (cscope [(".0", .local), ("part", .local), ("has_texts", .globalImplicit)]) ["part"] [none] 0 "part" = true := by decide +kernel
theorem csRight3 : compOkB (defScope xRight) ["whole", "parts", "word", "good", "found", "blanks_let", "some", "due", "makes", "signs", "part"] (cscope [(".0", .local), ("part", .local), ("depth_of", .globalImplicit)]) ["part"] [none] 0 "part" = true := by decide +kernel
def spRight : Sp2 := fun ps G Q => ∃ (p : Pt) (l : Addr) (cs : List Pt), ps = [enc p, .ref l] ∧ G l = some (.lst (encs cs)) ∧ GdL cs ∧ Wh p cs ∧ Q (.bl true) G
set_option maxHeartbeats 16000000 in
theorem ok_right {k : Nat} (hk : 23 ≤ k) (F : Fun K "_law_right" "_law_right" xRight f fd) (B : BN mg) (CO : Cal2 P w K mg base 23 "_law_bounded" fo do' ["word", "parts"] spBounded) (CI : Cal2 P w K mg base 23 "is_pattern" fi di ["thing"] spIsP) (CB : Cal2 P w K mg base 22 "can_be_blank" fb db ["pattern"] (spBlank 21)) (CH : Cal2 P w K mg base 22 "has_texts" fh dh ["pattern"] (spHas 21)) (CM : Cal2 P w K mg base 2 "makes_of" fm dm ["pattern"] spMakes) (CQ : Cal2 P w K mg base 3 "parts_of" fq dq ["pattern"] spPartsOf) (CJ : Cal2 P w K mg base 4 "_law_joined" fj dj ["parts"] spJoined) (CD : Cal2 P w K mg base 22 "depth_of" fa da ["pattern"] (spDepth 21)) (CS : Cal2 P w K mg base 3 "signs_of" fs ds ["pattern"] spSignsOf) : Ok2 P w K mg base (k + 1) f fd ["whole", "parts"] spRight := by
  have nd := scRight.nd
  refine fn2 F scRight (fun vs G Q h => ?_) (fun cdv A outer s H E as G Q hr h => ?_)
  · obtain ⟨_, _, _, rfl, _⟩ := h
    rfl
  have hU := u200 hr
  apply ex2
  case a =>
    get_elem_tactic_extensible
    all_goals try (refine' js_comp (n := 5) (ix := [none]) (j := 0) nd rfl rfl csRight1 rfl ?_ (fun C s H fp => ⟨?_, ?_⟩))
    all_goals try (refine' js_comp (n := 6) (ix := [none]) (j := 0) nd rfl rfl csRight2 rfl ?_ (fun C s H fp => ⟨?_, ?_⟩))
    all_goals try (refine' j_comp csRight3 rfl ?_ fun _ _ _ _ => ⟨?_, ?_⟩)
    all_goals get_elem_tactic_extensible
  obtain ⟨p, l, cs, rfl, gl, hg, hW, q⟩ := h
  with_reducible conv => whnf
  refine ix_wd ?_
  with_reducible conv => whnf
  refine ⟨_, l, cs, rfl, gl, hg, hW.word, ?_⟩
  with_reducible conv => whnf
  refine ⟨_, rfl, hW.okV hg.2.2, fun b hb => ?_⟩
  with_reducible conv => whnf
  refine neP_i rfl rfl ?_
  have hbe : b = bnd (wd p) cs := by rw [Bool.eq_iff_iff, hb, hW.isP hg]
  subst hbe
  refine ifF ?_ ?_
  · show (!(_ == _)) = false
    simp
  with_reducible conv => whnf
  have hsz := hg.sizes
  have hdz := hg.depths
  have hps := size_inner p
  have hpd := size_depth_inner p
  rw [hW.inner] at hps hpd
  have hl6 := hg.2.1
  refine ifB (fun h1 => ?_) (fun h1 => ?_)
  · with_reducible conv => whnf
    exact ⟨G, GE.refl, q⟩
  with_reducible conv => whnf
  rw [lk_lst gl]
  with_reducible conv => whnf
  intro a1 ha1
  refine cGo_encs (fun c => .bl (canB c)) (by omega) (fun ys => lk_lst (by rw [up_ne (ne_none gl ha1)]; exact gl)) (fun x ys R hx r => ?_) ?_
  · have := (hg.2.2 x hx).1
    have := (hg.2.2 x hx).2.1
    exact ⟨x, rfl, by omega, by omega, r⟩
  have ge1 : GE G (up G a1 (.lst (cs.map fun c => .bl (canB c)))) := GE.refl.new ha1
  have g1 : up G a1 (.lst (cs.map fun c => .bl (canB c))) a1 = some (.lst ((cs.map canB).map PV.bl)) := by rw [up_same, List.map_map]; rfl
  generalize up G a1 (.lst (cs.map fun c => .bl (canB c))) = G1 at ge1 g1
  with_reducible conv => whnf
  rw [lk_lst (ge1 l _ gl)]
  with_reducible conv => whnf
  intro a2 ha2
  refine cGo_encs (fun c => .bl (hasT c)) (by omega) (fun ys => lk_lst (by rw [up_ne (ne_none (ge1 l _ gl) ha2)]; exact ge1 l _ gl)) (fun x ys R hx r => ?_) ?_
  · have := (hg.2.2 x hx).1
    have := (hg.2.2 x hx).2.1
    exact ⟨x, rfl, by omega, by omega, r⟩
  have ge2 : GE G (up G1 a2 (.lst (cs.map fun c => .bl (hasT c)))) := ge1.new ha2
  have g21 : up G1 a2 (.lst (cs.map fun c => .bl (hasT c))) a1 = some (.lst ((cs.map canB).map PV.bl)) := by rw [up_ne (ne_none g1 ha2)]; exact g1
  have g22 : up G1 a2 (.lst (cs.map fun c => .bl (hasT c))) a2 = some (.lst ((cs.map hasT).map PV.bl)) := by rw [up_same, List.map_map]; rfl
  generalize up G1 a2 (.lst (cs.map fun c => .bl (hasT c))) = G2 at ge2 g21 g22
  with_reducible conv => whnf
  refine anyL_i (lk_lst g21) ?_
  with_reducible conv => whnf
  refine anyL_i (lk_lst g22) ?_
  with_reducible conv => whnf
  refine ⟨lek, fun d1 hd1 => ?_⟩
  have ge3 : GE G (up G2 d1 (.lst [.bl ((cs.map canB).any id), .bl ((cs.map hasT).any id)])) := ge2.new hd1
  have g31 : up G2 d1 (.lst [.bl ((cs.map canB).any id), .bl ((cs.map hasT).any id)]) a1 = some (.lst ((cs.map canB).map PV.bl)) := by rw [up_ne (ne_none g21 hd1)]; exact g21
  have g32 : up G2 d1 (.lst [.bl ((cs.map canB).any id), .bl ((cs.map hasT).any id)]) a2 = some (.lst ((cs.map hasT).map PV.bl)) := by rw [up_ne (ne_none g22 hd1)]; exact g22
  have gd3 : up G2 d1 (.lst [.bl ((cs.map canB).any id), .bl ((cs.map hasT).any id)]) d1 = some (.lst [.bl ((cs.map canB).any id), .bl ((cs.map hasT).any id)]) := up_same
  generalize up G2 d1 (.lst [.bl ((cs.map canB).any id), .bl ((cs.map hasT).any id)]) = G3 at ge3 g31 g32 gd3
  with_reducible conv => whnf
  have hv := hW.word
  have hpt : depth p = depths cs + 1 ∧ size p = 1 + sizes cs := ⟨by omega, by omega⟩
  have h89 : depths cs ≤ 8 ∧ sizes cs ≤ 39 := by
    have h1' : bnd (wd p) cs = true := by simpa using h1
    unfold bnd at h1'
    rw [Bool.and_eq_true, Bool.and_eq_true, decide_eq_true_iff, decide_eq_true_iff] at h1'
    exact ⟨h1'.1.2, h1'.2⟩
  clear hb h1
  generalize hwd : wd p = v at hv
  rcases List.mem_cons.mp hv with rfl | hv
  · refine eqP_i rfl rfl ?_
    refine ifT rfl ?_
    with_reducible conv => whnf
    refine allL_i (lk_lst g31) ?_
    with_reducible conv => whnf
    refine allL_i (lk_lst g32) ?_
    with_reducible conv => whnf
    refine ⟨lek, fun dd hdd => ?_⟩
    with_reducible conv => whnf
    refine eqP_i rfl rfl ?_
    refine ifF rfl ?_
    have ge5 : GE G (up G3 dd (.lst [.bl ((cs.map canB).all id), .bl ((cs.map hasT).all id)])) := ge3.new hdd
    have gd4 : up G3 dd (.lst [.bl ((cs.map canB).all id), .bl ((cs.map hasT).all id)]) dd = some (.lst [.bl (due "row" (cs.map canB)), .bl (due "row" (cs.map hasT))]) := up_same
    generalize up G3 dd (.lst [.bl ((cs.map canB).all id), .bl ((cs.map hasT).all id)]) = G5 at ge5 gd4
    have gd5 : G5 dd = some (.lst [.bl (canB p), .bl (hasT p)]) := by rw [hW.blank.1, hW.blank.2, hwd]; exact gd4
    with_reducible conv => whnf
    refine ⟨p, rfl, by omega, by omega, ?_⟩
    with_reducible conv => whnf
    refine ⟨p, rfl, by omega, by omega, ?_⟩
    with_reducible conv => whnf
    refine ⟨lek, fun e5 he5 => ?_⟩
    with_reducible conv => whnf
    refine neL_i (xs := [.bl (canB p), .bl (hasT p)]) (ys := [.bl (canB p), .bl (hasT p)]) lk_up (lk_lst (by rw [up_ne (ne_none gd5 he5)]; exact gd5)) rfl rfl ?_
    refine ifF (by rw [deqs_refl 100 _ rfl]; rfl) ?_
    with_reducible conv => whnf
    refine ⟨lek, fun mk hmk => ?_⟩
    have hmkG : G mk = none := by
      cases e : G mk with
      | none => rfl
      | some o => have := (ge5.new (o := .lst [.bl (canB p), .bl (hasT p)]) he5) mk o e; rw [hmk] at this; cases this
    have ge6 : GE G (up (up G5 e5 (.lst [.bl (canB p), .bl (hasT p)])) mk (.lst [enc p])) := (ge5.new he5).new hmk
    have gl6 : up (up G5 e5 (.lst [.bl (canB p), .bl (hasT p)])) mk (.lst [enc p]) l = some (.lst (encs cs)) := ge6 l _ gl
    have gm6 : up (up G5 e5 (.lst [.bl (canB p), .bl (hasT p)])) mk (.lst [enc p]) mk = some (.lst [enc p]) := up_same
    generalize up (up G5 e5 (.lst [.bl (canB p), .bl (hasT p)])) mk (.lst [enc p]) = G6 at ge6 gl6 gm6
    with_reducible conv => whnf
    rw [lk_lst gl6]
    with_reducible conv => whnf
    have nlm : l ≠ mk := ne_none gl hmkG
    refine ⟨fun i τ G1 => ∃ (t : Str) (t2 t3 t4 t5 t6 t7 t10 : Option PV), τ = [some (enc p), some (.ref l), t2, t3, t4, t5, t6, t7, some (.ref mk), some (.str t), t10] ∧ GE G G1 ∧ G1 mk = some (.lst (encs (p :: makess (cs.take i)))) ∧ t.length ≤ 64 * i ∧ ∀ x, x ∈ t.cps.toList ↔ x ∈ sgsOf (makess (cs.take i)),
      ⟨_, _, _, _, _, _, _, _, rfl, ge6, gm6, Nat.le_refl 0, fun x => by rw [show (Str.ofString "").cps.toList = [] from rfl]; simp [makess, sgsOf]⟩, ?_, ?_, ?_⟩
    · rintro i τ G1 _ ⟨t, t2, t3, t4, t5, t6, t7, t10, rfl, ge, _⟩
      exact lk_lst (ge l _ gl)
    · rintro i x τ G1 hx ⟨t, t2, t3, t4, t5, t6, t7, t10, rfl, ge, gm, ht, hm⟩
      obtain ⟨c, hc, rfl⟩ := encs_at' hx
      have tk : cs.take (i + 1) = cs.take i ++ [c] := by rw [List.take_add_one, hc]; rfl
      have hcm := List.mem_of_getElem? hc
      have hi : i < cs.length := (List.getElem?_eq_some_iff.mp hc).1
      have hc9 := hg.2.2 c hcm
      have hcs : Sg c := by obtain ⟨_, _, z, hz, hw⟩ := hc9; exact wf_sg hz hw
      have hsz : sizes (cs.take i) + sizes (cs.drop i) = sizes cs := by rw [← sizes_append, List.take_append_drop]
      with_reducible conv => whnf
      refine ⟨⟨_, gm⟩, ?_⟩
      with_reducible conv => whnf
      refine ⟨c, rfl, by have := hc9.2.1; omega, fun r hr' => ?_⟩
      with_reducible conv => whnf
      refine extL_i (xs := encs (p :: makess (cs.take i))) (by rw [up_ne (ne_none gm hr')]; exact gm) up_same ?_ ?_
      · rw [encs_length, encs_length, List.length_cons, makess_length, makes_length]
        have := hc9.2.1
        omega
      with_reducible conv => whnf
      refine ⟨c, rfl, hcs, by have := hc9.2.1; omega, fun ss hss hmem => ?_⟩
      with_reducible conv => whnf
      have hsl : (Txt.join (Str.ofString "") (ss.map oneS)).length = ss.length := by rw [← str_len, join_chars]
      have hLB := LB_len
      have hssl : ss.length ≤ LB.length := nodup_sub_len (hss.imp (fun h => Nat.ne_of_lt h)) fun x hx => sgs_in hcs x ((hmem x).mp hx)
      refine ⟨by rw [hsl]; omega, ?_⟩
      with_reducible conv => whnf
      refine ⟨_, _, _, _, _, _, _, _, rfl, (ge.new hr').mod hmkG, ?_, ?_, fun x => ?_⟩
      · rw [up_same, ← encs_append, tk, makess_append]
        simp [makess]
      · have : (t ++ Txt.join (Str.ofString "") (ss.map oneS)).length = t.length + ss.length := by rw [← str_len, str_app, List.length_append, join_chars, str_len]
        rw [this]
        omega
      · rw [str_app, join_chars, List.mem_append, hm x, hmem x, tk, makess_append, sgsOf_app, List.mem_append, show makess [c] = makes c by simp [makess]]
    rintro τ G1 ⟨t, t2, t3, t4, t5, t6, t7, t10, rfl, ge, gm, ht, hm⟩
    rw [encs_length] at ht
    rw [encs_length, List.take_length] at gm hm
    have hmp : makes p = p :: makess cs := by rw [makes_inner, hW.inner]
    rw [← hmp] at gm
    have hsp : Sg p := (hW.sg hg.2.2).1
    have hm' : ∀ x, x ∈ t.cps.toList ↔ x ∈ sgsOf (makes p) := fun x => by
      rw [hm x, hmp]
      show _ ↔ x ∈ sgsOf ([p] ++ makess cs)
      rw [sgsOf_app, show sgsOf [p] = sgM p by simp [sgsOf], (hW.sg hg.2.2).2, List.nil_append]
    with_reducible conv => whnf
    refine ⟨p, rfl, by omega, fun m2 hm2 => ?_⟩
    with_reducible conv => whnf
    refine neL_i (xs := encs (makes p)) (ys := encs (makes p)) lk_up (lk_lst (by rw [up_ne (ne_none gm hm2)]; exact gm)) (pureMakes (by omega)) (pureMakes (by omega)) ?_
    refine ifF (by rw [deqs_refl 100 _ (pureMakes (by omega))]; rfl) ?_
    with_reducible conv => whnf
    refine ⟨p, rfl, by omega, fun pa hpa => ?_⟩
    with_reducible conv => whnf
    have ge7 : GE G (up (up G1 m2 (.lst (encs (makes p)))) pa (.lst (partsP p))) := (ge.new hm2).new hpa
    refine ⟨l, cs, p, rfl, ge7 l _ gl, hW.inner, by omega, fun jo hjo => ?_⟩
    with_reducible conv => whnf
    refine neL_i (xs := partsP p) (ys := partsP p) (lk_lst (by rw [up_ne (Ne.symm (up_none hjo).1), up_same])) lk_up (pureParts p) (pureParts p) ?_
    refine ifF (by rw [deqs_refl 100 _ (pureParts p)]; rfl) ?_
    have ge8 := ge7.new (o := .lst (partsP p)) hjo
    generalize up (up (up G1 m2 (.lst (encs (makes p)))) pa (.lst (partsP p))) jo (.lst (partsP p)) = G8 at ge8
    with_reducible conv => whnf
    refine ⟨p, rfl, by omega, by omega, ?_⟩
    with_reducible conv => whnf
    rw [lk_lst (ge8 l _ gl)]
    with_reducible conv => whnf
    intro acc hacc
    refine cGo_encs (fun c => .int (depth c : Nat)) (by omega) (fun ys => lk_lst (by rw [up_ne (ne_none (ge8 l _ gl) hacc)]; exact ge8 l _ gl)) (fun x ys R hx r => ?_) ?_
    · have := (hg.2.2 x hx).1
      have := (hg.2.2 x hx).2.1
      exact ⟨x, rfl, by omega, by omega, r⟩
    with_reducible conv => whnf
    refine maxI_i (ns := cs.map fun c => ((depth c : Nat) : Int)) (lk_lst (by rw [up_same, List.map_map]; rfl)) (by rw [List.length_map]; exact List.length_pos_iff.mpr hg.1) fun M hM1 hM2 => ?_
    have hM := max_depths hg.1 hM1 hM2
    subst hM
    with_reducible conv => whnf
    refine addI_i ?_
    with_reducible conv => whnf
    refine neP_i rfl rfl ?_
    refine ifF ?_ ?_
    · have : ((depth p : Nat) : Int) = 1 + ((depths cs : Nat) : Int) := by omega
      rw [this]
      show (!(_ == _)) = false
      simp
    with_reducible conv => whnf
    refine ⟨p, rfl, hsp, by omega, fun ss hss hmem => ?_⟩
    with_reducible conv => whnf
    have hLB := LB_len
    refine ⟨by omega, ⟨LB, LB_len, fun c hc => sgs_in hsp c ((hm' c).mp hc)⟩, fun ss' c' hss' hmem' hc' => ?_⟩
    have hee : ss' = ss := rising_eq hss' hss fun x => by rw [hmem' x, hm', hmem]
    subst hee
    with_reducible conv => whnf
    have hssl : ss'.length ≤ LB.length := nodup_sub_len (hss.imp (fun h => Nat.ne_of_lt h)) fun x hx => sgs_in hsp x ((hmem x).mp hx)
    refine joinL_i (zs := ss'.map oneS) (lk_lst (by rw [up_same, List.map_map]; rfl)) ?_ ?_
    · have e : (Str.ofString "").length = 0 := rfl
      rw [sum_ones, e, Nat.mul_zero]
      omega
    with_reducible conv => whnf
    refine eqP_i rfl rfl ?_
    refine ⟨G, (ge8.new hacc).new hc', ?_⟩
    rw [deq_refl 100 _ rfl]
    exact q
  rcases List.mem_cons.mp hv with rfl | hv
  · refine eqP_i rfl rfl ?_
    refine ifF rfl ?_
    with_reducible conv => whnf
    refine eqP_i rfl rfl ?_
    refine ifF rfl ?_
    have ge5 := ge3
    have gd4 : G3 d1 = some (.lst [.bl (due "pick" (cs.map canB)), .bl (due "pick" (cs.map hasT))]) := gd3
    generalize G3 = G5 at ge5 gd4
    generalize d1 = dd at gd4
    have gd5 : G5 dd = some (.lst [.bl (canB p), .bl (hasT p)]) := by rw [hW.blank.1, hW.blank.2, hwd]; exact gd4
    with_reducible conv => whnf
    refine ⟨p, rfl, by omega, by omega, ?_⟩
    with_reducible conv => whnf
    refine ⟨p, rfl, by omega, by omega, ?_⟩
    with_reducible conv => whnf
    refine ⟨lek, fun e5 he5 => ?_⟩
    with_reducible conv => whnf
    refine neL_i (xs := [.bl (canB p), .bl (hasT p)]) (ys := [.bl (canB p), .bl (hasT p)]) lk_up (lk_lst (by rw [up_ne (ne_none gd5 he5)]; exact gd5)) rfl rfl ?_
    refine ifF (by rw [deqs_refl 100 _ rfl]; rfl) ?_
    with_reducible conv => whnf
    refine ⟨lek, fun mk hmk => ?_⟩
    have hmkG : G mk = none := by
      cases e : G mk with
      | none => rfl
      | some o => have := (ge5.new (o := .lst [.bl (canB p), .bl (hasT p)]) he5) mk o e; rw [hmk] at this; cases this
    have ge6 : GE G (up (up G5 e5 (.lst [.bl (canB p), .bl (hasT p)])) mk (.lst [enc p])) := (ge5.new he5).new hmk
    have gl6 : up (up G5 e5 (.lst [.bl (canB p), .bl (hasT p)])) mk (.lst [enc p]) l = some (.lst (encs cs)) := ge6 l _ gl
    have gm6 : up (up G5 e5 (.lst [.bl (canB p), .bl (hasT p)])) mk (.lst [enc p]) mk = some (.lst [enc p]) := up_same
    generalize up (up G5 e5 (.lst [.bl (canB p), .bl (hasT p)])) mk (.lst [enc p]) = G6 at ge6 gl6 gm6
    with_reducible conv => whnf
    rw [lk_lst gl6]
    with_reducible conv => whnf
    have nlm : l ≠ mk := ne_none gl hmkG
    refine ⟨fun i τ G1 => ∃ (t : Str) (t2 t3 t4 t5 t6 t7 t10 : Option PV), τ = [some (enc p), some (.ref l), t2, t3, t4, t5, t6, t7, some (.ref mk), some (.str t), t10] ∧ GE G G1 ∧ G1 mk = some (.lst (encs (p :: makess (cs.take i)))) ∧ t.length ≤ 64 * i ∧ ∀ x, x ∈ t.cps.toList ↔ x ∈ sgsOf (makess (cs.take i)),
      ⟨_, _, _, _, _, _, _, _, rfl, ge6, gm6, Nat.le_refl 0, fun x => by rw [show (Str.ofString "").cps.toList = [] from rfl]; simp [makess, sgsOf]⟩, ?_, ?_, ?_⟩
    · rintro i τ G1 _ ⟨t, t2, t3, t4, t5, t6, t7, t10, rfl, ge, _⟩
      exact lk_lst (ge l _ gl)
    · rintro i x τ G1 hx ⟨t, t2, t3, t4, t5, t6, t7, t10, rfl, ge, gm, ht, hm⟩
      obtain ⟨c, hc, rfl⟩ := encs_at' hx
      have tk : cs.take (i + 1) = cs.take i ++ [c] := by rw [List.take_add_one, hc]; rfl
      have hcm := List.mem_of_getElem? hc
      have hi : i < cs.length := (List.getElem?_eq_some_iff.mp hc).1
      have hc9 := hg.2.2 c hcm
      have hcs : Sg c := by obtain ⟨_, _, z, hz, hw⟩ := hc9; exact wf_sg hz hw
      have hsz : sizes (cs.take i) + sizes (cs.drop i) = sizes cs := by rw [← sizes_append, List.take_append_drop]
      with_reducible conv => whnf
      refine ⟨⟨_, gm⟩, ?_⟩
      with_reducible conv => whnf
      refine ⟨c, rfl, by have := hc9.2.1; omega, fun r hr' => ?_⟩
      with_reducible conv => whnf
      refine extL_i (xs := encs (p :: makess (cs.take i))) (by rw [up_ne (ne_none gm hr')]; exact gm) up_same ?_ ?_
      · rw [encs_length, encs_length, List.length_cons, makess_length, makes_length]
        have := hc9.2.1
        omega
      with_reducible conv => whnf
      refine ⟨c, rfl, hcs, by have := hc9.2.1; omega, fun ss hss hmem => ?_⟩
      with_reducible conv => whnf
      have hsl : (Txt.join (Str.ofString "") (ss.map oneS)).length = ss.length := by rw [← str_len, join_chars]
      have hLB := LB_len
      have hssl : ss.length ≤ LB.length := nodup_sub_len (hss.imp (fun h => Nat.ne_of_lt h)) fun x hx => sgs_in hcs x ((hmem x).mp hx)
      refine ⟨by rw [hsl]; omega, ?_⟩
      with_reducible conv => whnf
      refine ⟨_, _, _, _, _, _, _, _, rfl, (ge.new hr').mod hmkG, ?_, ?_, fun x => ?_⟩
      · rw [up_same, ← encs_append, tk, makess_append]
        simp [makess]
      · have : (t ++ Txt.join (Str.ofString "") (ss.map oneS)).length = t.length + ss.length := by rw [← str_len, str_app, List.length_append, join_chars, str_len]
        rw [this]
        omega
      · rw [str_app, join_chars, List.mem_append, hm x, hmem x, tk, makess_append, sgsOf_app, List.mem_append, show makess [c] = makes c by simp [makess]]
    rintro τ G1 ⟨t, t2, t3, t4, t5, t6, t7, t10, rfl, ge, gm, ht, hm⟩
    rw [encs_length] at ht
    rw [encs_length, List.take_length] at gm hm
    have hmp : makes p = p :: makess cs := by rw [makes_inner, hW.inner]
    rw [← hmp] at gm
    have hsp : Sg p := (hW.sg hg.2.2).1
    have hm' : ∀ x, x ∈ t.cps.toList ↔ x ∈ sgsOf (makes p) := fun x => by
      rw [hm x, hmp]
      show _ ↔ x ∈ sgsOf ([p] ++ makess cs)
      rw [sgsOf_app, show sgsOf [p] = sgM p by simp [sgsOf], (hW.sg hg.2.2).2, List.nil_append]
    with_reducible conv => whnf
    refine ⟨p, rfl, by omega, fun m2 hm2 => ?_⟩
    with_reducible conv => whnf
    refine neL_i (xs := encs (makes p)) (ys := encs (makes p)) lk_up (lk_lst (by rw [up_ne (ne_none gm hm2)]; exact gm)) (pureMakes (by omega)) (pureMakes (by omega)) ?_
    refine ifF (by rw [deqs_refl 100 _ (pureMakes (by omega))]; rfl) ?_
    with_reducible conv => whnf
    refine ⟨p, rfl, by omega, fun pa hpa => ?_⟩
    with_reducible conv => whnf
    have ge7 : GE G (up (up G1 m2 (.lst (encs (makes p)))) pa (.lst (partsP p))) := (ge.new hm2).new hpa
    refine ⟨l, cs, p, rfl, ge7 l _ gl, hW.inner, by omega, fun jo hjo => ?_⟩
    with_reducible conv => whnf
    refine neL_i (xs := partsP p) (ys := partsP p) (lk_lst (by rw [up_ne (Ne.symm (up_none hjo).1), up_same])) lk_up (pureParts p) (pureParts p) ?_
    refine ifF (by rw [deqs_refl 100 _ (pureParts p)]; rfl) ?_
    have ge8 := ge7.new (o := .lst (partsP p)) hjo
    generalize up (up (up G1 m2 (.lst (encs (makes p)))) pa (.lst (partsP p))) jo (.lst (partsP p)) = G8 at ge8
    with_reducible conv => whnf
    refine ⟨p, rfl, by omega, by omega, ?_⟩
    with_reducible conv => whnf
    rw [lk_lst (ge8 l _ gl)]
    with_reducible conv => whnf
    intro acc hacc
    refine cGo_encs (fun c => .int (depth c : Nat)) (by omega) (fun ys => lk_lst (by rw [up_ne (ne_none (ge8 l _ gl) hacc)]; exact ge8 l _ gl)) (fun x ys R hx r => ?_) ?_
    · have := (hg.2.2 x hx).1
      have := (hg.2.2 x hx).2.1
      exact ⟨x, rfl, by omega, by omega, r⟩
    with_reducible conv => whnf
    refine maxI_i (ns := cs.map fun c => ((depth c : Nat) : Int)) (lk_lst (by rw [up_same, List.map_map]; rfl)) (by rw [List.length_map]; exact List.length_pos_iff.mpr hg.1) fun M hM1 hM2 => ?_
    have hM := max_depths hg.1 hM1 hM2
    subst hM
    with_reducible conv => whnf
    refine addI_i ?_
    with_reducible conv => whnf
    refine neP_i rfl rfl ?_
    refine ifF ?_ ?_
    · have : ((depth p : Nat) : Int) = 1 + ((depths cs : Nat) : Int) := by omega
      rw [this]
      show (!(_ == _)) = false
      simp
    with_reducible conv => whnf
    refine ⟨p, rfl, hsp, by omega, fun ss hss hmem => ?_⟩
    with_reducible conv => whnf
    have hLB := LB_len
    refine ⟨by omega, ⟨LB, LB_len, fun c hc => sgs_in hsp c ((hm' c).mp hc)⟩, fun ss' c' hss' hmem' hc' => ?_⟩
    have hee : ss' = ss := rising_eq hss' hss fun x => by rw [hmem' x, hm', hmem]
    subst hee
    with_reducible conv => whnf
    have hssl : ss'.length ≤ LB.length := nodup_sub_len (hss.imp (fun h => Nat.ne_of_lt h)) fun x hx => sgs_in hsp x ((hmem x).mp hx)
    refine joinL_i (zs := ss'.map oneS) (lk_lst (by rw [up_same, List.map_map]; rfl)) ?_ ?_
    · have e : (Str.ofString "").length = 0 := rfl
      rw [sum_ones, e, Nat.mul_zero]
      omega
    with_reducible conv => whnf
    refine eqP_i rfl rfl ?_
    refine ⟨G, (ge8.new hacc).new hc', ?_⟩
    rw [deq_refl 100 _ rfl]
    exact q
  rcases List.mem_cons.mp hv with rfl | hv
  · refine eqP_i rfl rfl ?_
    refine ifF rfl ?_
    with_reducible conv => whnf
    refine eqP_i rfl rfl ?_
    refine ifF rfl ?_
    have ge5 := ge3
    have gd4 : G3 d1 = some (.lst [.bl (due "held" (cs.map canB)), .bl (due "held" (cs.map hasT))]) := gd3
    generalize G3 = G5 at ge5 gd4
    generalize d1 = dd at gd4
    have gd5 : G5 dd = some (.lst [.bl (canB p), .bl (hasT p)]) := by rw [hW.blank.1, hW.blank.2, hwd]; exact gd4
    with_reducible conv => whnf
    refine ⟨p, rfl, by omega, by omega, ?_⟩
    with_reducible conv => whnf
    refine ⟨p, rfl, by omega, by omega, ?_⟩
    with_reducible conv => whnf
    refine ⟨lek, fun e5 he5 => ?_⟩
    with_reducible conv => whnf
    refine neL_i (xs := [.bl (canB p), .bl (hasT p)]) (ys := [.bl (canB p), .bl (hasT p)]) lk_up (lk_lst (by rw [up_ne (ne_none gd5 he5)]; exact gd5)) rfl rfl ?_
    refine ifF (by rw [deqs_refl 100 _ rfl]; rfl) ?_
    with_reducible conv => whnf
    refine ⟨lek, fun mk hmk => ?_⟩
    have hmkG : G mk = none := by
      cases e : G mk with
      | none => rfl
      | some o => have := (ge5.new (o := .lst [.bl (canB p), .bl (hasT p)]) he5) mk o e; rw [hmk] at this; cases this
    have ge6 : GE G (up (up G5 e5 (.lst [.bl (canB p), .bl (hasT p)])) mk (.lst [enc p])) := (ge5.new he5).new hmk
    have gl6 : up (up G5 e5 (.lst [.bl (canB p), .bl (hasT p)])) mk (.lst [enc p]) l = some (.lst (encs cs)) := ge6 l _ gl
    have gm6 : up (up G5 e5 (.lst [.bl (canB p), .bl (hasT p)])) mk (.lst [enc p]) mk = some (.lst [enc p]) := up_same
    generalize up (up G5 e5 (.lst [.bl (canB p), .bl (hasT p)])) mk (.lst [enc p]) = G6 at ge6 gl6 gm6
    with_reducible conv => whnf
    rw [lk_lst gl6]
    with_reducible conv => whnf
    have nlm : l ≠ mk := ne_none gl hmkG
    refine ⟨fun i τ G1 => ∃ (t : Str) (t2 t3 t4 t5 t6 t7 t10 : Option PV), τ = [some (enc p), some (.ref l), t2, t3, t4, t5, t6, t7, some (.ref mk), some (.str t), t10] ∧ GE G G1 ∧ G1 mk = some (.lst (encs (p :: makess (cs.take i)))) ∧ t.length ≤ 64 * i ∧ ∀ x, x ∈ t.cps.toList ↔ x ∈ sgsOf (makess (cs.take i)),
      ⟨_, _, _, _, _, _, _, _, rfl, ge6, gm6, Nat.le_refl 0, fun x => by rw [show (Str.ofString "").cps.toList = [] from rfl]; simp [makess, sgsOf]⟩, ?_, ?_, ?_⟩
    · rintro i τ G1 _ ⟨t, t2, t3, t4, t5, t6, t7, t10, rfl, ge, _⟩
      exact lk_lst (ge l _ gl)
    · rintro i x τ G1 hx ⟨t, t2, t3, t4, t5, t6, t7, t10, rfl, ge, gm, ht, hm⟩
      obtain ⟨c, hc, rfl⟩ := encs_at' hx
      have tk : cs.take (i + 1) = cs.take i ++ [c] := by rw [List.take_add_one, hc]; rfl
      have hcm := List.mem_of_getElem? hc
      have hi : i < cs.length := (List.getElem?_eq_some_iff.mp hc).1
      have hc9 := hg.2.2 c hcm
      have hcs : Sg c := by obtain ⟨_, _, z, hz, hw⟩ := hc9; exact wf_sg hz hw
      have hsz : sizes (cs.take i) + sizes (cs.drop i) = sizes cs := by rw [← sizes_append, List.take_append_drop]
      with_reducible conv => whnf
      refine ⟨⟨_, gm⟩, ?_⟩
      with_reducible conv => whnf
      refine ⟨c, rfl, by have := hc9.2.1; omega, fun r hr' => ?_⟩
      with_reducible conv => whnf
      refine extL_i (xs := encs (p :: makess (cs.take i))) (by rw [up_ne (ne_none gm hr')]; exact gm) up_same ?_ ?_
      · rw [encs_length, encs_length, List.length_cons, makess_length, makes_length]
        have := hc9.2.1
        omega
      with_reducible conv => whnf
      refine ⟨c, rfl, hcs, by have := hc9.2.1; omega, fun ss hss hmem => ?_⟩
      with_reducible conv => whnf
      have hsl : (Txt.join (Str.ofString "") (ss.map oneS)).length = ss.length := by rw [← str_len, join_chars]
      have hLB := LB_len
      have hssl : ss.length ≤ LB.length := nodup_sub_len (hss.imp (fun h => Nat.ne_of_lt h)) fun x hx => sgs_in hcs x ((hmem x).mp hx)
      refine ⟨by rw [hsl]; omega, ?_⟩
      with_reducible conv => whnf
      refine ⟨_, _, _, _, _, _, _, _, rfl, (ge.new hr').mod hmkG, ?_, ?_, fun x => ?_⟩
      · rw [up_same, ← encs_append, tk, makess_append]
        simp [makess]
      · have : (t ++ Txt.join (Str.ofString "") (ss.map oneS)).length = t.length + ss.length := by rw [← str_len, str_app, List.length_append, join_chars, str_len]
        rw [this]
        omega
      · rw [str_app, join_chars, List.mem_append, hm x, hmem x, tk, makess_append, sgsOf_app, List.mem_append, show makess [c] = makes c by simp [makess]]
    rintro τ G1 ⟨t, t2, t3, t4, t5, t6, t7, t10, rfl, ge, gm, ht, hm⟩
    rw [encs_length] at ht
    rw [encs_length, List.take_length] at gm hm
    have hmp : makes p = p :: makess cs := by rw [makes_inner, hW.inner]
    rw [← hmp] at gm
    have hsp : Sg p := (hW.sg hg.2.2).1
    have hm' : ∀ x, x ∈ t.cps.toList ↔ x ∈ sgsOf (makes p) := fun x => by
      rw [hm x, hmp]
      show _ ↔ x ∈ sgsOf ([p] ++ makess cs)
      rw [sgsOf_app, show sgsOf [p] = sgM p by simp [sgsOf], (hW.sg hg.2.2).2, List.nil_append]
    with_reducible conv => whnf
    refine ⟨p, rfl, by omega, fun m2 hm2 => ?_⟩
    with_reducible conv => whnf
    refine neL_i (xs := encs (makes p)) (ys := encs (makes p)) lk_up (lk_lst (by rw [up_ne (ne_none gm hm2)]; exact gm)) (pureMakes (by omega)) (pureMakes (by omega)) ?_
    refine ifF (by rw [deqs_refl 100 _ (pureMakes (by omega))]; rfl) ?_
    with_reducible conv => whnf
    refine ⟨p, rfl, by omega, fun pa hpa => ?_⟩
    with_reducible conv => whnf
    have ge7 : GE G (up (up G1 m2 (.lst (encs (makes p)))) pa (.lst (partsP p))) := (ge.new hm2).new hpa
    refine ⟨l, cs, p, rfl, ge7 l _ gl, hW.inner, by omega, fun jo hjo => ?_⟩
    with_reducible conv => whnf
    refine neL_i (xs := partsP p) (ys := partsP p) (lk_lst (by rw [up_ne (Ne.symm (up_none hjo).1), up_same])) lk_up (pureParts p) (pureParts p) ?_
    refine ifF (by rw [deqs_refl 100 _ (pureParts p)]; rfl) ?_
    have ge8 := ge7.new (o := .lst (partsP p)) hjo
    generalize up (up (up G1 m2 (.lst (encs (makes p)))) pa (.lst (partsP p))) jo (.lst (partsP p)) = G8 at ge8
    with_reducible conv => whnf
    refine ⟨p, rfl, by omega, by omega, ?_⟩
    with_reducible conv => whnf
    rw [lk_lst (ge8 l _ gl)]
    with_reducible conv => whnf
    intro acc hacc
    refine cGo_encs (fun c => .int (depth c : Nat)) (by omega) (fun ys => lk_lst (by rw [up_ne (ne_none (ge8 l _ gl) hacc)]; exact ge8 l _ gl)) (fun x ys R hx r => ?_) ?_
    · have := (hg.2.2 x hx).1
      have := (hg.2.2 x hx).2.1
      exact ⟨x, rfl, by omega, by omega, r⟩
    with_reducible conv => whnf
    refine maxI_i (ns := cs.map fun c => ((depth c : Nat) : Int)) (lk_lst (by rw [up_same, List.map_map]; rfl)) (by rw [List.length_map]; exact List.length_pos_iff.mpr hg.1) fun M hM1 hM2 => ?_
    have hM := max_depths hg.1 hM1 hM2
    subst hM
    with_reducible conv => whnf
    refine addI_i ?_
    with_reducible conv => whnf
    refine neP_i rfl rfl ?_
    refine ifF ?_ ?_
    · have : ((depth p : Nat) : Int) = 1 + ((depths cs : Nat) : Int) := by omega
      rw [this]
      show (!(_ == _)) = false
      simp
    with_reducible conv => whnf
    refine ⟨p, rfl, hsp, by omega, fun ss hss hmem => ?_⟩
    with_reducible conv => whnf
    have hLB := LB_len
    refine ⟨by omega, ⟨LB, LB_len, fun c hc => sgs_in hsp c ((hm' c).mp hc)⟩, fun ss' c' hss' hmem' hc' => ?_⟩
    have hee : ss' = ss := rising_eq hss' hss fun x => by rw [hmem' x, hm', hmem]
    subst hee
    with_reducible conv => whnf
    have hssl : ss'.length ≤ LB.length := nodup_sub_len (hss.imp (fun h => Nat.ne_of_lt h)) fun x hx => sgs_in hsp x ((hmem x).mp hx)
    refine joinL_i (zs := ss'.map oneS) (lk_lst (by rw [up_same, List.map_map]; rfl)) ?_ ?_
    · have e : (Str.ofString "").length = 0 := rfl
      rw [sum_ones, e, Nat.mul_zero]
      omega
    with_reducible conv => whnf
    refine eqP_i rfl rfl ?_
    refine ⟨G, (ge8.new hacc).new hc', ?_⟩
    rw [deq_refl 100 _ rfl]
    exact q
  rcases List.mem_cons.mp hv with rfl | hv
  · refine eqP_i rfl rfl ?_
    refine ifF rfl ?_
    with_reducible conv => whnf
    refine eqP_i rfl rfl ?_
    refine ifF rfl ?_
    have ge5 := ge3
    have gd4 : G3 d1 = some (.lst [.bl (due "price" (cs.map canB)), .bl (due "price" (cs.map hasT))]) := gd3
    generalize G3 = G5 at ge5 gd4
    generalize d1 = dd at gd4
    have gd5 : G5 dd = some (.lst [.bl (canB p), .bl (hasT p)]) := by rw [hW.blank.1, hW.blank.2, hwd]; exact gd4
    with_reducible conv => whnf
    refine ⟨p, rfl, by omega, by omega, ?_⟩
    with_reducible conv => whnf
    refine ⟨p, rfl, by omega, by omega, ?_⟩
    with_reducible conv => whnf
    refine ⟨lek, fun e5 he5 => ?_⟩
    with_reducible conv => whnf
    refine neL_i (xs := [.bl (canB p), .bl (hasT p)]) (ys := [.bl (canB p), .bl (hasT p)]) lk_up (lk_lst (by rw [up_ne (ne_none gd5 he5)]; exact gd5)) rfl rfl ?_
    refine ifF (by rw [deqs_refl 100 _ rfl]; rfl) ?_
    with_reducible conv => whnf
    refine ⟨lek, fun mk hmk => ?_⟩
    have hmkG : G mk = none := by
      cases e : G mk with
      | none => rfl
      | some o => have := (ge5.new (o := .lst [.bl (canB p), .bl (hasT p)]) he5) mk o e; rw [hmk] at this; cases this
    have ge6 : GE G (up (up G5 e5 (.lst [.bl (canB p), .bl (hasT p)])) mk (.lst [enc p])) := (ge5.new he5).new hmk
    have gl6 : up (up G5 e5 (.lst [.bl (canB p), .bl (hasT p)])) mk (.lst [enc p]) l = some (.lst (encs cs)) := ge6 l _ gl
    have gm6 : up (up G5 e5 (.lst [.bl (canB p), .bl (hasT p)])) mk (.lst [enc p]) mk = some (.lst [enc p]) := up_same
    generalize up (up G5 e5 (.lst [.bl (canB p), .bl (hasT p)])) mk (.lst [enc p]) = G6 at ge6 gl6 gm6
    with_reducible conv => whnf
    rw [lk_lst gl6]
    with_reducible conv => whnf
    have nlm : l ≠ mk := ne_none gl hmkG
    refine ⟨fun i τ G1 => ∃ (t : Str) (t2 t3 t4 t5 t6 t7 t10 : Option PV), τ = [some (enc p), some (.ref l), t2, t3, t4, t5, t6, t7, some (.ref mk), some (.str t), t10] ∧ GE G G1 ∧ G1 mk = some (.lst (encs (p :: makess (cs.take i)))) ∧ t.length ≤ 64 * i ∧ ∀ x, x ∈ t.cps.toList ↔ x ∈ sgsOf (makess (cs.take i)),
      ⟨_, _, _, _, _, _, _, _, rfl, ge6, gm6, Nat.le_refl 0, fun x => by rw [show (Str.ofString "").cps.toList = [] from rfl]; simp [makess, sgsOf]⟩, ?_, ?_, ?_⟩
    · rintro i τ G1 _ ⟨t, t2, t3, t4, t5, t6, t7, t10, rfl, ge, _⟩
      exact lk_lst (ge l _ gl)
    · rintro i x τ G1 hx ⟨t, t2, t3, t4, t5, t6, t7, t10, rfl, ge, gm, ht, hm⟩
      obtain ⟨c, hc, rfl⟩ := encs_at' hx
      have tk : cs.take (i + 1) = cs.take i ++ [c] := by rw [List.take_add_one, hc]; rfl
      have hcm := List.mem_of_getElem? hc
      have hi : i < cs.length := (List.getElem?_eq_some_iff.mp hc).1
      have hc9 := hg.2.2 c hcm
      have hcs : Sg c := by obtain ⟨_, _, z, hz, hw⟩ := hc9; exact wf_sg hz hw
      have hsz : sizes (cs.take i) + sizes (cs.drop i) = sizes cs := by rw [← sizes_append, List.take_append_drop]
      with_reducible conv => whnf
      refine ⟨⟨_, gm⟩, ?_⟩
      with_reducible conv => whnf
      refine ⟨c, rfl, by have := hc9.2.1; omega, fun r hr' => ?_⟩
      with_reducible conv => whnf
      refine extL_i (xs := encs (p :: makess (cs.take i))) (by rw [up_ne (ne_none gm hr')]; exact gm) up_same ?_ ?_
      · rw [encs_length, encs_length, List.length_cons, makess_length, makes_length]
        have := hc9.2.1
        omega
      with_reducible conv => whnf
      refine ⟨c, rfl, hcs, by have := hc9.2.1; omega, fun ss hss hmem => ?_⟩
      with_reducible conv => whnf
      have hsl : (Txt.join (Str.ofString "") (ss.map oneS)).length = ss.length := by rw [← str_len, join_chars]
      have hLB := LB_len
      have hssl : ss.length ≤ LB.length := nodup_sub_len (hss.imp (fun h => Nat.ne_of_lt h)) fun x hx => sgs_in hcs x ((hmem x).mp hx)
      refine ⟨by rw [hsl]; omega, ?_⟩
      with_reducible conv => whnf
      refine ⟨_, _, _, _, _, _, _, _, rfl, (ge.new hr').mod hmkG, ?_, ?_, fun x => ?_⟩
      · rw [up_same, ← encs_append, tk, makess_append]
        simp [makess]
      · have : (t ++ Txt.join (Str.ofString "") (ss.map oneS)).length = t.length + ss.length := by rw [← str_len, str_app, List.length_append, join_chars, str_len]
        rw [this]
        omega
      · rw [str_app, join_chars, List.mem_append, hm x, hmem x, tk, makess_append, sgsOf_app, List.mem_append, show makess [c] = makes c by simp [makess]]
    rintro τ G1 ⟨t, t2, t3, t4, t5, t6, t7, t10, rfl, ge, gm, ht, hm⟩
    rw [encs_length] at ht
    rw [encs_length, List.take_length] at gm hm
    have hmp : makes p = p :: makess cs := by rw [makes_inner, hW.inner]
    rw [← hmp] at gm
    have hsp : Sg p := (hW.sg hg.2.2).1
    have hm' : ∀ x, x ∈ t.cps.toList ↔ x ∈ sgsOf (makes p) := fun x => by
      rw [hm x, hmp]
      show _ ↔ x ∈ sgsOf ([p] ++ makess cs)
      rw [sgsOf_app, show sgsOf [p] = sgM p by simp [sgsOf], (hW.sg hg.2.2).2, List.nil_append]
    with_reducible conv => whnf
    refine ⟨p, rfl, by omega, fun m2 hm2 => ?_⟩
    with_reducible conv => whnf
    refine neL_i (xs := encs (makes p)) (ys := encs (makes p)) lk_up (lk_lst (by rw [up_ne (ne_none gm hm2)]; exact gm)) (pureMakes (by omega)) (pureMakes (by omega)) ?_
    refine ifF (by rw [deqs_refl 100 _ (pureMakes (by omega))]; rfl) ?_
    with_reducible conv => whnf
    refine ⟨p, rfl, by omega, fun pa hpa => ?_⟩
    with_reducible conv => whnf
    have ge7 : GE G (up (up G1 m2 (.lst (encs (makes p)))) pa (.lst (partsP p))) := (ge.new hm2).new hpa
    refine ⟨l, cs, p, rfl, ge7 l _ gl, hW.inner, by omega, fun jo hjo => ?_⟩
    with_reducible conv => whnf
    refine neL_i (xs := partsP p) (ys := partsP p) (lk_lst (by rw [up_ne (Ne.symm (up_none hjo).1), up_same])) lk_up (pureParts p) (pureParts p) ?_
    refine ifF (by rw [deqs_refl 100 _ (pureParts p)]; rfl) ?_
    have ge8 := ge7.new (o := .lst (partsP p)) hjo
    generalize up (up (up G1 m2 (.lst (encs (makes p)))) pa (.lst (partsP p))) jo (.lst (partsP p)) = G8 at ge8
    with_reducible conv => whnf
    refine ⟨p, rfl, by omega, by omega, ?_⟩
    with_reducible conv => whnf
    rw [lk_lst (ge8 l _ gl)]
    with_reducible conv => whnf
    intro acc hacc
    refine cGo_encs (fun c => .int (depth c : Nat)) (by omega) (fun ys => lk_lst (by rw [up_ne (ne_none (ge8 l _ gl) hacc)]; exact ge8 l _ gl)) (fun x ys R hx r => ?_) ?_
    · have := (hg.2.2 x hx).1
      have := (hg.2.2 x hx).2.1
      exact ⟨x, rfl, by omega, by omega, r⟩
    with_reducible conv => whnf
    refine maxI_i (ns := cs.map fun c => ((depth c : Nat) : Int)) (lk_lst (by rw [up_same, List.map_map]; rfl)) (by rw [List.length_map]; exact List.length_pos_iff.mpr hg.1) fun M hM1 hM2 => ?_
    have hM := max_depths hg.1 hM1 hM2
    subst hM
    with_reducible conv => whnf
    refine addI_i ?_
    with_reducible conv => whnf
    refine neP_i rfl rfl ?_
    refine ifF ?_ ?_
    · have : ((depth p : Nat) : Int) = 1 + ((depths cs : Nat) : Int) := by omega
      rw [this]
      show (!(_ == _)) = false
      simp
    with_reducible conv => whnf
    refine ⟨p, rfl, hsp, by omega, fun ss hss hmem => ?_⟩
    with_reducible conv => whnf
    have hLB := LB_len
    refine ⟨by omega, ⟨LB, LB_len, fun c hc => sgs_in hsp c ((hm' c).mp hc)⟩, fun ss' c' hss' hmem' hc' => ?_⟩
    have hee : ss' = ss := rising_eq hss' hss fun x => by rw [hmem' x, hm', hmem]
    subst hee
    with_reducible conv => whnf
    have hssl : ss'.length ≤ LB.length := nodup_sub_len (hss.imp (fun h => Nat.ne_of_lt h)) fun x hx => sgs_in hsp x ((hmem x).mp hx)
    refine joinL_i (zs := ss'.map oneS) (lk_lst (by rw [up_same, List.map_map]; rfl)) ?_ ?_
    · have e : (Str.ofString "").length = 0 := rfl
      rw [sum_ones, e, Nat.mul_zero]
      omega
    with_reducible conv => whnf
    refine eqP_i rfl rfl ?_
    refine ⟨G, (ge8.new hacc).new hc', ?_⟩
    rw [deq_refl 100 _ rfl]
    exact q
  rcases List.mem_cons.mp hv with rfl | hv
  · refine eqP_i rfl rfl ?_
    refine ifF rfl ?_
    with_reducible conv => whnf
    refine eqP_i rfl rfl ?_
    refine ifT rfl ?_
    with_reducible conv => whnf
    refine ⟨lek, fun dd hdd => ?_⟩
    have ge5 : GE G (up G3 dd (.lst [.bl true, .bl true])) := ge3.new hdd
    have gd4 : up G3 dd (.lst [.bl true, .bl true]) dd = some (.lst [.bl (due "again" (cs.map canB)), .bl (due "again" (cs.map hasT))]) := up_same
    generalize up G3 dd (.lst [.bl true, .bl true]) = G5 at ge5 gd4
    have gd5 : G5 dd = some (.lst [.bl (canB p), .bl (hasT p)]) := by rw [hW.blank.1, hW.blank.2, hwd]; exact gd4
    with_reducible conv => whnf
    refine ⟨p, rfl, by omega, by omega, ?_⟩
    with_reducible conv => whnf
    refine ⟨p, rfl, by omega, by omega, ?_⟩
    with_reducible conv => whnf
    refine ⟨lek, fun e5 he5 => ?_⟩
    with_reducible conv => whnf
    refine neL_i (xs := [.bl (canB p), .bl (hasT p)]) (ys := [.bl (canB p), .bl (hasT p)]) lk_up (lk_lst (by rw [up_ne (ne_none gd5 he5)]; exact gd5)) rfl rfl ?_
    refine ifF (by rw [deqs_refl 100 _ rfl]; rfl) ?_
    with_reducible conv => whnf
    refine ⟨lek, fun mk hmk => ?_⟩
    have hmkG : G mk = none := by
      cases e : G mk with
      | none => rfl
      | some o => have := (ge5.new (o := .lst [.bl (canB p), .bl (hasT p)]) he5) mk o e; rw [hmk] at this; cases this
    have ge6 : GE G (up (up G5 e5 (.lst [.bl (canB p), .bl (hasT p)])) mk (.lst [enc p])) := (ge5.new he5).new hmk
    have gl6 : up (up G5 e5 (.lst [.bl (canB p), .bl (hasT p)])) mk (.lst [enc p]) l = some (.lst (encs cs)) := ge6 l _ gl
    have gm6 : up (up G5 e5 (.lst [.bl (canB p), .bl (hasT p)])) mk (.lst [enc p]) mk = some (.lst [enc p]) := up_same
    generalize up (up G5 e5 (.lst [.bl (canB p), .bl (hasT p)])) mk (.lst [enc p]) = G6 at ge6 gl6 gm6
    with_reducible conv => whnf
    rw [lk_lst gl6]
    with_reducible conv => whnf
    have nlm : l ≠ mk := ne_none gl hmkG
    refine ⟨fun i τ G1 => ∃ (t : Str) (t2 t3 t4 t5 t6 t7 t10 : Option PV), τ = [some (enc p), some (.ref l), t2, t3, t4, t5, t6, t7, some (.ref mk), some (.str t), t10] ∧ GE G G1 ∧ G1 mk = some (.lst (encs (p :: makess (cs.take i)))) ∧ t.length ≤ 64 * i ∧ ∀ x, x ∈ t.cps.toList ↔ x ∈ sgsOf (makess (cs.take i)),
      ⟨_, _, _, _, _, _, _, _, rfl, ge6, gm6, Nat.le_refl 0, fun x => by rw [show (Str.ofString "").cps.toList = [] from rfl]; simp [makess, sgsOf]⟩, ?_, ?_, ?_⟩
    · rintro i τ G1 _ ⟨t, t2, t3, t4, t5, t6, t7, t10, rfl, ge, _⟩
      exact lk_lst (ge l _ gl)
    · rintro i x τ G1 hx ⟨t, t2, t3, t4, t5, t6, t7, t10, rfl, ge, gm, ht, hm⟩
      obtain ⟨c, hc, rfl⟩ := encs_at' hx
      have tk : cs.take (i + 1) = cs.take i ++ [c] := by rw [List.take_add_one, hc]; rfl
      have hcm := List.mem_of_getElem? hc
      have hi : i < cs.length := (List.getElem?_eq_some_iff.mp hc).1
      have hc9 := hg.2.2 c hcm
      have hcs : Sg c := by obtain ⟨_, _, z, hz, hw⟩ := hc9; exact wf_sg hz hw
      have hsz : sizes (cs.take i) + sizes (cs.drop i) = sizes cs := by rw [← sizes_append, List.take_append_drop]
      with_reducible conv => whnf
      refine ⟨⟨_, gm⟩, ?_⟩
      with_reducible conv => whnf
      refine ⟨c, rfl, by have := hc9.2.1; omega, fun r hr' => ?_⟩
      with_reducible conv => whnf
      refine extL_i (xs := encs (p :: makess (cs.take i))) (by rw [up_ne (ne_none gm hr')]; exact gm) up_same ?_ ?_
      · rw [encs_length, encs_length, List.length_cons, makess_length, makes_length]
        have := hc9.2.1
        omega
      with_reducible conv => whnf
      refine ⟨c, rfl, hcs, by have := hc9.2.1; omega, fun ss hss hmem => ?_⟩
      with_reducible conv => whnf
      have hsl : (Txt.join (Str.ofString "") (ss.map oneS)).length = ss.length := by rw [← str_len, join_chars]
      have hLB := LB_len
      have hssl : ss.length ≤ LB.length := nodup_sub_len (hss.imp (fun h => Nat.ne_of_lt h)) fun x hx => sgs_in hcs x ((hmem x).mp hx)
      refine ⟨by rw [hsl]; omega, ?_⟩
      with_reducible conv => whnf
      refine ⟨_, _, _, _, _, _, _, _, rfl, (ge.new hr').mod hmkG, ?_, ?_, fun x => ?_⟩
      · rw [up_same, ← encs_append, tk, makess_append]
        simp [makess]
      · have : (t ++ Txt.join (Str.ofString "") (ss.map oneS)).length = t.length + ss.length := by rw [← str_len, str_app, List.length_append, join_chars, str_len]
        rw [this]
        omega
      · rw [str_app, join_chars, List.mem_append, hm x, hmem x, tk, makess_append, sgsOf_app, List.mem_append, show makess [c] = makes c by simp [makess]]
    rintro τ G1 ⟨t, t2, t3, t4, t5, t6, t7, t10, rfl, ge, gm, ht, hm⟩
    rw [encs_length] at ht
    rw [encs_length, List.take_length] at gm hm
    have hmp : makes p = p :: makess cs := by rw [makes_inner, hW.inner]
    rw [← hmp] at gm
    have hsp : Sg p := (hW.sg hg.2.2).1
    have hm' : ∀ x, x ∈ t.cps.toList ↔ x ∈ sgsOf (makes p) := fun x => by
      rw [hm x, hmp]
      show _ ↔ x ∈ sgsOf ([p] ++ makess cs)
      rw [sgsOf_app, show sgsOf [p] = sgM p by simp [sgsOf], (hW.sg hg.2.2).2, List.nil_append]
    with_reducible conv => whnf
    refine ⟨p, rfl, by omega, fun m2 hm2 => ?_⟩
    with_reducible conv => whnf
    refine neL_i (xs := encs (makes p)) (ys := encs (makes p)) lk_up (lk_lst (by rw [up_ne (ne_none gm hm2)]; exact gm)) (pureMakes (by omega)) (pureMakes (by omega)) ?_
    refine ifF (by rw [deqs_refl 100 _ (pureMakes (by omega))]; rfl) ?_
    with_reducible conv => whnf
    refine ⟨p, rfl, by omega, fun pa hpa => ?_⟩
    with_reducible conv => whnf
    have ge7 : GE G (up (up G1 m2 (.lst (encs (makes p)))) pa (.lst (partsP p))) := (ge.new hm2).new hpa
    refine ⟨l, cs, p, rfl, ge7 l _ gl, hW.inner, by omega, fun jo hjo => ?_⟩
    with_reducible conv => whnf
    refine neL_i (xs := partsP p) (ys := partsP p) (lk_lst (by rw [up_ne (Ne.symm (up_none hjo).1), up_same])) lk_up (pureParts p) (pureParts p) ?_
    refine ifF (by rw [deqs_refl 100 _ (pureParts p)]; rfl) ?_
    have ge8 := ge7.new (o := .lst (partsP p)) hjo
    generalize up (up (up G1 m2 (.lst (encs (makes p)))) pa (.lst (partsP p))) jo (.lst (partsP p)) = G8 at ge8
    with_reducible conv => whnf
    refine ⟨p, rfl, by omega, by omega, ?_⟩
    with_reducible conv => whnf
    rw [lk_lst (ge8 l _ gl)]
    with_reducible conv => whnf
    intro acc hacc
    refine cGo_encs (fun c => .int (depth c : Nat)) (by omega) (fun ys => lk_lst (by rw [up_ne (ne_none (ge8 l _ gl) hacc)]; exact ge8 l _ gl)) (fun x ys R hx r => ?_) ?_
    · have := (hg.2.2 x hx).1
      have := (hg.2.2 x hx).2.1
      exact ⟨x, rfl, by omega, by omega, r⟩
    with_reducible conv => whnf
    refine maxI_i (ns := cs.map fun c => ((depth c : Nat) : Int)) (lk_lst (by rw [up_same, List.map_map]; rfl)) (by rw [List.length_map]; exact List.length_pos_iff.mpr hg.1) fun M hM1 hM2 => ?_
    have hM := max_depths hg.1 hM1 hM2
    subst hM
    with_reducible conv => whnf
    refine addI_i ?_
    with_reducible conv => whnf
    refine neP_i rfl rfl ?_
    refine ifF ?_ ?_
    · have : ((depth p : Nat) : Int) = 1 + ((depths cs : Nat) : Int) := by omega
      rw [this]
      show (!(_ == _)) = false
      simp
    with_reducible conv => whnf
    refine ⟨p, rfl, hsp, by omega, fun ss hss hmem => ?_⟩
    with_reducible conv => whnf
    have hLB := LB_len
    refine ⟨by omega, ⟨LB, LB_len, fun c hc => sgs_in hsp c ((hm' c).mp hc)⟩, fun ss' c' hss' hmem' hc' => ?_⟩
    have hee : ss' = ss := rising_eq hss' hss fun x => by rw [hmem' x, hm', hmem]
    subst hee
    with_reducible conv => whnf
    have hssl : ss'.length ≤ LB.length := nodup_sub_len (hss.imp (fun h => Nat.ne_of_lt h)) fun x hx => sgs_in hsp x ((hmem x).mp hx)
    refine joinL_i (zs := ss'.map oneS) (lk_lst (by rw [up_same, List.map_map]; rfl)) ?_ ?_
    · have e : (Str.ofString "").length = 0 := rfl
      rw [sum_ones, e, Nat.mul_zero]
      omega
    with_reducible conv => whnf
    refine eqP_i rfl rfl ?_
    refine ⟨G, (ge8.new hacc).new hc', ?_⟩
    rw [deq_refl 100 _ rfl]
    exact q
  · cases hv
end
abbrev xLaw : Stmt := top 37
theorem slL_i {a : Addr} {G : Gp} {Q : K2} {xs : List PV} {lo hi : Option Int} (h : lk G a = some xs) (q : ∀ c, G c = none → Q (.ref c) (up G c (.lst (cutP xs lo hi)))) : sl2 (.ref a) lo hi G Q := by
  unfold sl2; simp only [h]; exact q
theorem cut_one (c0 : Pt) (cs : List Pt) : cutP (encs (c0 :: cs)) none (some 1) = encs [c0] := by
  unfold cutP HT.sIx
  simp [encs]
section
variable {P : Program} {w : World} {K : PySem.W.Frag} {mg : Str → Option Value} {base : Heap} {f fk fr fw ft fl fn fp fa fi fm fo fc : Addr} {fd dk dr dw dt dl dn dp da di dm do' dc : FuncData}
theorem scLaw : FnScope ["script", "cell", "pool", "count", "parts", "number", "word", "whole"] ["script"] (defScope xLaw) := ⟨rfl, rfl, rfl, by decide +kernel, rfl, by decide +kernel, by decide +kernel⟩
theorem csLaw : compOkB (defScope xLaw) ["script", "cell", "pool", "count", "parts", "number", "word", "whole"] (cscope [(".0", .local), ("k", .local), ("_law_drawn", .globalImplicit), ("pool", .free), ("count", .free)]) ["k", "pool", "count"] [none, some 2, some 3] 0 "k" = true := by decide +kernel
def spLaw : Sp2 := fun ps G Q => ∃ ns : List Int, ps = [.ro (ns.map PV.int)] ∧ ns.length ≤ 63 ∧ ∀ G', Q (.bl true) G'
set_option maxHeartbeats 8000000 in
theorem ok_law {k : Nat} (hk : 30 ≤ k) (F : Fun K "law" "law" xLaw f fd) (B : BN mg) (CP : Cal2 P w K mg base 1 "_law_pool" fp dp ["cell"] spPool) (CN : Cal2 P w K mg base 1 "_law_next" fn dn ["pool", "base"] spNext) (CD : Cal2 P w K mg base 23 "_law_drawn" fk dk ["pool", "deepest"] spDrawn)
    (CR : Cal2 P w K mg base 24 "_law_right" fr dr ["whole", "parts"] spRight) :
    Ok2 P w K mg base (k + 1) f fd ["script"] spLaw := by
  have nd := scLaw.nd
  refine fn2 F scLaw (fun vs G Q h => ?_) (fun cdv A outer s H E as G Q hr h => ?_)
  · obtain ⟨_, rfl, _⟩ := h
    rfl
  have hU := u200 hr
  apply ex2
  case a =>
    get_elem_tactic_extensible
    all_goals try (refine' js_comp (n := 4) (ix := [none, some 2, some 3]) (j := 0) nd rfl rfl csLaw rfl ?_ (fun C s H fp => ⟨?_, ?_⟩))
    all_goals get_elem_tactic_extensible
  obtain ⟨ns, rfl, h63, q⟩ := h
  with_reducible conv => whnf
  refine ⟨lek, fun l0 hl0 => ?_⟩
  with_reducible conv => whnf
  refine addR_i lk_up (by simp; omega) fun sc hsc => ?_
  with_reducible conv => whnf
  rw [lk_up]
  with_reducible conv => whnf
  have g0 : up (up G l0 (.lst [PV.int 0])) sc (.lst ([PV.int 0] ++ ns.map PV.int)) sc = some (.lst ([PV.int 0] ++ ns.map PV.int)) := up_same
  generalize up (up G l0 (.lst [PV.int 0])) sc (.lst ([PV.int 0] ++ ns.map PV.int)) = G0 at g0
  refine ⟨fun i τ G2 => ∃ t1 t2 t3 t4 t5 t6 t7 : Option PV, τ = [some (.ro (ns.map PV.int)), t1, t2, t3, t4, t5, t6, t7] ∧ G2 sc = some (.lst ([PV.int 0] ++ ns.map PV.int)), ⟨_, _, _, _, _, _, _, rfl, g0⟩, ?_, ?_, ?_⟩
  · rintro i τ G2 _ ⟨_, _, _, _, _, _, _, rfl, h⟩
    exact lk_lst h
  · rintro i x τ G2 hx ⟨t1, t2, t3, t4, t5, t6, t7, rfl, g2⟩
    obtain ⟨c, rfl⟩ : ∃ c, x = .int c := by
      have hm := List.mem_of_getElem? hx
      rcases List.mem_append.mp hm with z | z
      · exact ⟨0, List.mem_singleton.mp z⟩
      · obtain ⟨c, _, e⟩ := List.mem_map.mp z
        exact ⟨c, e.symm⟩
    with_reducible conv => whnf
    refine ⟨c, rfl, fun a G3 ha p3 c3 => ?_⟩
    have nsa : sc ≠ a := ne_none g2 ha
    have g3 := c3 sc _ (by simpa using nsa) g2
    with_reducible conv => whnf
    refine ⟨a, 6, rfl, p3, by decide, by decide, fun d4 G4 m0 m1 p4 c4 => ?_⟩
    have g4 := c4 sc _ (by simpa using nsa) g3
    with_reducible conv => whnf
    refine addI_i ?_
    with_reducible conv => whnf
    refine ⟨by omega, by omega, ?_⟩
    with_reducible conv => whnf
    intro acc hacc
    have naa : a ≠ acc := by obtain ⟨o, e⟩ := p4.some; exact ne_none e hacc
    have nsc : sc ≠ acc := ne_none g4 hacc
    obtain ⟨cn, hcn⟩ : ∃ cn : Nat, (1 + d4).toNat = cn ∧ d4 = (cn : Int) - 1 ∧ 1 ≤ cn ∧ cn ≤ 6 := ⟨(1 + d4).toNat, rfl, by omega, by omega, by omega⟩
    obtain ⟨hcn, hd4, hc1, hc6⟩ := hcn
    rw [hcn]
    refine ⟨fun i ys G5 => ∃ cs : List Pt, ys = encs cs ∧ cs.length = i ∧ (∀ c ∈ cs, Gd c) ∧ Pool G5 a ∧ G5 sc = some (.lst ([PV.int 0] ++ ns.map PV.int)) ∧ G5 acc = some (.lst ys),
      ⟨[], rfl, rfl, by simp, p4.new hacc, by rw [up_ne nsc]; exact g4, up_same⟩, ?_, ?_, ?_⟩
    · rintro i ys G5 hi ⟨cs, rfl, hcl, _, _, _, ga⟩
      refine ⟨trivial, ga, ?_⟩
      rw [encs_length]
      unfold intsP at hi
      simp at hi
      omega
    · rintro i ys G5 x hx ⟨cs, rfl, hcl, hG, p5, s5, ga⟩
      refine ifT rfl ?_
      with_reducible conv => whnf
      refine ⟨lek, fun l5 hl5 => ?_⟩
      with_reducible conv => whnf
      obtain ⟨dpt, ex, e2, e9⟩ : ∃ m : Int, atI [PV.int 9, .int 9, .int 5, .int 4, .int 3, .int 3] (1 + d4 - 1) = some (.int m) ∧ 2 ≤ m ∧ m ≤ 9 := by
        have : d4 = 0 ∨ d4 = 1 ∨ d4 = 2 ∨ d4 = 3 ∨ d4 = 4 ∨ d4 = 5 := by omega
        rcases this with rfl | rfl | rfl | rfl | rfl | rfl
        · exact ⟨9, rfl, by decide, by decide⟩
        · exact ⟨9, rfl, by decide, by decide⟩
        · exact ⟨5, rfl, by decide, by decide⟩
        · exact ⟨4, rfl, by decide, by decide⟩
        · exact ⟨3, rfl, by decide, by decide⟩
        · exact ⟨3, rfl, by decide, by decide⟩
      refine ixL_i lk_up ex ?_
      with_reducible conv => whnf
      refine ⟨a, dpt, rfl, e2, e9, p5.new hl5, fun p z G6 hz w6 d6 s6 p6 c6 => ?_⟩
      have ga6 : G6 acc = some (.lst (encs cs)) := c6 acc _ (by simpa using Ne.symm naa) (by rw [up_ne (ne_none ga hl5)]; exact ga)
      have gs6 := c6 sc _ (by simpa using nsa) (show up G5 l5 _ sc = _ by rw [up_ne (ne_none s5 hl5)]; exact s5)
      refine ⟨ga6, cs ++ [p], ?_, by simp [hcl], ?_, p6.ne (Ne.symm naa), by rw [up_ne nsc]; exact gs6, up_same⟩
      · rw [encs_append]; rfl
      · intro c hc
        rcases List.mem_append.mp hc with hc | hc
        · exact hG c hc
        · cases List.mem_singleton.mp hc
          exact ⟨d6, s6, z, hz, w6⟩
    rintro ys G5 ⟨cs, rfl, hcl, hG, p5, s5, ga⟩
    have hil : (intsP 0 cn).length = cn := by unfold intsP; simp
    rw [hil] at hcl
    have hgl : GdL cs := ⟨fun e => by subst e; simp at hcl; omega, by omega, hG⟩
    with_reducible conv => whnf
    refine ⟨a, 1001, rfl, p5, by decide, by decide, fun nn G6 n0 n1 p6 c6 => ?_⟩
    have ga6 := c6 acc _ (by simpa using Ne.symm naa) ga
    have gs6 := c6 sc _ (by simpa using nsa) s5
    with_reducible conv => whnf
    refine ⟨lek, fun w1 hw1 => ?_⟩
    with_reducible conv => whnf
    rw [lk_up]
    with_reducible conv => whnf
    have ga7 : up G6 w1 (.lst [.str "row", .str "pick"]) acc = some (.lst (encs cs)) := by rw [up_ne (ne_none ga6 hw1)]; exact ga6
    have gs7 : up G6 w1 (.lst [.str "row", .str "pick"]) sc = some (.lst ([PV.int 0] ++ ns.map PV.int)) := by rw [up_ne (ne_none gs6 hw1)]; exact gs6
    have gw7 : up G6 w1 (.lst [.str "row", .str "pick"]) w1 = some (.lst [.str "row", .str "pick"]) := up_same
    generalize up G6 w1 (.lst [.str "row", .str "pick"]) = G7 at ga7 gs7 gw7
    refine ⟨fun i τ G1 => ∃ t6 t7 : Option PV, τ = [some (.ro (ns.map PV.int)), some (.int c), some (.ref a), some (.int (1 + d4)), some (.ref acc), some (.int nn), t6, t7] ∧ G1 sc = some (.lst ([PV.int 0] ++ ns.map PV.int)) ∧ G1 acc = some (.lst (encs cs)) ∧ G1 w1 = some (.lst [.str "row", .str "pick"]), ⟨_, _, rfl, gs7, ga7, gw7⟩, ?_, ?_, ?_⟩
    · rintro i τ G1 _ ⟨t6, t7, rfl, _, _, h⟩
      exact lk_lst h
    · rintro i x τ G1 hx ⟨t6, t7, rfl, k1, k2, k3⟩
      have hxw : x = .str "row" ∨ x = .str "pick" := by have hm := List.mem_of_getElem? hx; simpa using hm
      rcases hxw with rfl | rfl
      · with_reducible conv => whnf
        refine tupL_i (lk_lst k2) ?_
        with_reducible conv => whnf
        refine ⟨lek, ?_⟩
        with_reducible conv => whnf
        refine ⟨.row cs, acc, cs, rfl, k2, hgl, Wh.row cs, ?_⟩
        with_reducible conv => whnf
        refine ifF rfl ?_
        exact ⟨_, _, rfl, k1, k2, k3⟩
      · with_reducible conv => whnf
        refine tupL_i (lk_lst k2) ?_
        with_reducible conv => whnf
        refine ⟨lek, ?_⟩
        with_reducible conv => whnf
        refine ⟨.pick cs, acc, cs, rfl, k2, hgl, Wh.pick cs, ?_⟩
        with_reducible conv => whnf
        refine ifF rfl ?_
        exact ⟨_, _, rfl, k1, k2, k3⟩
    · rintro τ G1 ⟨t6, t7, rfl, k1, k2, _⟩
      obtain ⟨c0, cs', hcs0⟩ : ∃ c0 cs', cs = c0 :: cs' := by
        cases cs with
        | nil => exact absurd rfl hgl.1
        | cons c0 cs' => exact ⟨c0, cs', rfl⟩
      have h00 : (encs cs)[0]? = some (enc c0) := by rw [hcs0]; rfl
      have hg1 : GdL [c0] := ⟨by simp, by simp, fun d hd => by cases List.mem_singleton.mp hd; exact hG _ (by rw [hcs0]; simp)⟩
      have hcut : cutP (encs cs) none (some 1) = encs [c0] := by
        rw [hcs0]
        exact cut_one c0 cs'
      with_reducible conv => whnf
      refine ixL_i (lk_lst k2) (atI_nat (j := 0) h00) ?_
      with_reducible conv => whnf
      refine ⟨lek, ?_⟩
      with_reducible conv => whnf
      refine ixL_i (lk_lst k2) (atI_nat (j := 0) h00) ?_
      with_reducible conv => whnf
      refine ⟨lek, ?_⟩
      with_reducible conv => whnf
      refine ixL_i (lk_lst k2) (atI_nat (j := 0) h00) ?_
      with_reducible conv => whnf
      refine ⟨lek, ?_⟩
      with_reducible conv => whnf
      refine ⟨lek, fun w2 hw2 => ?_⟩
      have ga8 : up G1 w2 (.lst [.tup [.str "held", .str "x", enc c0], .tup [.str "price", .int nn, enc c0], .tup [.str "again", enc c0]]) acc = some (.lst (encs cs)) := by rw [up_ne (ne_none k2 hw2)]; exact k2
      have gs8 : up G1 w2 (.lst [.tup [.str "held", .str "x", enc c0], .tup [.str "price", .int nn, enc c0], .tup [.str "again", enc c0]]) sc = some (.lst ([PV.int 0] ++ ns.map PV.int)) := by rw [up_ne (ne_none k1 hw2)]; exact k1
      have gw8 : up G1 w2 (.lst [.tup [.str "held", .str "x", enc c0], .tup [.str "price", .int nn, enc c0], .tup [.str "again", enc c0]]) w2 = some (.lst [.tup [.str "held", .str "x", enc c0], .tup [.str "price", .int nn, enc c0], .tup [.str "again", enc c0]]) := up_same
      generalize up G1 w2 (.lst [.tup [.str "held", .str "x", enc c0], .tup [.str "price", .int nn, enc c0], .tup [.str "again", enc c0]]) = G8 at ga8 gs8 gw8
      with_reducible conv => whnf
      rw [lk_lst gw8]
      with_reducible conv => whnf
      refine ⟨fun i τ G1 => ∃ t6 t7 : Option PV, τ = [some (.ro (ns.map PV.int)), some (.int c), some (.ref a), some (.int (1 + d4)), some (.ref acc), some (.int nn), t6, t7] ∧ G1 sc = some (.lst ([PV.int 0] ++ ns.map PV.int)) ∧ G1 acc = some (.lst (encs cs)) ∧ G1 w2 = some (.lst [.tup [.str "held", .str "x", enc c0], .tup [.str "price", .int nn, enc c0], .tup [.str "again", enc c0]]), ⟨_, _, rfl, gs8, ga8, gw8⟩, ?_, ?_, ?_⟩
      · rintro i τ G1 _ ⟨t6, t7, rfl, _, _, h⟩
        exact lk_lst h
      · rintro i x τ G1 hx ⟨t6, t7, rfl, m1, m2, m3⟩
        have hxw : x = .tup [.str "held", .str "x", enc c0] ∨ x = .tup [.str "price", .int nn, enc c0] ∨ x = .tup [.str "again", enc c0] := by have hm := List.mem_of_getElem? hx; simpa using hm
        rcases hxw with rfl | rfl | rfl
        · with_reducible conv => whnf
          refine slL_i (lk_lst m2) fun sl hsl => ?_
          rw [hcut]
          with_reducible conv => whnf
          refine ⟨.held "x" c0, sl, [c0], rfl, up_same, hg1, Wh.held c0, ?_⟩
          with_reducible conv => whnf
          refine ifF rfl ?_
          exact ⟨_, _, rfl, by rw [up_ne (ne_none m1 hsl)]; exact m1, by rw [up_ne (ne_none m2 hsl)]; exact m2, by rw [up_ne (ne_none m3 hsl)]; exact m3⟩
        · with_reducible conv => whnf
          refine slL_i (lk_lst m2) fun sl hsl => ?_
          rw [hcut]
          with_reducible conv => whnf
          refine ⟨.price nn c0, sl, [c0], rfl, up_same, hg1, Wh.price nn c0 n0 (by omega), ?_⟩
          with_reducible conv => whnf
          refine ifF rfl ?_
          exact ⟨_, _, rfl, by rw [up_ne (ne_none m1 hsl)]; exact m1, by rw [up_ne (ne_none m2 hsl)]; exact m2, by rw [up_ne (ne_none m3 hsl)]; exact m3⟩
        · with_reducible conv => whnf
          refine slL_i (lk_lst m2) fun sl hsl => ?_
          rw [hcut]
          with_reducible conv => whnf
          refine ⟨.again c0, sl, [c0], rfl, up_same, hg1, Wh.again c0, ?_⟩
          with_reducible conv => whnf
          refine ifF rfl ?_
          exact ⟨_, _, rfl, by rw [up_ne (ne_none m1 hsl)]; exact m1, by rw [up_ne (ne_none m2 hsl)]; exact m2, by rw [up_ne (ne_none m3 hsl)]; exact m3⟩
      · rintro τ G1 ⟨t6, t7, rfl, m1, _⟩
        exact ⟨_, _, _, _, _, _, _, rfl, m1⟩
  · rintro τ G2 ⟨_, _, _, _, _, _, _, rfl, _⟩
    with_reducible conv => whnf
    exact ⟨_, GE.refl, q _⟩
end
def bnB (K : PySem.W.Frag) : Bool := bnames.all fun x => PySem.W.nsIn K mainGlobals x == some none
theorem bn_of {K : PySem.W.Frag} {h : Heap} {mg : Str → Option Value} (X : K.In h) (G : h.Ns mainGlobals mg) (z : bnB K = true) : BN mg := fun x hx => by
  unfold bnB at z
  rw [List.all_eq_true] at z
  have := z x (by simpa using hx)
  exact PySem.W.mg_none_of X G (beq_iff_eq.mp this)
theorem all_mk {l : PySem.W.OpenLaw} {w : World} {K : PySem.W.Frag} {h : Heap} {mg : Str → Option Value} {fa f1 f2 f3 f4 f5 f6 f7 f8 f9 f10 f11 f12 f13 f14 f15 f16 f17 f18 f19 f20 f21 f22 f23 f24 f25 f26 : Addr} {tLET : Tok} {tSIG : Tok} {tLW : Tok} {tDE : Tok} {tMM : Tok} {tFP : Tok} {tMP : Tok} {tHP : Tok} {dL : Addr} {oL : Obj} {sLET sSIG : Str} {nLW nDE nMM nFP nMP nHP : Int} (X : K.In h) (G : h.Ns mainGlobals mg) (hfa : mg "law" = some (.ref fa))
    {od1 an1 od2 an2 od3 an3 od4 an4 od5 an5 od6 an6 od7 an7 od8 an8 od9 an9 od10 an10 od11 an11 od12 an12 od13 an13 od14 an14 od15 an15 od16 an16 od17 an17 od18 an18 od19 an19 od20 an20 od21 an21 od22 an22 od23 an23 od24 an24 od25 an25 od26 an26 : Option Addr} {sl1 sl2 sl3 sl4 sl5 sl6 sl7 sl8 sl9 sl10 sl11 sl12 sl13 sl14 sl15 sl16 sl17 sl18 sl19 sl20 sl21 sl22 sl23 sl24 sl25 sl26 : Array (Option Value)} {oc1 kV1 dc1 pm1 cd1 ct1 oc2 kV2 dc2 pm2 cd2 ct2 oc3 kV3 dc3 pm3 cd3 ct3 oc4 kV4 dc4 pm4 cd4 ct4 oc5 kV5 dc5 pm5 cd5 ct5 oc6 kV6 dc6 pm6 cd6 ct6 oc7 kV7 dc7 pm7 cd7 ct7 oc8 kV8 dc8 pm8 cd8 ct8 oc9 kV9 dc9 pm9 cd9 ct9 oc10 kV10 dc10 pm10 cd10 ct10 oc11 kV11 dc11 pm11 cd11 ct11 oc12 kV12 dc12 pm12 cd12 ct12 oc13 kV13 dc13 pm13 cd13 ct13 oc14 kV14 dc14 pm14 cd14 ct14 oc15 kV15 dc15 pm15 cd15 ct15 oc16 kV16 dc16 pm16 cd16 ct16 oc17 kV17 dc17 pm17 cd17 ct17 oc18 kV18 dc18 pm18 cd18 ct18 oc19 kV19 dc19 pm19 cd19 ct19 oc20 kV20 dc20 pm20 cd20 ct20 oc21 kV21 dc21 pm21 cd21 ct21 oc22 kV22 dc22 pm22 cd22 ct22 oc23 kV23 dc23 pm23 cd23 ct23 oc24 kV24 dc24 pm24 cd24 ct24 oc25 kV25 dc25 pm25 cd25 ct25 oc26 kV26 dc26 pm26 cd26 ct26 : Value}
    (a1 : PySem.W.nsIn K mainGlobals "inner_patterns" = some (some (.ref f1))) (l1 : K.lookup f1 = some ⟨oc1, od1, .func (PySem.W.fnOf "inner_patterns" "inner_patterns" (defArgs xInner) (defBody xInner) (defScope xInner) .none kV1 dc1 pm1 an1 cd1 ct1), sl1⟩) (q1 : PySem.W.codeIn K cd1 "inner_patterns" = true) (k1 : PySem.W.keepIn K (.ref f1) = true)
    (a2 : PySem.W.nsIn K mainGlobals "makes_of" = some (some (.ref f2))) (l2 : K.lookup f2 = some ⟨oc2, od2, .func (PySem.W.fnOf "makes_of" "makes_of" (defArgs xMakes) (defBody xMakes) (defScope xMakes) .none kV2 dc2 pm2 an2 cd2 ct2), sl2⟩) (q2 : PySem.W.codeIn K cd2 "makes_of" = true) (k2 : PySem.W.keepIn K (.ref f2) = true)
    (a3 : PySem.W.nsIn K mainGlobals "is_whole" = some (some (.ref f3))) (l3 : K.lookup f3 = some ⟨oc3, od3, .func (PySem.W.fnOf "is_whole" "is_whole" (defArgs xWhole) (defBody xWhole) (defScope xWhole) .none kV3 dc3 pm3 an3 cd3 ct3), sl3⟩) (q3 : PySem.W.codeIn K cd3 "is_whole" = true) (k3 : PySem.W.keepIn K (.ref f3) = true)
    (a4 : PySem.W.nsIn K mainGlobals "_law_pool" = some (some (.ref f4))) (l4 : K.lookup f4 = some ⟨oc4, od4, .func (PySem.W.fnOf "_law_pool" "_law_pool" (defArgs xPool) (defBody xPool) (defScope xPool) .none kV4 dc4 pm4 an4 cd4 ct4), sl4⟩) (q4 : PySem.W.codeIn K cd4 "_law_pool" = true) (k4 : PySem.W.keepIn K (.ref f4) = true)
    (a5 : PySem.W.nsIn K mainGlobals "_law_next" = some (some (.ref f5))) (l5 : K.lookup f5 = some ⟨oc5, od5, .func (PySem.W.fnOf "_law_next" "_law_next" (defArgs xNext) (defBody xNext) (defScope xNext) .none kV5 dc5 pm5 an5 cd5 ct5), sl5⟩) (q5 : PySem.W.codeIn K cd5 "_law_next" = true) (k5 : PySem.W.keepIn K (.ref f5) = true)
    (a6 : PySem.W.nsIn K mainGlobals "_law_letters" = some (some (.ref f6))) (l6 : K.lookup f6 = some ⟨oc6, od6, .func (PySem.W.fnOf "_law_letters" "_law_letters" (defArgs xLetters) (defBody xLetters) (defScope xLetters) .none kV6 dc6 pm6 an6 cd6 ct6), sl6⟩) (q6 : PySem.W.codeIn K cd6 "_law_letters" = true) (k6 : PySem.W.keepIn K (.ref f6) = true)
    (a7 : PySem.W.nsIn K mainGlobals "_law_leaf" = some (some (.ref f7))) (l7 : K.lookup f7 = some ⟨oc7, od7, .func (PySem.W.fnOf "_law_leaf" "_law_leaf" (defArgs xLeaf) (defBody xLeaf) (defScope xLeaf) .none kV7 dc7 pm7 an7 cd7 ct7), sl7⟩) (q7 : PySem.W.codeIn K cd7 "_law_leaf" = true) (k7 : PySem.W.keepIn K (.ref f7) = true)
    (a8 : PySem.W.nsIn K mainGlobals "_law_parts" = some (some (.ref f8))) (l8 : K.lookup f8 = some ⟨oc8, od8, .func (PySem.W.fnOf "_law_parts" "_law_parts" (defArgs xParts) (defBody xParts) (defScope xParts) .none kV8 dc8 pm8 an8 cd8 ct8), sl8⟩) (q8 : PySem.W.codeIn K cd8 "_law_parts" = true) (k8 : PySem.W.keepIn K (.ref f8) = true)
    (a9 : PySem.W.nsIn K mainGlobals "_law_pattern" = some (some (.ref f9))) (l9 : K.lookup f9 = some ⟨oc9, od9, .func (PySem.W.fnOf "_law_pattern" "_law_pattern" (defArgs xPattern) (defBody xPattern) (defScope xPattern) .none kV9 dc9 pm9 an9 cd9 ct9), sl9⟩) (q9 : PySem.W.codeIn K cd9 "_law_pattern" = true) (k9 : PySem.W.keepIn K (.ref f9) = true)
    (a10 : PySem.W.nsIn K mainGlobals "_law_drawn" = some (some (.ref f10))) (l10 : K.lookup f10 = some ⟨oc10, od10, .func (PySem.W.fnOf "_law_drawn" "_law_drawn" (defArgs xDrawn) (defBody xDrawn) (defScope xDrawn) .none kV10 dc10 pm10 an10 cd10 ct10), sl10⟩) (q10 : PySem.W.codeIn K cd10 "_law_drawn" = true) (k10 : PySem.W.keepIn K (.ref f10) = true)
    (a11 : PySem.W.nsIn K mainGlobals "is_text" = some (some (.ref f11))) (l11 : K.lookup f11 = some ⟨oc11, od11, .func (PySem.W.fnOf "is_text" "is_text" (defArgs xText) (defBody xText) (defScope xText) .none kV11 dc11 pm11 an11 cd11 ct11), sl11⟩) (q11 : PySem.W.codeIn K cd11 "is_text" = true) (k11 : PySem.W.keepIn K (.ref f11) = true)
    (a12 : PySem.W.nsIn K mainGlobals "is_word" = some (some (.ref f12))) (l12 : K.lookup f12 = some ⟨oc12, od12, .func (PySem.W.fnOf "is_word" "is_word" (defArgs xWord) (defBody xWord) (defScope xWord) .none kV12 dc12 pm12 an12 cd12 ct12), sl12⟩) (q12 : PySem.W.codeIn K cd12 "is_word" = true) (k12 : PySem.W.keepIn K (.ref f12) = true)
    (a13 : PySem.W.nsIn K mainGlobals "are_rising_signs" = some (some (.ref f13))) (l13 : K.lookup f13 = some ⟨oc13, od13, .func (PySem.W.fnOf "are_rising_signs" "are_rising_signs" (defArgs xRising) (defBody xRising) (defScope xRising) .none kV13 dc13 pm13 an13 cd13 ct13), sl13⟩) (q13 : PySem.W.codeIn K cd13 "are_rising_signs" = true) (k13 : PySem.W.keepIn K (.ref f13) = true)
    (a14 : PySem.W.nsIn K mainGlobals "has_kind" = some (some (.ref f14))) (l14 : K.lookup f14 = some ⟨oc14, od14, .func (PySem.W.fnOf "has_kind" "has_kind" (defArgs xKind) (defBody xKind) (defScope xKind) .none kV14 dc14 pm14 an14 cd14 ct14), sl14⟩) (q14 : PySem.W.codeIn K cd14 "has_kind" = true) (k14 : PySem.W.keepIn K (.ref f14) = true)
    (a15 : PySem.W.nsIn K mainGlobals "is_make" = some (some (.ref f15))) (l15 : K.lookup f15 = some ⟨oc15, od15, .func (PySem.W.fnOf "is_make" "is_make" (defArgs xMake) (defBody xMake) (defScope xMake) .none kV15 dc15 pm15 an15 cd15 ct15), sl15⟩) (q15 : PySem.W.codeIn K cd15 "is_make" = true) (k15 : PySem.W.keepIn K (.ref f15) = true)
    (a16 : PySem.W.nsIn K mainGlobals "is_made_of_makes" = some (some (.ref f16))) (l16 : K.lookup f16 = some ⟨oc16, od16, .func (PySem.W.fnOf "is_made_of_makes" "is_made_of_makes" (defArgs xMade) (defBody xMade) (defScope xMade) .none kV16 dc16 pm16 an16 cd16 ct16), sl16⟩) (q16 : PySem.W.codeIn K cd16 "is_made_of_makes" = true) (k16 : PySem.W.keepIn K (.ref f16) = true)
    (a17 : PySem.W.nsIn K mainGlobals "is_pattern" = some (some (.ref f17))) (l17 : K.lookup f17 = some ⟨oc17, od17, .func (PySem.W.fnOf "is_pattern" "is_pattern" (defArgs xIsP) (defBody xIsP) (defScope xIsP) .none kV17 dc17 pm17 an17 cd17 ct17), sl17⟩) (q17 : PySem.W.codeIn K cd17 "is_pattern" = true) (k17 : PySem.W.keepIn K (.ref f17) = true)
    (a18 : PySem.W.nsIn K mainGlobals "can_be_blank" = some (some (.ref f18))) (l18 : K.lookup f18 = some ⟨oc18, od18, .func (PySem.W.fnOf "can_be_blank" "can_be_blank" (defArgs xBlank) (defBody xBlank) (defScope xBlank) .none kV18 dc18 pm18 an18 cd18 ct18), sl18⟩) (q18 : PySem.W.codeIn K cd18 "can_be_blank" = true) (k18 : PySem.W.keepIn K (.ref f18) = true)
    (a19 : PySem.W.nsIn K mainGlobals "has_texts" = some (some (.ref f19))) (l19 : K.lookup f19 = some ⟨oc19, od19, .func (PySem.W.fnOf "has_texts" "has_texts" (defArgs xHas) (defBody xHas) (defScope xHas) .none kV19 dc19 pm19 an19 cd19 ct19), sl19⟩) (q19 : PySem.W.codeIn K cd19 "has_texts" = true) (k19 : PySem.W.keepIn K (.ref f19) = true)
    (a20 : PySem.W.nsIn K mainGlobals "parts_of" = some (some (.ref f20))) (l20 : K.lookup f20 = some ⟨oc20, od20, .func (PySem.W.fnOf "parts_of" "parts_of" (defArgs xPartsOf) (defBody xPartsOf) (defScope xPartsOf) .none kV20 dc20 pm20 an20 cd20 ct20), sl20⟩) (q20 : PySem.W.codeIn K cd20 "parts_of" = true) (k20 : PySem.W.keepIn K (.ref f20) = true)
    (a21 : PySem.W.nsIn K mainGlobals "depth_of" = some (some (.ref f21))) (l21 : K.lookup f21 = some ⟨oc21, od21, .func (PySem.W.fnOf "depth_of" "depth_of" (defArgs xDepth) (defBody xDepth) (defScope xDepth) .none kV21 dc21 pm21 an21 cd21 ct21), sl21⟩) (q21 : PySem.W.codeIn K cd21 "depth_of" = true) (k21 : PySem.W.keepIn K (.ref f21) = true)
    (a22 : PySem.W.nsIn K mainGlobals "signs_of" = some (some (.ref f22))) (l22 : K.lookup f22 = some ⟨oc22, od22, .func (PySem.W.fnOf "signs_of" "signs_of" (defArgs xSignsOf) (defBody xSignsOf) (defScope xSignsOf) .none kV22 dc22 pm22 an22 cd22 ct22), sl22⟩) (q22 : PySem.W.codeIn K cd22 "signs_of" = true) (k22 : PySem.W.keepIn K (.ref f22) = true)
    (a23 : PySem.W.nsIn K mainGlobals "_law_joined" = some (some (.ref f23))) (l23 : K.lookup f23 = some ⟨oc23, od23, .func (PySem.W.fnOf "_law_joined" "_law_joined" (defArgs xJoined) (defBody xJoined) (defScope xJoined) .none kV23 dc23 pm23 an23 cd23 ct23), sl23⟩) (q23 : PySem.W.codeIn K cd23 "_law_joined" = true) (k23 : PySem.W.keepIn K (.ref f23) = true)
    (a24 : PySem.W.nsIn K mainGlobals "_law_bounded" = some (some (.ref f24))) (l24 : K.lookup f24 = some ⟨oc24, od24, .func (PySem.W.fnOf "_law_bounded" "_law_bounded" (defArgs xBounded) (defBody xBounded) (defScope xBounded) .none kV24 dc24 pm24 an24 cd24 ct24), sl24⟩) (q24 : PySem.W.codeIn K cd24 "_law_bounded" = true) (k24 : PySem.W.keepIn K (.ref f24) = true)
    (a25 : PySem.W.nsIn K mainGlobals "_law_right" = some (some (.ref f25))) (l25 : K.lookup f25 = some ⟨oc25, od25, .func (PySem.W.fnOf "_law_right" "_law_right" (defArgs xRight) (defBody xRight) (defScope xRight) .none kV25 dc25 pm25 an25 cd25 ct25), sl25⟩) (q25 : PySem.W.codeIn K cd25 "_law_right" = true) (k25 : PySem.W.keepIn K (.ref f25) = true)
    (a26 : PySem.W.nsIn K mainGlobals "law" = some (some (.ref f26))) (l26 : K.lookup f26 = some ⟨oc26, od26, .func (PySem.W.fnOf "law" "law" (defArgs xLaw) (defBody xLaw) (defScope xLaw) .none kV26 dc26 pm26 an26 cd26 ct26), sl26⟩) (q26 : PySem.W.codeIn K cd26 "law" = true) (k26 : PySem.W.keepIn K (.ref f26) = true)
    (m0 : PySem.W.nsIn K mainGlobals "LETTERS" = some (some (.str sLET tLET)))
    (m1 : PySem.W.nsIn K mainGlobals "SIGNS" = some (some (.str sSIG tSIG)))
    (m2 : PySem.W.nsIn K mainGlobals "LONGEST_WORD" = some (some (.int nLW tLW)))
    (m3 : PySem.W.nsIn K mainGlobals "DEEPEST" = some (some (.int nDE tDE)))
    (m4 : PySem.W.nsIn K mainGlobals "MOST_MAKES" = some (some (.int nMM tMM)))
    (m5 : PySem.W.nsIn K mainGlobals "FEWEST_PARTS" = some (some (.int nFP tFP)))
    (m6 : PySem.W.nsIn K mainGlobals "MOST_PARTS" = some (some (.int nMP tMP)))
    (m7 : PySem.W.nsIn K mainGlobals "HIGHEST_PRICE" = some (some (.int nHP tHP)))
    (mL : PySem.W.nsIn K mainGlobals "LENGTHS" = some (some (.ref dL))) (nL : K.lookup dL = some oL) (hL : LenO l.prog w oL lenL) (sL : (dL == sysModules) = false) (eLET : sLET = LET) (eSIG : sSIG = SIG) (eLW : nLW = 8) (eDE : nDE = 9) (eMM : nMM = 40) (eFP : nFP = 2) (eMP : nMP = 6) (eHP : nHP = 1000) (zb : bnB K = true) :
    ∃ fd : FuncData, (∀ (s : Shared) (v : Value), BindsTo s fd ⟨[v], []⟩ [("script", v)]) ∧ ∀ base : Heap, K.In base → base.Ns mainGlobals mg → FnOk l.prog w K mg base CX0 31 fa fd ["script"] (spL K spLaw) := by
  have e := hfa.symm.trans (PySem.W.mg_of X G a26)
  cases e
  have B := bn_of X G zb
  have F1 := fun_mk (st := xInner) l1 q1 k1
  have F2 := fun_mk (st := xMakes) l2 q2 k2
  have F3 := fun_mk (st := xWhole) l3 q3 k3
  have F4 := fun_mk (st := xPool) l4 q4 k4
  have F5 := fun_mk (st := xNext) l5 q5 k5
  have F6 := fun_mk (st := xLetters) l6 q6 k6
  have F7 := fun_mk (st := xLeaf) l7 q7 k7
  have F8 := fun_mk (st := xParts) l8 q8 k8
  have F9 := fun_mk (st := xPattern) l9 q9 k9
  have F10 := fun_mk (st := xDrawn) l10 q10 k10
  have F11 := fun_mk (st := xText) l11 q11 k11
  have F12 := fun_mk (st := xWord) l12 q12 k12
  have F13 := fun_mk (st := xRising) l13 q13 k13
  have F14 := fun_mk (st := xKind) l14 q14 k14
  have F15 := fun_mk (st := xMake) l15 q15 k15
  have F16 := fun_mk (st := xMade) l16 q16 k16
  have F17 := fun_mk (st := xIsP) l17 q17 k17
  have F18 := fun_mk (st := xBlank) l18 q18 k18
  have F19 := fun_mk (st := xHas) l19 q19 k19
  have F20 := fun_mk (st := xPartsOf) l20 q20 k20
  have F21 := fun_mk (st := xDepth) l21 q21 k21
  have F22 := fun_mk (st := xSignsOf) l22 q22 k22
  have F23 := fun_mk (st := xJoined) l23 q23 k23
  have F24 := fun_mk (st := xBounded) l24 q24 k24
  have F25 := fun_mk (st := xRight) l25 q25 k25
  have F26 := fun_mk (st := xLaw) l26 q26 k26
  have b1 := F1.binds (ps := ["pattern"]) fun _ _ _ _ _ _ us hl => match us, hl with | [_], _ => rfl
  have g1 := PySem.W.mg_of X G a1
  have b2 := F2.binds (ps := ["pattern"]) fun _ _ _ _ _ _ us hl => match us, hl with | [_], _ => rfl
  have g2 := PySem.W.mg_of X G a2
  have b3 := F3.binds (ps := ["thing"]) fun _ _ _ _ _ _ us hl => match us, hl with | [_], _ => rfl
  have g3 := PySem.W.mg_of X G a3
  have b4 := F4.binds (ps := ["cell"]) fun _ _ _ _ _ _ us hl => match us, hl with | [_], _ => rfl
  have g4 := PySem.W.mg_of X G a4
  have b5 := F5.binds (ps := ["pool", "base"]) fun _ _ _ _ _ _ us hl => match us, hl with | [_, _], _ => rfl
  have g5 := PySem.W.mg_of X G a5
  have b6 := F6.binds (ps := ["pool"]) fun _ _ _ _ _ _ us hl => match us, hl with | [_], _ => rfl
  have g6 := PySem.W.mg_of X G a6
  have b7 := F7.binds (ps := ["pool", "letters", "blank"]) fun _ _ _ _ _ _ us hl => match us, hl with | [_, _, _], _ => rfl
  have g7 := PySem.W.mg_of X G a7
  have b8 := F8.binds (ps := ["pool", "letters", "deep", "room", "blanks_let"]) fun _ _ _ _ _ _ us hl => match us, hl with | [_, _, _, _, _], _ => rfl
  have g8 := PySem.W.mg_of X G a8
  have b9 := F9.binds (ps := ["pool", "letters", "deep", "room", "blank"]) fun _ _ _ _ _ _ us hl => match us, hl with | [_, _, _, _, _], _ => rfl
  have g9 := PySem.W.mg_of X G a9
  have b10 := F10.binds (ps := ["pool", "deepest"]) fun _ _ _ _ _ _ us hl => match us, hl with | [_, _], _ => rfl
  have g10 := PySem.W.mg_of X G a10
  have b11 := F11.binds (ps := ["thing"]) fun _ _ _ _ _ _ us hl => match us, hl with | [_], _ => rfl
  have g11 := PySem.W.mg_of X G a11
  have b12 := F12.binds (ps := ["thing"]) fun _ _ _ _ _ _ us hl => match us, hl with | [_], _ => rfl
  have g12 := PySem.W.mg_of X G a12
  have b13 := F13.binds (ps := ["thing"]) fun _ _ _ _ _ _ us hl => match us, hl with | [_], _ => rfl
  have g13 := PySem.W.mg_of X G a13
  have b14 := F14.binds (ps := ["thing"]) fun _ _ _ _ _ _ us hl => match us, hl with | [_], _ => rfl
  have g14 := PySem.W.mg_of X G a14
  have b15 := F15.binds (ps := ["thing"]) fun _ _ _ _ _ _ us hl => match us, hl with | [_], _ => rfl
  have g15 := PySem.W.mg_of X G a15
  have b16 := F16.binds (ps := ["thing"]) fun _ _ _ _ _ _ us hl => match us, hl with | [_], _ => rfl
  have g16 := PySem.W.mg_of X G a16
  have b17 := F17.binds (ps := ["thing"]) fun _ _ _ _ _ _ us hl => match us, hl with | [_], _ => rfl
  have g17 := PySem.W.mg_of X G a17
  have b18 := F18.binds (ps := ["pattern"]) fun _ _ _ _ _ _ us hl => match us, hl with | [_], _ => rfl
  have g18 := PySem.W.mg_of X G a18
  have b19 := F19.binds (ps := ["pattern"]) fun _ _ _ _ _ _ us hl => match us, hl with | [_], _ => rfl
  have g19 := PySem.W.mg_of X G a19
  have b20 := F20.binds (ps := ["pattern"]) fun _ _ _ _ _ _ us hl => match us, hl with | [_], _ => rfl
  have g20 := PySem.W.mg_of X G a20
  have b21 := F21.binds (ps := ["pattern"]) fun _ _ _ _ _ _ us hl => match us, hl with | [_], _ => rfl
  have g21 := PySem.W.mg_of X G a21
  have b22 := F22.binds (ps := ["pattern"]) fun _ _ _ _ _ _ us hl => match us, hl with | [_], _ => rfl
  have g22 := PySem.W.mg_of X G a22
  have b23 := F23.binds (ps := ["parts"]) fun _ _ _ _ _ _ us hl => match us, hl with | [_], _ => rfl
  have g23 := PySem.W.mg_of X G a23
  have b24 := F24.binds (ps := ["word", "parts"]) fun _ _ _ _ _ _ us hl => match us, hl with | [_, _], _ => rfl
  have g24 := PySem.W.mg_of X G a24
  have b25 := F25.binds (ps := ["whole", "parts"]) fun _ _ _ _ _ _ us hl => match us, hl with | [_, _], _ => rfl
  have g25 := PySem.W.mg_of X G a25
  have x0 := PySem.W.mg_of X G m0
  have x1 := PySem.W.mg_of X G m1
  have x2 := PySem.W.mg_of X G m2
  have x3 := PySem.W.mg_of X G m3
  have x4 := PySem.W.mg_of X G m4
  have x5 := PySem.W.mg_of X G m5
  have x6 := PySem.W.mg_of X G m6
  have x7 := PySem.W.mg_of X G m7
  refine ⟨PySem.W.fnOf "law" "law" (defArgs xLaw) (defBody xLaw) (defScope xLaw) .none kV26 dc26 pm26 an26 cd26 ct26, fun s v => .of_eq rfl, fun base _ _ => ?_⟩
  have D := len_get hL nL sL
  have xL := PySem.W.mg_of X G mL
  cases eLET; cases eSIG; cases eLW; cases eDE; cases eMM; cases eFP; cases eMP; cases eHP
  have C1 : Cal2 l.prog w K mg base 1 "inner_patterns" f1 _ ["pattern"] spInner := ⟨ok_inner F1 B, b1, k1, g1⟩
  have C1v : Cal2 l.prog w K mg base 1 "inner_patterns" f1 _ ["pattern"] spInnerV := ⟨ok_innerV F1 B, b1, k1, g1⟩
  have C2 : Cal2 l.prog w K mg base 2 "makes_of" f2 _ ["pattern"] spMakes := ⟨ok_makes F2 B C1, b2, k2, g2⟩
  have C3 : Cal2 l.prog w K mg base 1 "is_whole" f3 _ ["thing"] spWhole := ⟨ok_whole F3 B, b3, k3, g3⟩
  have C4 : Cal2 l.prog w K mg base 1 "_law_pool" f4 _ ["cell"] spPool := ⟨ok_pool F4 B, b4, k4, g4⟩
  have C5 : Cal2 l.prog w K mg base 1 "_law_next" f5 _ ["pool", "base"] spNext := ⟨ok_next F5 B, b5, k5, g5⟩
  have C6 : Cal2 l.prog w K mg base 2 "_law_letters" f6 _ ["pool"] spLetters := ⟨ok_letters F6 B C5, b6, k6, g6⟩
  have C7 : Cal2 l.prog w K mg base 2 "_law_leaf" f7 _ ["pool", "letters", "blank"] spLeaf := ⟨ok_leaf F7 B C5, b7, k7, g7⟩
  have C9 : ∀ n : Nat, Cal2 l.prog w K mg base (2 * n + 2) "_law_pattern" f9 (PySem.W.fnOf "_law_pattern" "_law_pattern" (defArgs xPattern) (defBody xPattern) (defScope xPattern) .none kV9 dc9 pm9 an9 cd9 ct9) ["pool", "letters", "deep", "room", "blank"] (spPattern n) := by
    intro n
    induction n with
    | zero => exact ⟨never_ok fun as G Q h => by obtain ⟨_, _, _, d, _, _, _, hd, _⟩ := h; omega, b9, k9, g9⟩
    | succ n ih => exact ⟨ok_pattern (k := 2 * n + 2) (by omega) F9 B C5 C7 ih ⟨ok_parts F8 B ih, b8, k8, g8⟩, b9, k9, g9⟩
  have C10 : Cal2 l.prog w K mg base 23 "_law_drawn" f10 _ ["pool", "deepest"] spDrawn := ⟨ok_drawn (k := 22) (by decide) F10 B C5 C6 (C9 10), b10, k10, g10⟩
  have C11 : Cal2 l.prog w K mg base 1 "is_text" f11 _ ["thing"] spText := ⟨ok_text x1 F11 B, b11, k11, g11⟩
  have C12 : Cal2 l.prog w K mg base 1 "is_word" f12 _ ["thing"] spWord := ⟨ok_word x0 x2 F12 B, b12, k12, g12⟩
  have C13 : Cal2 l.prog w K mg base 2 "are_rising_signs" f13 _ ["thing"] spRising := ⟨ok_rising F13 B C11, b13, k13, g13⟩
  have C14 : Cal2 l.prog w K mg base 1 "has_kind" f14 _ ["thing"] spKind := ⟨ok_kind D xL F14 B, b14, k14, g14⟩
  have C15 : Cal2 l.prog w K mg base 3 "is_make" f15 _ ["thing"] spMake := ⟨ok_make x5 x6 x7 F15 B C14 C13 C12 C3, b15, k15, g15⟩
  have C16 : Cal2 l.prog w K mg base 4 "is_made_of_makes" f16 _ ["thing"] spMade := ⟨ok_made x3 x4 F16 B C15 C1v, b16, k16, g16⟩
  have C18 : ∀ n : Nat, Cal2 l.prog w K mg base (n + 1) "can_be_blank" f18 (PySem.W.fnOf "can_be_blank" "can_be_blank" (defArgs xBlank) (defBody xBlank) (defScope xBlank) .none kV18 dc18 pm18 an18 cd18 ct18) ["pattern"] (spBlank n) := by
    intro n
    induction n with
    | zero => exact ⟨never_ok fun as G Q h => by obtain ⟨_, _, hd, _⟩ := h; omega, b18, k18, g18⟩
    | succ n ih => exact ⟨ok_blank (k := n + 1) (by omega) F18 B C1 ih, b18, k18, g18⟩
  have C17 : Cal2 l.prog w K mg base 23 "is_pattern" f17 _ ["thing"] spIsP := ⟨ok_isp (k := 22) (by decide) F17 B C16 C2 (C18 21), b17, k17, g17⟩
  have C19 : ∀ n : Nat, Cal2 l.prog w K mg base (n + 1) "has_texts" f19 (PySem.W.fnOf "has_texts" "has_texts" (defArgs xHas) (defBody xHas) (defScope xHas) .none kV19 dc19 pm19 an19 cd19 ct19) ["pattern"] (spHas n) := by
    intro n
    induction n with
    | zero => exact ⟨never_ok fun as G Q h => by obtain ⟨_, _, hd, _⟩ := h; omega, b19, k19, g19⟩
    | succ n ih => exact ⟨ok_has (k := n + 1) (by omega) F19 B C1 ih, b19, k19, g19⟩
  have C20 : Cal2 l.prog w K mg base 3 "parts_of" f20 _ ["pattern"] spPartsOf := ⟨ok_partsof F20 B C1 C2, b20, k20, g20⟩
  have C21 : ∀ n : Nat, Cal2 l.prog w K mg base (n + 1) "depth_of" f21 (PySem.W.fnOf "depth_of" "depth_of" (defArgs xDepth) (defBody xDepth) (defScope xDepth) .none kV21 dc21 pm21 an21 cd21 ct21) ["pattern"] (spDepth n) := by
    intro n
    induction n with
    | zero => exact ⟨never_ok fun as G Q h => by obtain ⟨_, _, hd, _⟩ := h; omega, b21, k21, g21⟩
    | succ n ih => exact ⟨ok_depth (k := n + 1) (by omega) F21 B C1 ih, b21, k21, g21⟩
  have C22 : Cal2 l.prog w K mg base 3 "signs_of" f22 _ ["pattern"] spSignsOf := ⟨ok_signsOf F22 B C2, b22, k22, g22⟩
  have C23 : Cal2 l.prog w K mg base 4 "_law_joined" f23 _ ["parts"] spJoined := ⟨ok_joined F23 B C20, b23, k23, g23⟩
  have C24 : Cal2 l.prog w K mg base 23 "_law_bounded" f24 _ ["word", "parts"] spBounded := ⟨ok_bounded (k := 22) (by decide) F24 B C2 (C18 21) (C21 21), b24, k24, g24⟩
  have C25 : Cal2 l.prog w K mg base 24 "_law_right" f25 _ ["whole", "parts"] spRight := ⟨ok_right (k := 23) (by decide) F25 B C24 C17 (C18 21) (C19 21) C2 C20 C23 (C21 21) C22, b25, k25, g25⟩
  exact ok_law (k := 30) (by decide) F26 B C4 C5 C10 C25
theorem fz_of {K : PySem.W.Frag} {H : Hp} {a : Addr} {xs : List V} (h : SqL K H a xs) (o : Only H) : FzL K H a xs := by
  rcases h with (h | ⟨ob, h⟩) | h
  · rcases o a with e | ⟨ob, ys, e⟩ <;> (rw [e] at h; cases h)
  · exact .inl ⟨ob, h⟩
  · exact .inr h
theorem walk {l : PySem.W.OpenLaw} {q : Program} {loose : List Str} {XP : (Str → Option Value) → Heap → Prop} {YP : World → Heap → Prop} {d : DefRec} {K : Params → PySem.W.Frag} (hn : l.most = some 63) (hdf : d.params.defaults = [])
    (hY : ∀ (w : World) (h : Heap), YP w h → (K w.params).In h)
    (F : ∀ (w : World) (mg : Str → Option Value) (fa : Addr) (h : Heap), (K w.params).In h → h.Ns mainGlobals mg → mg d.name = some (.ref fa) →
      ∃ fd : FuncData, (∀ (s : Shared) (u : Value), BindsTo s fd ⟨[u], []⟩ [("script", u)]) ∧ ∀ base : Heap, (K w.params).In base → base.Ns mainGlobals mg → FnOk l.prog w (K w.params) mg base CX0 31 fa fd ["script"] (spL (K w.params) spLaw)) :
    PySem.W.WalkO q loose XP YP l.row.toRowW d [] (fun f vs => PySem.call f vs) :=
  L2.walk_of (n := 63) (k := 31) (x := "script") (CX := fun _ => CX0) (sp := fun w => spL (K w.params) spLaw) hn (by decide) hdf ⟨rfl, by decide, by decide⟩ hY F
    (fun _ H a ns hl ho hS => ⟨[.ro (ns.map PV.int)], fun _ => none, fun p _ => p = .bl true, .cons ⟨a, _, rfl, fz_of hS ho, ints_Dm ns⟩ .nil, fun _ _ z => (nomatch z), ⟨ns, rfl, hl, fun _ => rfl⟩, fun p G v H' e d _ _ => by subst e; exact d⟩) fun _ _ _ _ _ z => z
end T07
open PySem PySem.W PyProof.Rows
set_option maxRecDepth 100000 in
set_option maxHeartbeats 0 in
theorem PySem.Challenge.cw_tastegrove_k07_whole_patterns_put_togeth_holds : PySem.Challenge.rw_tastegrove_k07_whole_patterns_put_togeth.Holds := by
  w_on; o_law; k_head; (case hw => w_witness2)
  k_fill
  refine T07.walk (l := PySem.Challenge.rw_tastegrove_k07_whole_patterns_put_togeth) rfl rfl (fun w h Y => PySem.W.kIn_of Y) ?F
  case F =>
    intro w mg fa h KX G hmg
    refine' T07.all_mk KX G hmg ?a1 ?l1 ?q1 ?k1 ?a2 ?l2 ?q2 ?k2 ?a3 ?l3 ?q3 ?k3 ?a4 ?l4 ?q4 ?k4 ?a5 ?l5 ?q5 ?k5 ?a6 ?l6 ?q6 ?k6 ?a7 ?l7 ?q7 ?k7 ?a8 ?l8 ?q8 ?k8 ?a9 ?l9 ?q9 ?k9 ?a10 ?l10 ?q10 ?k10 ?a11 ?l11 ?q11 ?k11 ?a12 ?l12 ?q12 ?k12 ?a13 ?l13 ?q13 ?k13 ?a14 ?l14 ?q14 ?k14 ?a15 ?l15 ?q15 ?k15 ?a16 ?l16 ?q16 ?k16 ?a17 ?l17 ?q17 ?k17 ?a18 ?l18 ?q18 ?k18 ?a19 ?l19 ?q19 ?k19 ?a20 ?l20 ?q20 ?k20 ?a21 ?l21 ?q21 ?k21 ?a22 ?l22 ?q22 ?k22 ?a23 ?l23 ?q23 ?k23 ?a24 ?l24 ?q24 ?k24 ?a25 ?l25 ?q25 ?k25 ?a26 ?l26 ?q26 ?k26 ?m0 ?m1 ?m2 ?m3 ?m4 ?m5 ?m6 ?m7 ?mL ?nL ?hL ?sL ?eLET ?eSIG ?eLW ?eDE ?eMM ?eFP ?eMP ?eHP ?zb
    (case a1 => k_is); (case l1 => k_is); (case q1 => k_is); (case k1 => k_is)
    (case a2 => k_is); (case l2 => k_is); (case q2 => k_is); (case k2 => k_is)
    (case a3 => k_is); (case l3 => k_is); (case q3 => k_is); (case k3 => k_is)
    (case a4 => k_is); (case l4 => k_is); (case q4 => k_is); (case k4 => k_is)
    (case a5 => k_is); (case l5 => k_is); (case q5 => k_is); (case k5 => k_is)
    (case a6 => k_is); (case l6 => k_is); (case q6 => k_is); (case k6 => k_is)
    (case a7 => k_is); (case l7 => k_is); (case q7 => k_is); (case k7 => k_is)
    (case a8 => k_is); (case l8 => k_is); (case q8 => k_is); (case k8 => k_is)
    (case a9 => k_is); (case l9 => k_is); (case q9 => k_is); (case k9 => k_is)
    (case a10 => k_is); (case l10 => k_is); (case q10 => k_is); (case k10 => k_is)
    (case a11 => k_is); (case l11 => k_is); (case q11 => k_is); (case k11 => k_is)
    (case a12 => k_is); (case l12 => k_is); (case q12 => k_is); (case k12 => k_is)
    (case a13 => k_is); (case l13 => k_is); (case q13 => k_is); (case k13 => k_is)
    (case a14 => k_is); (case l14 => k_is); (case q14 => k_is); (case k14 => k_is)
    (case a15 => k_is); (case l15 => k_is); (case q15 => k_is); (case k15 => k_is)
    (case a16 => k_is); (case l16 => k_is); (case q16 => k_is); (case k16 => k_is)
    (case a17 => k_is); (case l17 => k_is); (case q17 => k_is); (case k17 => k_is)
    (case a18 => k_is); (case l18 => k_is); (case q18 => k_is); (case k18 => k_is)
    (case a19 => k_is); (case l19 => k_is); (case q19 => k_is); (case k19 => k_is)
    (case a20 => k_is); (case l20 => k_is); (case q20 => k_is); (case k20 => k_is)
    (case a21 => k_is); (case l21 => k_is); (case q21 => k_is); (case k21 => k_is)
    (case a22 => k_is); (case l22 => k_is); (case q22 => k_is); (case k22 => k_is)
    (case a23 => k_is); (case l23 => k_is); (case q23 => k_is); (case k23 => k_is)
    (case a24 => k_is); (case l24 => k_is); (case q24 => k_is); (case k24 => k_is)
    (case a25 => k_is); (case l25 => k_is); (case q25 => k_is); (case k25 => k_is)
    (case a26 => k_is); (case l26 => k_is); (case q26 => k_is); (case k26 => k_is)
    (case m0 => k_is)
    (case m1 => k_is)
    (case m2 => k_is)
    (case m3 => k_is)
    (case m4 => k_is)
    (case m5 => k_is)
    (case m6 => k_is)
    (case m7 => k_is)
    (case mL => k_is); (case nL => k_is); (case sL => kernel_rfl)
    (case eLET => kernel_rfl); (case eSIG => kernel_rfl); (case eLW => kernel_rfl); (case eDE => kernel_rfl); (case eMM => kernel_rfl); (case eFP => kernel_rfl); (case eMP => kernel_rfl); (case eHP => kernel_rfl)
    (case zb => kernel_rfl)
    case hL =>
      refine ⟨⟨rfl, rfl, rfl⟩, _, _, rfl, ?_, ?_⟩
      · intro e he
        simp only [List.mem_toArray, List.mem_cons, List.not_mem_nil, or_false] at he
        rcases he with rfl | rfl | rfl | rfl | rfl | rfl | rfl | rfl <;> exact L3.key_ok _ _
      · exact ⟨⟨_, rfl⟩, ⟨_, rfl⟩, ⟨_, rfl⟩, ⟨_, rfl⟩, ⟨_, rfl⟩, ⟨_, rfl⟩, ⟨_, rfl⟩, ⟨_, rfl⟩, ⟨_, rfl⟩, ⟨_, rfl⟩, ⟨_, rfl⟩, ⟨_, rfl⟩, ⟨_, rfl⟩, ⟨_, rfl⟩, ⟨_, rfl⟩, ⟨_, rfl⟩, trivial⟩
