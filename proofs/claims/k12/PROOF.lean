import PyProof.Rows.All
import Wide.All
import OpenK.AllK
import Wide.FinOn
import Lean
import PyProof.EqAt
import PyProof.EqKinds
import PyProof.NeKinds
import PyProof.TupleCall
import PyProof.CollectStr
import PyProof.FactsAll.tuple
import PyProof.TupleIter
import PyProof.StrLawsIn
import PyProof.RaisesMany
import PySem.Challenge.RW_tastegrove_k12_whole_made_again_by_marks
set_option Elab.async false
set_option linter.all false
set_option maxRecDepth 100000
set_option compiler.extract_closed false
set_option genSizeOf false
namespace T12
open PySem
def top (i : Nat) : Stmt := PySem.Challenge.pw_tastegrove_k12_whole_made_again_by_marks.main.body.getD i (.Pass ⟨0, 0, 0, 0⟩)
abbrev pw : Program := PySem.Challenge.pw_tastegrove_k12_whole_made_again_by_marks
def vw : Program := { pw with main := { pw.main with body := [top 1, top 2, top 4, top 5, top 6, top 8, top 9, top 10, top 11, top 12, top 13, top 14, top 15, top 16, top 17, top 19, top 20, top 21, top 22, top 23, top 24, top 26, top 27, top 28, top 29, top 30, top 31, top 32, top 33, top 34, top 35, top 36, top 37, top 38, top 39, top 40, top 41, top 42] } }
theorem two_all {W α β γ : Type} {o : W → Option α} {f : W → α → β} {g : W → α → γ} {a : W → β} {b : W → γ} (h1 : ∀ w, (o w).map (f w) = some (a w)) (h2 : ∀ w, (o w).map (g w) = some (b w)) : ∀ w, (o w).map (fun x => (f w x, g w x)) = some (a w, b w) := fun w => by
  have h1 := h1 w
  have h2 := h2 w
  cases h : o w with
  | none => rw [h] at h1; cases h1
  | some x =>
    rw [h] at h1 h2
    simp only [Option.map_some, Option.some.injEq] at h1 h2 ⊢
    rw [h1, h2]
theorem in_all {W α β γ δ : Type} {o : W → Option α} {t : W → α → Option β} {f : W → β → γ} {g : W → β → δ} {a : W → γ} {b : W → δ} (h1 : ∀ w, (o w).map (fun s => (t w s).map (f w)) = some (some (a w))) (h2 : ∀ w, (o w).map (fun s => (t w s).map (g w)) = some (some (b w))) : ∀ w, (o w).map (fun s => (t w s).map fun x => (f w x, g w x)) = some (some (a w, b w)) := fun w => by
  have h1 := h1 w
  have h2 := h2 w
  cases h : o w with
  | none => rw [h] at h1; cases h1
  | some x =>
    rw [h] at h1 h2
    simp only [Option.map_some, Option.some.injEq] at h1 h2 ⊢
    cases h3 : t w x with
    | none => rw [h3] at h1; cases h1
    | some y =>
      rw [h3] at h1 h2
      simp only [Option.map_some, Option.some.injEq] at h1 h2 ⊢
      rw [h1, h2]
theorem helper {A B C : Prop} (f : A → B → C) (hw : A) (call : B) : C := f hw call
def q1 {A B C D W V : Prop} (_ : ((A ∧ B) ∧ (C ∧ D)) ∧ W → V) : Prop := A
def q2 {A B C D W V : Prop} (_ : ((A ∧ B) ∧ (C ∧ D)) ∧ W → V) : Prop := B
def q3 {A B C D W V : Prop} (_ : ((A ∧ B) ∧ (C ∧ D)) ∧ W → V) : Prop := C
def q4 {A B C D W V : Prop} (_ : ((A ∧ B) ∧ (C ∧ D)) ∧ W → V) : Prop := D
end T12
open PySem PySem.W PyProof.Rows in
local macro_rules | `(tactic| o_head $H) => `(tactic| (apply T12.helper (fun hw hc => holds_open (q := T12.vw) (loose := [PySem.Str.ofString "LENGTHS"]) (Xt := fun s => xlAt T12.vw [] s && recOk (RowW.records (OpenRow.toRowW (OpenLaw.row PySem.Challenge.rw_tastegrove_k12_whole_made_again_by_marks))) s) (XP := XL T12.vw []) (Yf := Hook.obs $H) (Ya := Hook.val $H) (YP := Hook.says $H) (N := 3934) (LeftO.of_split "special-get-raises" (T12.two_all (T12.in_all (And.left (And.left (And.left hc))) (And.right (And.left (And.left hc)))) (T12.in_all (And.left (And.right (And.left hc))) (And.right (And.right (And.left hc)))))) (Hook.of $H) (Hook.keeps $H) (fun s e => xl_of s (Bool.and_eq_true_iff.mp e).1) XL.keeps (by rfl) (by rfl) (by rfl) (fun s e => recFacts_of (Bool.and_eq_true_iff.mp e).2) (by rfl) (by first | assumption | decide +kernel) (by decide +kernel) ⟨rfl, rfl, rfl, rfl, rfl, by decide +kernel⟩ hw (And.right hc))))
open PySem PySem.W PyProof.Rows in
set_option maxHeartbeats 0 in
open_top T12.tp for PySem.Challenge.rw_tastegrove_k12_whole_made_again_by_marks
set_option maxHeartbeats 0 in
theorem T12.h1 : T12.q1 @T12.tp := by
  unfold T12.q1
  intro w
  kernel_rfl
set_option maxHeartbeats 0 in
theorem T12.h2 : T12.q2 @T12.tp := by
  unfold T12.q2
  intro w
  kernel_rfl
set_option maxHeartbeats 0 in
theorem T12.h3 : T12.q3 @T12.tp := by
  unfold T12.q3
  intro w
  kernel_rfl
set_option maxHeartbeats 0 in
theorem T12.h4 : T12.q4 @T12.tp := by
  unfold T12.q4
  intro w
  kernel_rfl
namespace L2
open PySem PySem.Spec PyProof.Rows
noncomputable abbrev Key := Sum Int Str
noncomputable def keyIs : Key → Value → Bool
  | .inl k, v => Value.isInt k v
  | .inr x, v => Value.isStrOf x v
noncomputable def keyH (w : World) : Key → Int
  | .inl k => hashInt k
  | .inr x => hashStr w x
theorem keyIs_shape : ∀ {k : Key} {v : Value}, keyIs k v = true → (∃ i t, k = Sum.inl i ∧ v = Value.int i t) ∨ (∃ x t, k = Sum.inr x ∧ v = Value.str x t)
  | .inl i, v, h => by
    obtain ⟨t, e⟩ := Value.isInt_shape (k := i) (v := v) h
    exact .inl ⟨i, t, rfl, e⟩
  | .inr x, v, h => by
    obtain ⟨t, e⟩ := Value.isStrOf_shape (x := x) (v := v) h
    exact .inr ⟨x, t, rfl, e⟩
theorem key_ll (a b : Int) : decide ((Sum.inl a : Key) = Sum.inl b) = (a == b) := by
  by_cases e : a = b
  · subst e; simp
  · have h : ¬ (Sum.inl a : Key) = Sum.inl b := fun q => e (Sum.inl.inj q)
    rw [decide_eq_false h]
    exact (beq_eq_false_iff_ne.mpr e).symm
theorem key_rr (a b : Str) : decide ((Sum.inr a : Key) = Sum.inr b) = decide (a = b) := by
  by_cases e : a = b
  · subst e; simp
  · have h : ¬ (Sum.inr a : Key) = Sum.inr b := fun q => e (Sum.inr.inj q)
    rw [decide_eq_false h, decide_eq_false e]
theorem key_lr (a : Int) (b : Str) : decide ((Sum.inl a : Key) = Sum.inr b) = false := decide_eq_false (fun q => nomatch q)
theorem key_rl (a : Str) (b : Int) : decide ((Sum.inr a : Key) = Sum.inl b) = false := decide_eq_false (fun q => nomatch q)
noncomputable def mixKind (prog : Program) (w : World) : PySem.KeyKind prog w Key where
  is := keyIs
  hash := keyH w
  inj := fun v a b ha hb => by
    rcases keyIs_shape ha with ⟨i, t, rfl, rfl⟩ | ⟨x, t, rfl, rfl⟩
    · rcases keyIs_shape hb with ⟨j, u, rfl, e⟩ | ⟨y, u, rfl, e⟩
      · injection e with e1 _; rw [e1]
      · exact nomatch e
    · rcases keyIs_shape hb with ⟨j, u, rfl, e⟩ | ⟨y, u, rfl, e⟩
      · exact nomatch e
      · injection e with e1 _; rw [e1]
  byValue := fun k v h => by
    rcases keyIs_shape h with ⟨i, t, rfl, rfl⟩ | ⟨x, t, rfl, rfl⟩ <;> rfl
  pyHash := fun hv h => by
    rcases keyIs_shape hv with ⟨i, t, rfl, rfl⟩ | ⟨x, t, rfl, rfl⟩
    · exact wpAny_pyHash_int h
    · exact wpAny_pyHash_str h
  eqBool := fun hu hv h => by
    rcases keyIs_shape hu with ⟨i, t, rfl, rfl⟩ | ⟨x, t, rfl, rfl⟩
    · rcases keyIs_shape hv with ⟨j, u, rfl, rfl⟩ | ⟨y, u, rfl, rfl⟩
      · rw [key_ll] at h; exact wpAny_eqBool_int h
      · rw [key_lr] at h; exact SeqAt.EqAt.int_str i t y u _ _ _ _ h
    · rcases keyIs_shape hv with ⟨j, u, rfl, rfl⟩ | ⟨y, u, rfl, rfl⟩
      · rw [key_rl] at h; exact SeqAt.EqAt.str_int x t j u _ _ _ _ h
      · rw [key_rr] at h; exact wpAny_eqBool_str h
  «strs» := fun k x t v h => by
    rcases keyIs_shape h with ⟨i, u, rfl, e⟩ | ⟨y, u, rfl, e⟩
    · exact nomatch e
    · injection e with e1 _
      subst e1
      cases v <;> rfl
end L2
namespace L2
open PySem PySem.Spec PyProof.Rows
inductive V where
  | non | bl (b : Bool) | int (i : Int) | str (x : Str) | byt (b : Array UInt8) | flt (b : UInt64) | ref (a : Addr) | ty (n : String)
  deriving DecidableEq
noncomputable def RelV : V → Value → Prop
  | .non, u => u = Value.none
  | .bl b, u => u = Value.bool b
  | .int i, u => ∃ t, u = Value.int i t
  | .str x, u => ∃ t, u = Value.str x t
  | .byt b, u => ∃ t, u = Value.bytes b t
  | .flt b, u => ∃ t, u = Value.float b t
  | .ref a, u => u = Value.ref a
  | .ty n, u => u = Value.type n
noncomputable abbrev Vals : List V → List Value → Prop := Paired RelV
theorem Vals.length {xs : List V} {us : List Value} (r : Vals xs us) : xs.length = us.length := Paired.length r
theorem Vals.get : ∀ {xs : List V} {us : List Value} {i : Nat} {x : V}, Vals xs us → xs[i]? = some x → ∃ u, us[i]? = some u ∧ RelV x u
  | _, _, _, _, .nil, e => by simp at e
  | _, _, 0, _, .cons r _, e => by simp at e; subst e; exact ⟨_, rfl, r⟩
  | _, _, i + 1, x, .cons _ t, e => by
    obtain ⟨u, h1, h2⟩ := Vals.get (i := i) (x := x) t (by simpa using e)
    exact ⟨u, by simpa using h1, h2⟩
theorem Vals.set {x : V} {u : Value} (r : RelV x u) : ∀ {xs : List V} {us : List Value} (i : Nat), Vals xs us → Vals (xs.set i x) (us.set i u)
  | _, _, _, .nil => .nil
  | _, _, 0, .cons _ t => .cons r t
  | _, _, i + 1, .cons q t => .cons q (Vals.set r i t)
theorem Vals.append : ∀ {xs ys : List V} {us ws : List Value}, Vals xs us → Vals ys ws → Vals (xs ++ ys) (us ++ ws)
  | _, _, _, _, .nil, s => s
  | _, _, _, _, .cons r t, s => .cons r (Vals.append t s)
theorem Vals.take : ∀ {xs : List V} {us : List Value} (n : Nat), Vals xs us → Vals (xs.take n) (us.take n)
  | _, _, 0, _ => .nil
  | _, _, _ + 1, .nil => .nil
  | _, _, n + 1, .cons r t => .cons r (Vals.take n t)
theorem Vals.drop : ∀ {xs : List V} {us : List Value} (n : Nat), Vals xs us → Vals (xs.drop n) (us.drop n)
  | _, _, 0, r => r
  | _, _, _ + 1, .nil => .nil
  | _, _, n + 1, .cons _ t => Vals.drop n t
noncomputable def RelO : Option V → Option Value → Prop
  | some v, some u => RelV v u
  | none, none => True
  | _, _ => False
noncomputable def KV {κ : Type} : List (κ × V) → List (κ × Value) → Prop := Paired fun (p : κ × V) (q : κ × Value) => p.1 = q.1 ∧ RelV p.2 q.2
noncomputable def kV : Key → V
  | .inl i => .int i
  | .inr x => .str x
inductive HO where
    | lst (xs : List V)
    | tup (xs : List V)
    | dK (kvs : List (Key × V)) | dT (kvs : List (List Key × V))
    | set (S : Int → Bool) (n : Nat)
    | ins (C dx : Addr) (fs : List (Str × V))
    | own (x : Addr)
    | xd (fs : List (Str × V))
    | met (f x : Addr)
    | rng (lo hi : Int)
    | frz (o : Obj) (u : HO)
    | tbl (ps : Array Value)
    | ext (φ : Heap → Prop)
noncomputable abbrev Hp := Addr → Option HO
noncomputable def upd (H : Hp) (a : Addr) (o : HO) : Hp := fun b => if b = a then some o else H b
theorem upd_same {H : Hp} {a : Addr} {o : HO} : upd H a o a = some o := by unfold upd; rw [if_pos rfl]
theorem upd_ne {H : Hp} {a b : Addr} {o : HO} (h : b ≠ a) : upd H a o b = H b := by unfold upd; rw [if_neg h]
theorem ne_of_none {H : Hp} {a b : Addr} {o : HO} (h : H a = some o) (h' : H b = none) : a ≠ b := by
  intro e; subst e; rw [h] at h'; cases h'
section
variable (P : Program) (w : World)
noncomputable def ObjOk (H : Hp) (h : Heap) (a : Addr) : HO → Prop
  | .lst xs => xs.length ≤ sizeLine ∧ ∃ (its : List Value) (n : Nat), Vals xs its ∧ h.get? a = some { cls := .type "list", data := .seq its.toArray n }
  | .tup xs => xs.length ≤ sizeLine ∧ ∃ its : List Value, Vals xs its ∧ IsTup h a its.toArray
  | .dK kvs => kvs.length ≤ sizeLine ∧ (a == sysModules) = false ∧ ∃ vs, KV kvs vs ∧ h.DictOf (mixKind P w) a vs
  | .dT kvs => kvs.length ≤ sizeLine ∧ (a == sysModules) = false ∧ ∃ xs : List (List Key × Addr × Value),
      Paired (fun (p : List Key × V) (q : List Key × Addr × Value) => p.1 = q.1 ∧ H q.2.1 = some (.tup (p.1.map kV)) ∧ RelV p.2 q.2.2) kvs xs ∧
      ∃ o es ep, h.get? a = some o ∧ o.ExactDict ∧ o.data = .dict es ep ∧ es.toList = xs.map (entryOfKey (tupleKind (mixKind P w))) ∧ (xs.map (·.1)).Nodup
  | .set S n => h.SetOf (intKind P w) a S n
  | .ins C dx fs => H dx = some (.own a) ∧ fs.length ≤ 1000 ∧ dx ≠ a ∧ h.get? a = some (PySem.W.instObj C dx) ∧
      ∃ mA, h.Ns1 dx mA ∧ (∀ f, RelO (fs.lookup f) (mA f)) ∧ PySem.Within mA (fs.map (·.1))
  | .own _ => ∃ o, h.get? a = some o
  | .xd fs => ∃ mA, h.Ns1 a mA ∧ ∀ f, RelO (fs.lookup f) (mA f)
  | .rng lo hi => ∃ t u v, h.get? a = some { cls := .type "range", data := .fields #[.int lo t, .int hi u, .int 1 v] }
  | .frz o u => h.get? a = some o ∧ ObjOk H h a u
  | .tbl ps => h.get? a = some { cls := .none, data := .fields ps }
  | .met f x => h.get? a = some (PySem.W.methodObj (.ref f) (.ref x))
  | .ext φ => φ h ∧ (∃ o, h.get? a = some o) ∧ ∀ h1 h2 : Heap, φ h1 → (∀ o, h1.get? a = some o → h2.get? a = some o) → φ h2
noncomputable def HOk (H : Hp) (h : Heap) : Prop := ∀ a o, H a = some o → ObjOk P w H h a o
end
section
variable {P : Program} {w : World} {H H' : Hp} {h h' : Heap} {a : Addr} {o : HO}
theorem ObjOk.lt (x : ObjOk P w H h a o) : a < h.objs.size := by
  cases o with
  | lst xs => obtain ⟨_, _, _, _, e⟩ := x; exact Heap.lt_size e
  | tup xs => obtain ⟨_, _, _, p⟩ := x; exact p.lt
  | dK kvs => obtain ⟨_, _, _, _, o, _, _, e, _⟩ := x; exact Heap.lt_size e
  | dT kvs => obtain ⟨_, _, _, _, o, _, _, e, _⟩ := x; exact Heap.lt_size e
  | set S n => obtain ⟨o, _, _, _, e, _⟩ := x; exact Heap.lt_size e
  | ins C dx fs => obtain ⟨_, _, _, e, _⟩ := x; exact Heap.lt_size e
  | own y => obtain ⟨_, e⟩ := x; exact Heap.lt_size e
  | xd fs => obtain ⟨_, ⟨_, _, _, e, _⟩, _⟩ := x; exact Heap.lt_size e
  | rng lo hi => obtain ⟨_, _, _, e⟩ := x; exact Heap.lt_size e
  | frz ob u => obtain ⟨e, _⟩ := x; exact Heap.lt_size e
  | tbl ps => exact Heap.lt_size (show h.get? a = some _ from x)
  | met f y => exact Heap.lt_size (show h.get? a = some _ from x)
  | ext φ => obtain ⟨_, ⟨_, e⟩, _⟩ := x; exact Heap.lt_size e
theorem Paired.mapP {α β : Type} {F G : α → β → Prop} : ∀ {l₁ : List α} {l₂ : List β}, Paired F l₁ l₂ → (∀ a b, F a b → G a b) → Paired G l₁ l₂
  | _, _, .nil, _ => .nil
  | _, _, .cons r t, f => .cons (f _ _ r) (Paired.mapP t f)
theorem ObjOk.stay (x : ObjOk P w H h a o) (k : ∀ b u, (b = a ∨ H b = some (.own a)) → h.get? b = some u → h'.get? b = some u)
    (ho : ∀ b, H b = some (.own a) → H' b = some (.own a)) (ht : ∀ b xs, H b = some (.tup xs) → H' b = some (.tup xs)) : ObjOk P w H' h' a o := by
  induction o with
  | lst xs => obtain ⟨z, its, n, r, e⟩ := x; exact ⟨z, its, n, r, k _ _ (.inl rfl) e⟩
  | tup xs => obtain ⟨z, its, r, ob, e, c⟩ := x; exact ⟨z, its, r, ob, k _ _ (.inl rfl) e, c⟩
  | dK kvs => obtain ⟨z, y, vs, r, ob, es, ep, e, c⟩ := x; exact ⟨z, y, vs, r, ob, es, ep, k _ _ (.inl rfl) e, c⟩
  | dT kvs =>
    obtain ⟨z, y, xs, r, ob, es, ep, e, c⟩ := x
    exact ⟨z, y, xs, Paired.mapP r fun p q z => ⟨z.1, ht _ _ z.2.1, z.2.2⟩, ob, es, ep, k _ _ (.inl rfl) e, c⟩
  | set S n => obtain ⟨ob, es, ep, t, e, c⟩ := x; exact ⟨ob, es, ep, t, k _ _ (.inl rfl) e, c⟩
  | ins C dx fs =>
    obtain ⟨d, z, ne, e, mA, ⟨od, es, ep, e2, c⟩, r⟩ := x
    exact ⟨ho _ d, z, ne, k _ _ (.inl rfl) e, mA, ⟨od, es, ep, k _ _ (.inr d) e2, c⟩, r⟩
  | own y => obtain ⟨ob, e⟩ := x; exact ⟨ob, k _ _ (.inl rfl) e⟩
  | xd fs => obtain ⟨mA, ⟨od, es, ep, e, c⟩, r⟩ := x; exact ⟨mA, ⟨od, es, ep, k _ _ (.inl rfl) e, c⟩, r⟩
  | rng lo hi => obtain ⟨t, u, v, e⟩ := x; exact ⟨t, u, v, k _ _ (.inl rfl) e⟩
  | frz ob u ih => obtain ⟨e, q⟩ := x; exact ⟨k _ _ (.inl rfl) e, ih q⟩
  | tbl ps =>
    have e : h.get? a = some { cls := .none, data := .fields ps } := x
    show h'.get? a = some { cls := .none, data := .fields ps }
    exact k a _ (.inl rfl) e
  | met f y =>
    have e : h.get? a = some (PySem.W.methodObj (.ref f) (.ref y)) := x
    show h'.get? a = some (PySem.W.methodObj (.ref f) (.ref y))
    exact k a _ (.inl rfl) e
  | ext φ => obtain ⟨p, ⟨o, e⟩, st⟩ := x; exact ⟨st _ _ p fun o q => k _ _ (.inl rfl) q, ⟨o, k _ _ (.inl rfl) e⟩, st⟩
theorem HOk.lt (x : HOk P w H h) (e : H a = some o) : a < h.objs.size := (x a o e).lt
theorem HOk.fresh (x : HOk P w H h) (e : h.objs.size ≤ a) : H a = none := by
  cases q : H a with
  | none => rfl
  | some u => exact absurd (Nat.lt_of_lt_of_le (x.lt q) e) (Nat.lt_irrefl _)
theorem HOk.kept (x : HOk P w H h) (k : ∀ b u, h.get? b = some u → h'.get? b = some u) : HOk P w H h' := fun a o e =>
  (x a o e).stay (fun b u _ q => k b u q) (fun _ q => q) fun _ _ q => q
theorem HOk.laid (x : HOk P w H h) (k : ∀ b u, h.get? b = some u → h'.get? b = some u) (hp : h.objs.size ≤ a) (new : ObjOk P w (upd H a o) h' a o) : HOk P w (upd H a o) h' := fun b u e => by
  have hn := x.fresh hp
  by_cases hb : b = a
  · subst hb; rw [upd_same] at e; cases e; exact new
  · rw [upd_ne hb] at e
    exact (x b u e).stay (fun c v _ q => k c v q) (fun c q => by rw [upd_ne (ne_of_none q hn)]; exact q) fun c xs q => by rw [upd_ne (ne_of_none q hn)]; exact q
end
noncomputable def Rd (H : Hp) (a : Addr) (u : HO) : Prop := H a = some u ∨ ∃ o, H a = some (.frz o u)
theorem Rd.ok {P : Program} {w : World} {H : Hp} {h : Heap} {a : Addr} {u : HO} (r : Rd H a u) (x : HOk P w H h) : ObjOk P w H h a u := by
  rcases r with r | ⟨o, r⟩
  · exact x a u r
  · obtain ⟨_, q⟩ := x a _ r
    exact q
noncomputable def Mut : Option HO → Prop
  | some (.lst _) => True
  | some (.dK _) => True
  | some (.dT _) => True
  | some (.set _ _) => True
  | some (.ins _ _ _) => True
  | some (.ext _) => True
  | _ => False
section
variable {P : Program} {w : World} {H : Hp} {h h' : Heap} {x e : Addr} {o' : HO}
theorem HOk.write (ok : HOk P w H h) (mu : Mut (H x)) (he : e = x ∨ H e = some (.own x)) (k : ∀ b u, b ≠ e → h.get? b = some u → h'.get? b = some u) (heo : ∃ u, h'.get? e = some u)
    (new : ObjOk P w (upd H x o') h' x o') : HOk P w (upd H x o') h' := fun b u q => by
  have nown : ∀ c y, H c = some (.own y) → c ≠ x := fun c y r z => by subst z; rw [r] at mu; exact mu
  have ntup : ∀ c xs, H c = some (.tup xs) → c ≠ x := fun c xs r z => by subst z; rw [r] at mu; exact mu
  by_cases hb : b = x
  · subst hb; rw [upd_same] at q; cases q; exact new
  · rw [upd_ne hb] at q
    by_cases hbe : b = e
    · have q' : H b = some (.own x) := by
        rcases he with z | z
        · exact absurd (hbe.trans z) hb
        · rw [hbe]; exact z
      rw [q] at q'; cases q'
      obtain ⟨v, hv⟩ := heo
      exact ⟨v, by rw [hbe]; exact hv⟩
    · refine (ok b u q).stay (fun c v hc r => k c v ?_ r) (fun c r => by rw [upd_ne (nown c b r)]; exact r) fun c xs r => by rw [upd_ne (ntup c xs r)]; exact r
      rcases hc with rfl | hc
      · exact hbe
      · rintro rfl
        rcases he with z | z
        · exact nown c b hc z
        · rw [hc] at z; cases z; exact hb rfl
end
structure Un (fs ex : List Addr) (H H' : Hp) (h h' : Heap) : Prop where
  keep : ∀ b o, h.get? b = some o → H b = none → b ∉ fs → b ∉ ex → h'.get? b = some o
  slot : ∀ b o, h.get? b = some o → H b = none → b ∈ fs → b ∉ ex → ∃ sl, h'.get? b = some { o with slots := sl }
  free : ∀ b o, h.get? b = some o → H b = none → b ∉ ex → H' b = none
  there : ∀ b o, h.get? b = some o → b ∉ ex → ∃ o', h'.get? b = some o'
  tups : ∀ b xs, H b = some (.tup xs) → H' b = some (.tup xs)
  frzs : ∀ b o u, H b = some (.frz o u) → H' b = some (.frz o u)
  tbls : ∀ b ps, H b = some (.tbl ps) → ∃ more, H' b = some (.tbl (ps ++ more))
section
variable {fs fs' ex ex' : List Addr} {H H1 H2 : Hp} {h h1 h2 h' : Heap} {a x e : Addr} {o : HO}
theorem Un.any (u : Un fs ex H H1 h h1) {b : Addr} {ob : Obj} (q : h.get? b = some ob) (n : H b = none) (hx : b ∉ ex) : ∃ sl, h1.get? b = some { ob with slots := sl } := by
  by_cases hb : b ∈ fs
  · exact u.slot b ob q n hb hx
  · exact ⟨ob.slots, u.keep b ob q n hb hx⟩
theorem Un.kept (k : ∀ b u, h.get? b = some u → h'.get? b = some u) : Un fs ex H H h h' :=
  ⟨fun b ob q _ _ _ => k b ob q, fun b ob q _ _ _ => ⟨ob.slots, k b ob q⟩, fun _ _ _ n _ => n, fun b ob q _ => ⟨ob, k b ob q⟩, fun _ _ q => q, fun _ _ _ q => q, fun _ ps q => ⟨#[], by rw [q]; simp⟩⟩
theorem Un.refl : Un fs ex H H h h := Un.kept fun _ _ q => q
theorem Un.laid (k : ∀ b u, h.get? b = some u → h'.get? b = some u) (hp : h.objs.size ≤ a) (hn : H a = none) : Un fs ex H (upd H a o) h h' where
  keep := fun b u q _ _ _ => k b u q
  slot := fun b u q _ _ _ => ⟨u.slots, k b u q⟩
  free := fun b u q n _ => by rw [upd_ne (Nat.ne_of_lt (Nat.lt_of_lt_of_le (Heap.lt_size q) hp))]; exact n
  there := fun b u q _ => ⟨u, k b u q⟩
  tups := fun b xs q => by rw [upd_ne (ne_of_none q hn)]; exact q
  frzs := fun b u xs q => by rw [upd_ne (ne_of_none q hn)]; exact q
  tbls := fun b ps q => ⟨#[], by rw [upd_ne (ne_of_none q hn), q]; simp⟩
theorem Un.write (mu : Mut (H x)) (he : e = x ∨ H e = some (.own x)) (k : ∀ b u, b ≠ e → h.get? b = some u → h'.get? b = some u) (heo : ∃ u, h'.get? e = some u) : Un fs ex H (upd H x o) h h' := by
  have hx : ∀ b, H b = none → b ≠ x := fun b n z => by subst z; rw [n] at mu; exact mu
  have hb : ∀ b, H b = none → b ≠ e := fun b n z => by
    subst z
    rcases he with r | r
    · exact hx b n r
    · rw [n] at r; cases r
  have hm : ∀ b u, H b = some u → ¬ Mut (some u) → b ≠ x := fun b u q nm z => by subst z; rw [q] at mu; exact nm mu
  refine ⟨fun b u q n _ _ => k b u (hb b n) q, fun b u q n _ _ => ⟨u.slots, k b u (hb b n) q⟩, fun b u q n _ => by rw [upd_ne (hx b n)]; exact n, fun b u q _ => ?_,
    fun b xs q => by rw [upd_ne (hm b _ q fun z => z)]; exact q, fun b u xs q => by rw [upd_ne (hm b _ q fun z => z)]; exact q, fun b ps q => ⟨#[], by rw [upd_ne (hm b _ q fun z => z), q]; simp⟩⟩
  by_cases hbe : b = e
  · subst hbe; exact heo
  · exact ⟨u, k b u hbe q⟩
end
noncomputable def trk (h : Heap) (H : Hp) : List Addr := (List.range h.objs.size).filter fun a => (H a).isSome
noncomputable def hidT (h : Heap) (H : Hp) : Heap := PySem.W.hideAll h (trk h H)
theorem hidT_size (h : Heap) (H : Hp) : (hidT h H).objs.size = h.objs.size := PySem.W.hideAll_size _ _
theorem hidT_get {h : Heap} {H : Hp} {b : Addr} {o : Obj} (e : h.get? b = some o) (n : H b = none) : (hidT h H).get? b = some o :=
  PySem.W.hideAll_get _ e fun hm => by
    have q : (H b).isSome = true := (List.mem_filter.mp hm).2
    rw [n] at q; simp at q
theorem of_hidT {h : Heap} {H : Hp} {b : Addr} {o : Obj} (e : (hidT h H).get? b = some o) : h.get? b = some o ∧ H b = none := by
  have e' : h.get? b = some o := PySem.W.of_hideAll (trk h H) e
  refine ⟨e', ?_⟩
  cases q : H b with
  | none => rfl
  | some x =>
    have hm : b ∈ trk h H := List.mem_filter.mpr ⟨List.mem_range.mpr (Heap.lt_size e'), by simp [q]⟩
    have z : (hidT h H).get? b = none := PySem.W.hideAll_none (trk h H) hm
    rw [z] at e; cases e
end L2
namespace L2
open PySem PySem.Spec PyProof.Rows
structure Mod (K : PySem.W.Frag) (mg : Str → Option Value) (base : Heap) : Prop where
  kin : K.In base
  glob : base.Ns mainGlobals mg
  blt : ∃ mb, base.Ns builtinsNs mb ∧ ∀ x : Str, x ≠ "__name__" → mb x = bootBuiltins x
  nolimit : base.NoLimit
structure Cx where
  prog : Program
  w : World
  K : PySem.W.Frag
  mg : Str → Option Value
  base : Heap
  A : Around
  N : List Str
  s₀ : Shared
  H₀ : Hp
  env : Env
  outer : List Env
  stack : List Env
  ex : List Addr
  fn : Str → Bool
  calm : Bool
  pn : List (Addr × Obj)
  xe : Value → Shared → Prop
noncomputable def frs (l : List Env) : List Addr := l.filterMap (·.frame)
noncomputable abbrev Cx.fs (X : Cx) : List Addr := frs X.outer
noncomputable def Vis (sc : Scope) (x : Str) : Prop := sc.names.lookup x = some .local ∨ sc.names.lookup x = some .cell ∨ sc.names.lookup x = some .free
noncomputable def Loc (sc : Scope) (x : Str) : Prop := sc.names.lookup x = some .local ∨ sc.names.lookup x = some .cell
noncomputable def Look (env : Env) (h : Heap) (m : Str → Option Value) (x : Str) (u : Value) : Prop :=
  (env.kindOf x = some .local ∧ m x = some u) ∨ ((env.kindOf x = some .cell ∨ env.kindOf x = some .free) ∧ ∃ c, env.cells.lookup x = some c ∧ h.IsCell c (some u))
structure Cx.Ok (X : Cx) : Prop where
  mod : Mod X.K X.mg X.base
  kind : X.env.scope.kind = .function
  glob : X.env.globals = mainGlobals
  blt : X.env.builtins = builtinsNs
  above : X.s₀.heap.objs.size ≤ X.env.locals
  inj : ∀ x y c, X.env.cells.lookup x = some c → X.env.cells.lookup y = some c → x = y
  has : ∀ x, (X.env.kindOf x = some .cell ∨ X.env.kindOf x = some .free) → ∃ c, X.env.cells.lookup x = some c
  cab : ∀ x c, X.fn x = true → X.env.cells.lookup x = some c → X.s₀.heap.objs.size ≤ c
  hd : X.calm = true → X.A.handled = none
  frames : X.A.frames = some X.stack
  stk : X.stack = X.outer ∨ (X.stack = X.env :: X.outer ∧ X.env.frame = some X.env.locals)
  exf : ∀ b ∈ X.ex, b ≠ X.env.locals ∧ ∀ x c, X.env.cells.lookup x = some c → c ≠ b
  bs : ∀ b o, X.base.get? b = some o → X.s₀.heap.get? b = some o ∧ X.H₀ b = none
  bsz : X.base.objs.size ≤ X.s₀.heap.objs.size
  noex : ∀ b o, X.base.get? b = some o → b ∉ X.ex
  exfs : ∀ b ∈ X.ex, b ∉ X.fs
  funs : X.s₀.heap.FunFrames X.base X.outer
  frf : ∀ b ∈ X.fs, X.H₀ b = none
structure Inv (X : Cx) (pins : List (Addr × Obj)) (σ : List (Option V)) (H : Hp) (s : Shared) : Prop where
  ok : X.Ok
  os : s.os = X.s₀.os
  bare : AllBare s.gens
  base : Un X.fs X.ex X.H₀ H X.s₀.heap s.heap
  loc : ∃ m, s.heap.Ns X.env.locals m ∧ ∀ (i : Nat) (x : Str) (v : V), X.N[i]? = some x → σ[i]? = some (some v) → Vis X.env.scope x → ∃ u, RelV v u ∧ Look X.env s.heap m x u
  cell : ∀ x c, X.env.cells.lookup x = some c → ∃ v, s.heap.IsCell c v
  free : H X.env.locals = none
  freeC : ∀ x c, X.env.cells.lookup x = some c → H c = none
  pin : ∀ p ∈ X.pn ++ pins, s.heap.get? p.1 = some p.2 ∧ H p.1 = none ∧ p.1 ≠ X.env.locals ∧ p.1 ∉ X.fs ∧ ∀ v, p.2.data ≠ .cell v
  hok : HOk X.prog X.w H s.heap
  len : σ.length = X.N.length
section
variable {X : Cx} {pins : List (Addr × Obj)} {σ : List (Option V)} {H H' : Hp} {s : Shared} {h' : Heap}
theorem Cx.Ok.nofr (ok : X.Ok) {b : Addr} {o : Obj} (e : X.base.get? b = some o) : b ∉ X.fs := fun hb => by
  have := (ok.funs.mem hb).1
  rw [e] at this; cases this
theorem Inv.bs (I : Inv X pins σ H s) : ∀ b o, X.base.get? b = some o → s.heap.get? b = some o ∧ H b = none := fun b o e =>
  ⟨I.base.keep b o (I.ok.bs b o e).1 (I.ok.bs b o e).2 (I.ok.nofr e) (I.ok.noex b o e), I.base.free b o (I.ok.bs b o e).1 (I.ok.bs b o e).2 (I.ok.noex b o e)⟩
theorem Inv.bk (I : Inv X pins σ H s) : ∀ b o, X.base.get? b = some o → s.heap.get? b = some o := fun b o e => (I.bs b o e).1
theorem Inv.mod (I : Inv X pins σ H s) : Mod X.K X.mg X.base := I.ok.mod
theorem Inv.kIn (I : Inv X pins σ H s) : X.K.In s.heap := I.ok.mod.kin.keeps I.bk
theorem Inv.fr (I : Inv X pins σ H s) : ∃ m, Fr X.base X.env.locals s.heap m :=
  let ⟨m, hn, _⟩ := I.loc
  ⟨m, hn, I.bk, Nat.le_trans I.ok.bsz I.ok.above⟩
theorem Inv.lt (I : Inv X pins σ H s) : X.env.locals < s.heap.objs.size := let ⟨_, hn, _⟩ := I.loc; hn.lt
theorem Inv.sz (I : Inv X pins σ H s) : X.s₀.heap.objs.size ≤ s.heap.objs.size := Nat.le_trans I.ok.above (Nat.le_of_lt I.lt)
theorem Inv.nofs (I : Inv X pins σ H s) {a : Addr} (h : s.heap.objs.size ≤ a) : a ∉ X.fs := fun hb => by
  obtain ⟨_, o, ho, _⟩ := I.ok.funs.mem hb
  exact absurd (Nat.lt_of_lt_of_le (Heap.lt_size ho) (Nat.le_trans I.sz h)) (Nat.lt_irrefl _)
theorem Inv.cne (I : Inv X pins σ H s) : ∀ x c, X.env.cells.lookup x = some c → c ≠ X.env.locals := fun x c e z => by
  obtain ⟨v, o, ho, hd⟩ := I.cell x c e
  obtain ⟨m, ⟨o', es, ep, ho', hd', _⟩, _⟩ := I.loc
  rw [z, ho'] at ho; cases ho; rw [hd'] at hd; cases hd
theorem Inv.funs (I : Inv X pins σ H s) : s.heap.FunFrames X.base X.outer := by
  have all : ∀ (l : List Env), (∀ b ∈ frs l, b ∈ X.fs) → X.s₀.heap.FunFrames X.base l → s.heap.FunFrames X.base l := by
    intro l
    induction l with
    | nil => intro _ _; trivial
    | cons env r ih =>
      intro hs hl
      obtain ⟨hk, ⟨L, o, hf, hn, ho, hd⟩, hr⟩ := hl
      have hL : L ∈ X.fs := hs L (by unfold frs; rw [List.filterMap_cons, hf]; exact List.mem_cons_self)
      obtain ⟨sl, e⟩ := I.base.slot L o ho (I.ok.frf L hL) hL fun z => I.ok.exfs L z hL
      exact ⟨hk, ⟨L, _, hf, hn, e, hd⟩, ih (fun b hb => hs b (by unfold frs; rw [List.filterMap_cons, hf]; exact List.mem_cons_of_mem _ hb)) hr⟩
  exact all X.outer (fun _ hb => hb) I.ok.funs
theorem Inv.stack (I : Inv X pins σ H s) : s.heap.FunFrames X.base X.stack := by
  rcases I.ok.stk with e | ⟨e, hf⟩
  · rw [e]; exact I.funs
  · rw [e]
    obtain ⟨m, hn, _⟩ := I.loc
    refine .cons (by rw [I.ok.kind]; decide) hf hn ?_ I.funs
    exact Heap.get?_none_of_le (Nat.le_trans I.ok.bsz I.ok.above)
theorem Inv.stkSub (I : Inv X pins σ H s) : ∀ b ∈ frs X.stack, b ∈ X.env.locals :: X.fs := fun b hb => by
  rcases I.ok.stk with e | ⟨e, hf⟩
  · rw [e] at hb; exact List.mem_cons_of_mem _ hb
  · rw [e] at hb
    unfold frs at hb
    rw [List.filterMap_cons, hf] at hb
    exact hb
theorem Inv.stkFree (I : Inv X pins σ H s) : ∀ b ∈ frs X.stack, H b = none := fun b hb => by
  rcases List.mem_cons.mp (I.stkSub b hb) with e | hb
  · rw [e]; exact I.free
  · obtain ⟨_, o, ho, _⟩ := I.ok.funs.mem hb
    exact I.base.free b o ho (I.ok.frf b hb) fun z => I.ok.exfs b z hb
theorem Inv.step {g' : Array GenState} {t' : Nat} {d' : Drawn} {ch : List Addr} (I : Inv X pins σ H s)
    (hch : ∀ b ∈ ch, (b ∈ X.ex ∨ X.s₀.heap.objs.size ≤ b) ∧ b ≠ X.env.locals ∧ (∀ x c, X.env.cells.lookup x = some c → c ≠ b) ∧ ∀ p ∈ X.pn ++ pins, p.1 ≠ b)
    (keep : ∀ b o, b ≠ X.env.locals → b ∉ X.fs → b ∉ ch → s.heap.get? b = some o → H b = none → h'.get? b = some o)
    (slot : ∀ b o, b ≠ X.env.locals → b ∈ X.fs → b ∉ ch → s.heap.get? b = some o → H b = none → ∃ sl, h'.get? b = some { o with slots := sl }) (free : ∀ b o, b ∉ ch → s.heap.get? b = some o → H b = none → H' b = none)
    (there : ∀ b o, b ∉ ch → s.heap.get? b = some o → ∃ o', h'.get? b = some o')
    (tups : ∀ b xs, H b = some (.tup xs) → H' b = some (.tup xs)) (frzs : ∀ b o u, H b = some (.frz o u) → H' b = some (.frz o u)) (tbls : ∀ b ps, H b = some (.tbl ps) → ∃ more, H' b = some (.tbl (ps ++ more)))
    (ns : ∀ m, s.heap.Ns X.env.locals m → h'.Ns X.env.locals m) (hok : HOk X.prog X.w H' h') (hg : AllBare g') :
    Inv X pins σ H' { s with heap := h', gens := g', drawn := d', toks := t' } := by
  have neL : ∀ b o, X.s₀.heap.get? b = some o → b ≠ X.env.locals := fun b o e => Nat.ne_of_lt (Nat.lt_of_lt_of_le (Heap.lt_size e) I.ok.above)
  have neC : ∀ b o, X.s₀.heap.get? b = some o → b ∉ X.ex → b ∉ ch := fun b o e hx hb => by
    rcases (hch b hb).1 with z | z
    · exact hx z
    · exact absurd (Nat.lt_of_lt_of_le (Heap.lt_size e) z) (Nat.lt_irrefl _)
  have cellK : ∀ x c, X.env.cells.lookup x = some c → ∀ v, s.heap.IsCell c v → h'.IsCell c v := fun x c e v ⟨o, ho, hd⟩ => by
    have nch : c ∉ ch := fun z => (hch c z).2.2.1 x c e rfl
    by_cases hc : c ∈ X.fs
    · obtain ⟨sl, q⟩ := slot c o (I.cne x c e) hc nch ho (I.freeC x c e)
      exact ⟨_, q, hd⟩
    · exact ⟨o, keep c o (I.cne x c e) hc nch ho (I.freeC x c e), hd⟩
  refine ⟨I.ok, I.os, hg, ⟨fun b o e n hb hx => ?_, fun b o e n hb hx => ?_, fun b o e n hx => ?_, fun b o e hx => ?_, fun b xs e => tups b xs (I.base.tups b xs e), fun b o xs e => frzs b o xs (I.base.frzs b o xs e), fun b ps e => ?_⟩, ?_, fun x c e => ?_, ?_, fun x c e => ?_, fun p hp => ?_, hok, I.len⟩
  · exact keep b o (neL b o e) hb (neC b o e hx) (I.base.keep b o e n hb hx) (I.base.free b o e n hx)
  · obtain ⟨sl, e1⟩ := I.base.slot b o e n hb hx
    obtain ⟨sl', e2⟩ := slot b _ (neL b o e) hb (neC b o e hx) e1 (I.base.free b o e n hx)
    exact ⟨sl', e2⟩
  · obtain ⟨o', e1⟩ := I.base.there b o e hx
    exact free b o' (neC b o e hx) e1 (I.base.free b o e n hx)
  · obtain ⟨o', e1⟩ := I.base.there b o e hx
    exact there b o' (neC b o e hx) e1
  · obtain ⟨m1, e1⟩ := I.base.tbls b ps e
    obtain ⟨m2, e2⟩ := tbls b _ e1
    exact ⟨m1 ++ m2, by rw [e2, Array.append_assoc]⟩
  · obtain ⟨m, hn, hl⟩ := I.loc
    refine ⟨m, ns m hn, fun i x v e1 e2 e3 => ?_⟩
    obtain ⟨u, r, l⟩ := hl i x v e1 e2 e3
    refine ⟨u, r, ?_⟩
    rcases l with l | ⟨k, c, e, z⟩
    · exact .inl l
    · exact .inr ⟨k, c, e, cellK x c e _ z⟩
  · obtain ⟨v, z⟩ := I.cell x c e
    exact ⟨v, cellK x c e v z⟩
  · obtain ⟨m, ⟨o, _, _, ho, _⟩, _⟩ := I.loc
    exact free _ o (fun z => (hch _ z).2.1 rfl) ho I.free
  · obtain ⟨v, o, ho, hd⟩ := I.cell x c e
    exact free c o (fun z => (hch c z).2.2.1 x c e rfl) ho (I.freeC x c e)
  · obtain ⟨e, n, ne, nf, d⟩ := I.pin p hp
    have nch : p.1 ∉ ch := fun z => (hch p.1 z).2.2.2 p hp rfl
    exact ⟨keep p.1 p.2 ne nf nch e n, free p.1 p.2 nch e n, ne, nf, d⟩
theorem Inv.un {t' : Nat} (I : Inv X pins σ H s) (u : Un X.fs [] H H' s.heap h') (hok : HOk X.prog X.w H' h') : Inv X pins σ H' { s with heap := h', toks := t' } := by
  obtain ⟨m, ⟨o, es, ep, ho, r⟩, _⟩ := id I.loc
  obtain ⟨sl, hL⟩ := u.any ho I.free (by simp)
  exact I.step (g' := s.gens) (d' := s.drawn) (ch := []) (fun _ z => nomatch z) (fun b o _ hb _ e n => u.keep b o e n hb (by simp)) (fun b o _ hb _ e n => u.slot b o e n hb (by simp)) (fun b o _ e n => u.free b o e n (by simp)) (fun b o _ e => u.there b o e (by simp)) u.tups u.frzs u.tbls (fun m' hm => by
    obtain ⟨o', es', ep', ho', r'⟩ := hm
    rw [ho] at ho'; cases ho'
    exact ⟨_, es', ep', hL, r'⟩) hok I.bare
theorem Inv.call {g' : Array GenState} {t' : Nat} {d' : Drawn} {ch : List Addr} (I : Inv X pins σ H s) (u : Un (frs X.stack) ch H H' s.heap h') (hok : HOk X.prog X.w H' h') (hg : AllBare g')
    (hch : ∀ b ∈ ch, (b ∈ X.ex ∨ X.s₀.heap.objs.size ≤ b) ∧ b ≠ X.env.locals ∧ (∀ x c, X.env.cells.lookup x = some c → c ≠ b) ∧ ∀ p ∈ X.pn ++ pins, p.1 ≠ b) :
    Inv X pins σ H' { s with heap := h', gens := g', drawn := d', toks := t' } := by
  obtain ⟨m, ⟨o, es, ep, ho, r⟩, _⟩ := id I.loc
  obtain ⟨sl, hL⟩ := u.any ho I.free fun z => (hch _ z).2.1 rfl
  exact I.step (ch := ch) hch (fun b o hL hb hc e n => u.keep b o e n (fun z => (List.mem_cons.mp (I.stkSub b z)).elim hL hb) hc) (fun b o _ _ hc e n => u.any e n hc) (fun b o hc e n => u.free b o e n hc) (fun b o hc e => u.there b o e hc) u.tups u.frzs u.tbls (fun m' hm => by
    obtain ⟨o', es', ep', ho', r'⟩ := hm
    rw [ho] at ho'; cases ho'
    exact ⟨_, es', ep', hL, r'⟩) hok hg
theorem Inv.turned {t' : Nat} {it : Addr} (I : Inv X pins σ H s) (k : ∀ b o, b ≠ it → s.heap.get? b = some o → h'.get? b = some o) (hn : H it = none) (hL : it ≠ X.env.locals)
    (h1 : it ∈ X.ex ∨ X.s₀.heap.objs.size ≤ it) (h2 : ∀ x c, X.env.cells.lookup x = some c → c ≠ it) (h3 : ∀ p ∈ X.pn ++ pins, p.1 ≠ it) : Inv X pins σ H { s with heap := h', toks := t' } := by
  have nit : ∀ b u, H b = some u → b ≠ it := fun b u e z => by rw [z, hn] at e; cases e
  refine I.step (g' := s.gens) (d' := s.drawn) (ch := [it]) (fun b hb => ?_) (fun b o _ _ hc e _ => k b o (fun z => hc (by simp [z])) e) (fun b o _ _ hc e _ => ⟨o.slots, k b o (fun z => hc (by simp [z])) e⟩) (fun _ _ _ _ n => n)
    (fun b o hc e => ⟨o, k b o (fun z => hc (by simp [z])) e⟩) (fun _ _ e => e) (fun _ _ _ e => e) (fun b ps e => ⟨#[], by rw [e]; simp⟩) (fun m hm => ?_) (fun b u e => ?_) I.bare
  · have e : b = it := by simpa using hb
    subst e
    exact ⟨h1, hL, h2, h3⟩
  · obtain ⟨o, es, ep, ho, r⟩ := hm
    exact ⟨o, es, ep, k _ o (Ne.symm hL) ho, r⟩
  · refine (I.hok b u e).stay (fun c v hc q => k c v ?_ q) (fun _ q => q) fun _ _ q => q
    rcases hc with z | z
    · rw [z]; exact nit b u e
    · exact nit c _ z
theorem Inv.tok (I : Inv X pins σ H s) (t : Nat) : Inv X pins σ H { s with toks := t } := I.un (h' := s.heap) (t' := t) Un.refl I.hok
theorem Inv.kept {t' : Nat} (I : Inv X pins σ H s) (k : ∀ b u, s.heap.get? b = some u → h'.get? b = some u) : Inv X pins σ H { s with heap := h', toks := t' } := I.un (Un.kept k) (I.hok.kept k)
theorem Inv.laid {a : Addr} {o : HO} {t' : Nat} (I : Inv X pins σ H s) (k : ∀ b u, s.heap.get? b = some u → h'.get? b = some u) (hp : s.heap.objs.size ≤ a) (new : ObjOk X.prog X.w (upd H a o) h' a o) :
    Inv X pins σ (upd H a o) { s with heap := h', toks := t' } := I.un (Un.laid k hp (I.hok.fresh hp)) (I.hok.laid k hp new)
theorem Inv.write {x e : Addr} {o : HO} {t' : Nat} (I : Inv X pins σ H s) (mu : Mut (H x)) (he : e = x ∨ H e = some (.own x)) (k : ∀ b u, b ≠ e → s.heap.get? b = some u → h'.get? b = some u) (heo : ∃ u, h'.get? e = some u)
    (new : ObjOk X.prog X.w (upd H x o) h' x o) : Inv X pins σ (upd H x o) { s with heap := h', toks := t' } := I.un (Un.write mu he k heo) (I.hok.write mu he k heo new)
theorem Inv.weak {σ' : List (Option V)} (I : Inv X pins σ H s) (hl : σ'.length = σ.length) (w : ∀ (i : Nat) v, σ'[i]? = some (some v) → σ[i]? = some (some v)) : Inv X pins σ' H s :=
  ⟨I.ok, I.os, I.bare, I.base, let ⟨m, hn, hl'⟩ := I.loc; ⟨m, hn, fun i x v e1 e2 e3 => hl' i x v e1 (w i v e2) e3⟩, I.cell, I.free, I.freeC, I.pin, I.hok, hl.trans I.len⟩
theorem Inv.pins_of {pins' : List (Addr × Obj)} (I : Inv X pins σ H s) (h : ∀ p ∈ pins', s.heap.get? p.1 = some p.2 ∧ H p.1 = none ∧ p.1 ≠ X.env.locals ∧ p.1 ∉ X.fs ∧ ∀ v, p.2.data ≠ .cell v) : Inv X pins' σ H s :=
  ⟨I.ok, I.os, I.bare, I.base, I.loc, I.cell, I.free, I.freeC, fun p hp => (List.mem_append.mp hp).elim (fun z => I.pin p (List.mem_append_left _ z)) (h p), I.hok, I.len⟩
theorem nodup_ix {N : List Str} (hN : N.Nodup) {i j : Nat} {x : Str} (a : N[i]? = some x) (b : N[j]? = some x) : i = j := by
  obtain ⟨h1, e1⟩ := List.getElem?_eq_some_iff.mp a
  obtain ⟨h2, e2⟩ := List.getElem?_eq_some_iff.mp b
  exact (List.getElem_inj hN).mp (e1.trans e2.symm)
theorem store_ok2 {M : Model} {A : Around} {E : Value → Shared → Prop} {i : Nat} {x : Str} {v : V} {u : Value} {Q : Unit → Shared → Prop} (I : Inv X pins σ H s) (hN : X.N.Nodup) (hi : X.N[i]? = some x) (hx : Loc X.env.scope x) (r : RelV v u)
    (h : ∀ s', Inv X pins (σ.set i (some v)) H s' → (∃ a, Heap.SameBut a s.heap s'.heap ∧ (a = X.env.locals ∨ X.env.cells.lookup x = some a)) → Q () s') (hf : X.fn x = true ∨ X.env.scope.names.lookup x = some .local := by first | exact .inl rfl | exact .inr rfl | assumption) : wpAny M A (storeName X.env x u) Q E s := by
  obtain ⟨m, hn, hl⟩ := id I.loc
  have hcls : (X.env.scope.kind == .class || (X.env.scope.kind == .module && X.env.locals != X.env.globals)) = false := by rw [I.ok.kind]; rfl
  have hiσ : i < σ.length := by rw [I.len]; exact (List.getElem?_eq_some_iff.mp hi).1
  have cne := I.cne
  have tracked : ∀ {a : Addr} {h' : Heap}, (∃ o, s.heap.get? a = some o ∧ H a = none) → Heap.SameBut a s.heap h' → HOk X.prog X.w H h' := fun {a h'} ha hs b ob e => by
    obtain ⟨_, _, hfree⟩ := ha
    refine (I.hok b ob e).stay (fun c w' hc q => (hs.2 c ?_).trans q) (fun _ q => q) fun _ _ q => q
    rintro rfl
    rcases hc with rfl | hc
    · rw [hfree] at e; cases e
    · rw [hfree] at hc; cases hc
  rcases hx with hk | hk
  · refine wpAny_storeName_local hk hn (fun h' hn' hs => ?_) hcls
    obtain ⟨oL, _, _, hoL, _⟩ := id hn
    refine h _ ⟨I.ok, I.os, I.bare, ⟨fun b o e n hb hx => ?_, fun b o e n hb hx => ?_, I.base.free, fun b o e hx => ?_, I.base.tups, I.base.frzs, I.base.tbls⟩, ⟨_, hn', fun j y v' e1 e2 e3 => ?_⟩, fun y c e => ?_, I.free, I.freeC, fun p hp => ?_, tracked ⟨oL, hoL, I.free⟩ hs, by simpa using I.len⟩ ⟨_, hs, .inl rfl⟩
    · exact (hs.2 b (Nat.ne_of_lt (Nat.lt_of_lt_of_le (Heap.lt_size e) I.ok.above))).trans (I.base.keep b o e n hb hx)
    · obtain ⟨sl, e1⟩ := I.base.slot b o e n hb hx
      exact ⟨sl, (hs.2 b (Nat.ne_of_lt (Nat.lt_of_lt_of_le (Heap.lt_size e) I.ok.above))).trans e1⟩
    · obtain ⟨o', e1⟩ := I.base.there b o e hx
      exact ⟨o', (hs.2 b (Nat.ne_of_lt (Nat.lt_of_lt_of_le (Heap.lt_size e) I.ok.above))).trans e1⟩
    · by_cases hj : j = i
      · subst hj
        rw [hi] at e1; cases e1
        rw [List.getElem?_set_self hiσ] at e2
        cases e2
        exact ⟨u, r, .inl ⟨hk, by simp⟩⟩
      · rw [List.getElem?_set_ne (Ne.symm hj)] at e2
        obtain ⟨u', r', q⟩ := hl j y v' e1 e2 e3
        refine ⟨u', r', ?_⟩
        rcases q with ⟨k, e⟩ | ⟨k, c, e, z⟩
        · refine .inl ⟨k, ?_⟩
          have : y ≠ x := fun e => hj (nodup_ix hN e1 (e ▸ hi))
          simp [this, e]
        · exact .inr ⟨k, c, e, z.sameBut hs (cne y c e)⟩
    · obtain ⟨w', z⟩ := I.cell y c e
      exact ⟨w', z.sameBut hs (cne y c e)⟩
    · obtain ⟨e, n, ne, nf, d⟩ := I.pin p hp
      exact ⟨(hs.2 p.1 ne).trans e, n, ne, nf, d⟩
  · have hfn : X.fn x = true := by
      rcases hf with z | z
      · exact z
      · rw [z] at hk; cases hk
    obtain ⟨c, hc⟩ := I.ok.has x (.inl hk)
    obtain ⟨w', z⟩ := I.cell x c hc
    refine wpAny_storeName_cell I.ok.kind hk hc z (fun h' hc' hs => ?_)
    obtain ⟨oc, hoc, hocd⟩ := id z
    refine h { s with heap := h' } ⟨I.ok, I.os, I.bare, ⟨fun b o e n hb hx => ?_, fun b o e n hb hx => ?_, I.base.free, fun b o e hx => ?_, I.base.tups, I.base.frzs, I.base.tbls⟩, ⟨m, hn.sameBut hs (Ne.symm (cne x c hc)), fun j y v' e1 e2 e3 => ?_⟩, fun y c' e => ?_, I.free, I.freeC, fun p hp => ?_, tracked ⟨oc, hoc, I.freeC x c hc⟩ hs, by simpa using I.len⟩ ⟨c, hs, .inr hc⟩
    · exact (hs.2 b (Nat.ne_of_lt (Nat.lt_of_lt_of_le (Heap.lt_size e) (I.ok.cab x c hfn hc)))).trans (I.base.keep b o e n hb hx)
    · obtain ⟨sl, e1⟩ := I.base.slot b o e n hb hx
      exact ⟨sl, (hs.2 b (Nat.ne_of_lt (Nat.lt_of_lt_of_le (Heap.lt_size e) (I.ok.cab x c hfn hc)))).trans e1⟩
    · obtain ⟨o', e1⟩ := I.base.there b o e hx
      exact ⟨o', (hs.2 b (Nat.ne_of_lt (Nat.lt_of_lt_of_le (Heap.lt_size e) (I.ok.cab x c hfn hc)))).trans e1⟩
    · by_cases hj : j = i
      · subst hj
        rw [hi] at e1; cases e1
        rw [List.getElem?_set_self hiσ] at e2
        cases e2
        exact ⟨u, r, .inr ⟨.inl hk, c, hc, hc'⟩⟩
      · rw [List.getElem?_set_ne (Ne.symm hj)] at e2
        obtain ⟨u', r', q⟩ := hl j y v' e1 e2 e3
        refine ⟨u', r', ?_⟩
        rcases q with q | ⟨k, c', e, z'⟩
        · exact .inl q
        · refine .inr ⟨k, c', e, z'.sameBut hs ?_⟩
          rintro rfl
          exact hj (nodup_ix hN e1 (I.ok.inj _ _ _ e hc ▸ hi))
    · by_cases hcc : c' = c
      · subst hcc; exact ⟨_, hc'⟩
      · obtain ⟨w2, z2⟩ := I.cell y c' e
        exact ⟨w2, z2.sameBut hs hcc⟩
    · obtain ⟨e, n, ne, nf, d⟩ := I.pin p hp
      refine ⟨(hs.2 p.1 ?_).trans e, n, ne, nf, d⟩
      intro q
      rw [q, hoc] at e
      have q' : oc = p.2 := Option.some.inj e
      exact d w' (by rw [← q']; exact hocd)
theorem store_ok {M : Model} {A : Around} {E : Value → Shared → Prop} {i : Nat} {x : Str} {v : V} {u : Value} {Q : Unit → Shared → Prop} (I : Inv X pins σ H s) (hN : X.N.Nodup) (hi : X.N[i]? = some x) (hx : Loc X.env.scope x) (r : RelV v u)
    (h : ∀ s', Inv X pins (σ.set i (some v)) H s' → Q () s') (hf : X.fn x = true ∨ X.env.scope.names.lookup x = some .local := by first | exact .inl rfl | exact .inr rfl | assumption) : wpAny M A (storeName X.env x u) Q E s :=
  store_ok2 I hN hi hx r (fun s' I' _ => h s' I') hf
theorem Inv.call' {s' : Shared} {ch : List Addr} (I : Inv X pins σ H s) (ho : s'.os = s.os) (u : Un (frs X.stack) ch H H' s.heap s'.heap) (hok : HOk X.prog X.w H' s'.heap) (hg : AllBare s'.gens)
    (hch : ∀ b ∈ ch, (b ∈ X.ex ∨ X.s₀.heap.objs.size ≤ b) ∧ b ≠ X.env.locals ∧ (∀ x c, X.env.cells.lookup x = some c → c ≠ b) ∧ ∀ p ∈ X.pn ++ pins, p.1 ≠ b) : Inv X pins σ H' s' := by
  obtain ⟨h', g', d', t', o'⟩ := s'
  have e : o' = s.os := ho
  subst e
  exact I.call (g' := g') (t' := t') (d' := d') u hok hg hch
end
noncomputable abbrev XK := Value → Option Addr → Hp → Prop
noncomputable abbrev St := List (Option V)
noncomputable abbrev VK := V → Hp → Prop
noncomputable abbrev TE := St → Hp → VK → Prop
noncomputable abbrev TT := St → Hp → (Bool → Hp → Prop) → Prop
noncomputable abbrev TA := St → Hp → (List V → Hp → Prop) → Prop
structure Ends where
  nx : St → Hp → Prop
  rt : VK
  bk : St → Hp → Prop := fun _ _ => False
  ct : St → Hp → Prop := fun _ _ => False
noncomputable abbrev TS := Ends → St → Hp → Prop
noncomputable def EP (X : Cx) (pins : List (Addr × Obj)) (σ : St) (Q : VK) (u : Value) (s' : Shared) : Prop := ∃ v H', Inv X pins σ H' s' ∧ RelV v u ∧ Q v H'
noncomputable def TP (X : Cx) (pins : List (Addr × Obj)) (σ : St) (Q : Bool → Hp → Prop) (b : Bool) (s' : Shared) : Prop := ∃ H', Inv X pins σ H' s' ∧ Q b H'
noncomputable def AP (X : Cx) (pins : List (Addr × Obj)) (σ : St) (Q : List V → Hp → Prop) (us : List Value) (s' : Shared) : Prop := ∃ vs H', Inv X pins σ H' s' ∧ Vals vs us ∧ Q vs H'
noncomputable def SP (X : Cx) (pins : List (Addr × Obj)) (D : Ends) (f : Flow) (s' : Shared) : Prop :=
  match f with
  | .next => ∃ σ' H', Inv X pins σ' H' s' ∧ D.nx σ' H'
  | .brk => ∃ σ' H', Inv X pins σ' H' s' ∧ D.bk σ' H'
  | .cont => ∃ σ' H', Inv X pins σ' H' s' ∧ D.ct σ' H'
  | .ret u => ∃ v σ' H', Inv X pins σ' H' s' ∧ RelV v u ∧ D.rt v H'
noncomputable def PE (X : Cx) (e : Expr) (t : TE) : Prop :=
  ∀ (pins : List (Addr × Obj)) (s : Shared) (σ : St) (H : Hp) (Q : VK), Inv X pins σ H s → t σ H Q → wpAny (model X.prog X.w) X.A (eval e X.env) (EP X pins σ Q) X.xe s
noncomputable def PT (X : Cx) (e : Expr) (t : TT) : Prop :=
  ∀ (pins : List (Addr × Obj)) (s : Shared) (σ : St) (H : Hp) (Q : Bool → Hp → Prop), Inv X pins σ H s → t σ H Q → wpAny (model X.prog X.w) X.A (isTrue e X.env (eval e X.env)) (TP X pins σ Q) X.xe s
noncomputable def PW (X : Cx) (e : Expr) (t : TT) : Prop :=
  ∀ (whole : Sem Value) (pins : List (Addr × Obj)) (s : Shared) (σ : St) (H : Hp) (Q : Bool → Hp → Prop), Inv X pins σ H s → t σ H Q → wpAny (model X.prog X.w) X.A (isTrue e X.env whole) (TP X pins σ Q) X.xe s
theorem PW.pt {X : Cx} {e : Expr} {t : TT} (h : PW X e t) : PT X e t := h _
noncomputable def PA (X : Cx) (es : List Expr) (t : TA) : Prop :=
  ∀ (pos : Pos) (pins : List (Addr × Obj)) (s : Shared) (σ : St) (H : Hp) (Q : List V → Hp → Prop), Inv X pins σ H s → t σ H Q → wpAny (model X.prog X.w) X.A (spliced (backTo pos (starEach es X.env))) (AP X pins σ Q) X.xe s
noncomputable def PS (X : Cx) (st : Stmt) (t : TS) : Prop :=
  ∀ (pins : List (Addr × Obj)) (s : Shared) (σ : St) (H : Hp) (D : Ends), Inv X pins σ H s → t D σ H → wpAny (model X.prog X.w) X.A (exec st X.env) (SP X pins D) X.xe s
noncomputable def PSs (X : Cx) (st : List Stmt) (t : TS) : Prop :=
  ∀ (pins : List (Addr × Obj)) (s : Shared) (σ : St) (H : Hp) (D : Ends), Inv X pins σ H s → t D σ H → wpAny (model X.prog X.w) X.A (execs st X.env) (SP X pins D) X.xe s
theorem thn {α : Type} {t : Sem α} {Q Q' : α → Shared → Prop} {M : Model} {A : Around} {E : Value → Shared → Prop} {s : Shared} (h : wpAny M A t Q E s) (hQ : ∀ a s, Q a s → Q' a s) : wpAny M A t Q' E s := wpAny_mono h hQ fun _ _ x => x
end L2
namespace L2
open PySem PySem.Spec PyProof.Rows
section
variable {X : Cx}
theorem bin {a b : Expr} {ta tb : TE} (ha : PE X a ta) (hb : PE X b tb) {pins : List (Addr × Obj)} {s : Shared} {σ : St} {H : Hp} {R : V → V → Hp → Prop} (I : Inv X pins σ H s) (h : ta σ H fun x H1 => tb σ H1 fun y H2 => R x y H2)
    {α : Type} {Q : α → Shared → Prop} {f : Value → Value → Sem α}
    (hf : ∀ v u s2 x y H2, Inv X pins σ H2 s2 → RelV x v → RelV y u → R x y H2 → wpAny (model X.prog X.w) X.A (f v u) Q X.xe s2) :
    wpAny (model X.prog X.w) X.A (eval a X.env) (fun v s₁ => wpAny (model X.prog X.w) X.A (eval b X.env) (fun u s₂ => wpAny (model X.prog X.w) X.A (f v u) Q X.xe s₂) X.xe s₁) X.xe s := by
  refine thn (ha pins s σ H _ I h) fun v s1 ⟨x, H1, I1, r1, q1⟩ => ?_
  refine thn (hb pins s1 σ H1 _ I1 q1) fun u s2 ⟨y, H2, I2, r2, q2⟩ => ?_
  exact hf v u s2 x y H2 I2 r1 r2 q2
noncomputable def tVar (i : Nat) : TE := fun σ H Q => ∃ v, σ[i]? = some (some v) ∧ Q v H
noncomputable def tC (v : V) : TE := fun _ H Q => Q v H
theorem pe_var {i : Nat} {x : Str} {pos : Pos} (hN : X.N[i]? = some x) (hv : Vis X.env.scope x) (hd : (x == ("__debug__" : Str)) = false := by decide) (hcd : (x == ("__classdict__" : Str)) = false := by decide) : PE X (.Name x pos) (tVar i) := by
  intro pins s σ H Q I h
  obtain ⟨v, e, h⟩ := h
  obtain ⟨m, hn, hl⟩ := I.loc
  obtain ⟨u, r, l⟩ := hl i x v hN e hv
  have fin : EP X pins σ Q u s := ⟨v, H, I, r, h⟩
  rcases l with ⟨hk, hm⟩ | ⟨hk, c, hc, hcell⟩
  · exact wpAny_Name (wpAny_loadName_local I.ok.kind hk hn hm fin) hd
  · rcases hk with hk | hk
    · exact wpAny_Name (wpAny_loadName_cell I.ok.kind hk hc hcell fin) hd
    · exact wpAny_Name (wpAny_loadName_free I.ok.kind hk hc hcell fin hcd) hd
theorem pe_int {i j pos} : PE X (.Constant (.int i) j pos) (tC (.int i)) := fun _ _ _ H _ I h => wpAny_Constant_int ⟨.int i, H, I.tok _, ⟨_, rfl⟩, h⟩
theorem pe_bl {b j pos} : PE X (.Constant (.bool b) j pos) (tC (.bl b)) := fun _ _ _ H _ I h => Constant_bool ⟨.bl b, H, I, rfl, h⟩
theorem pe_non {j pos} : PE X (.Constant .none j pos) (tC .non) := fun _ _ _ H _ I h => Constant_none ⟨.non, H, I, rfl, h⟩
theorem pe_str {x j pos} : PE X (.Constant (.str x) j pos) (tC (.str x)) := fun _ _ _ H _ I h => Calls.Constant_str ⟨.str x, H, I.tok _, ⟨_, rfl⟩, h⟩
noncomputable def Gl (X : Cx) (x : Str) : Prop := X.env.kindOf x = some .globalImplicit
theorem ld_glob {E : Value → Shared → Prop} {pins : List (Addr × Obj)} {s : Shared} {σ : St} {H : Hp} {x : Str} {u : Value} {pos : Pos} {Q : Value → Shared → Prop} (I : Inv X pins σ H s) (hg : Gl X x) (hm : X.mg x = some u) (h : Q u s)
    (hd : (x == ("__debug__" : Str)) = false := by decide) : wpAny (model X.prog X.w) X.A (eval (.Name x pos) X.env) Q E s :=
  Calls.Name_function_global I.ok.kind hg (Calls.loadGlobal_global (by rw [I.ok.glob]; exact I.mod.glob.keeps I.bk) hm h) hd
theorem ld_blt {E : Value → Shared → Prop} {pins : List (Addr × Obj)} {s : Shared} {σ : St} {H : Hp} {x : Str} {u : Value} {pos : Pos} {Q : Value → Shared → Prop} (I : Inv X pins σ H s) (hg : Gl X x) (hm : X.mg x = none) (hv : bootBuiltins x = some u) (h : Q u s)
    (hn : x ≠ "__name__" := by decide) (hd : (x == ("__debug__" : Str)) = false := by decide) : wpAny (model X.prog X.w) X.A (eval (.Name x pos) X.env) Q E s := by
  obtain ⟨mb, h1, h2⟩ := I.mod.blt
  exact Calls.Name_function_global I.ok.kind hg (Calls.loadGlobal_builtin (by rw [I.ok.glob]; exact I.mod.glob.keeps I.bk) hm (by rw [I.ok.blt]; exact h1.keeps I.bk) ((h2 x hn).trans hv) h) hd
theorem pe_glob {x : Str} {v : V} {u : Value} {pos : Pos} (hg : Gl X x) (hm : X.mg x = some u) (r : RelV v u) (hd : (x == ("__debug__" : Str)) = false := by decide) : PE X (.Name x pos) (tC v) :=
  fun _ _ _ H _ I h => ld_glob I hg hm ⟨v, H, I, r, h⟩ hd
theorem pe_bltn {x : Str} {v : V} {u : Value} {pos : Pos} (hg : Gl X x) (hm : X.mg x = none) (hv : bootBuiltins x = some u) (r : RelV v u) (hn : x ≠ "__name__" := by decide) (hd : (x == ("__debug__" : Str)) = false := by decide) : PE X (.Name x pos) (tC v) :=
  fun _ _ _ H _ I h => ld_blt I hg hm hv ⟨v, H, I, r, h⟩ hn hd
variable {a b : Expr} {ta tb : TE} {pos : Pos}
noncomputable def PC (X : Cx) (op : CmpOp) (a b : Expr) (t : TE) : Prop :=
  ∀ (pins : List (Addr × Obj)) (s : Shared) (σ : St) (H : Hp) (Q : VK), Inv X pins σ H s → t σ H Q →
    wpAny (model X.prog X.w) X.A (eval a X.env) (fun v s₁ => wpAny (model X.prog X.w) X.A (eval b X.env) (fun u s₂ => wpAny (model X.prog X.w) X.A (compareOp op v u) (EP X pins σ Q) X.xe s₂) X.xe s₁) X.xe s
noncomputable def tB (t : TE) : TT := fun σ H Q => t σ H fun x H1 => ∃ c, x = .bl c ∧ Q c H1
theorem pt_cmp {op : CmpOp} {t : TE} (h : PC X op a b t) (h1 : behindInMarks op b = false := by first | exact nobehind _ (by decide) (by decide) | rfl) : PT X (.Compare a [op] [b] pos) (tB t) := by
  intro pins s σ H Q I hw
  refine wpAny_isTrue_Compare1 (thn (h pins s σ H _ I hw) fun v s1 h1 => thn h1 fun u s2 h2 => thn h2 fun c s3 ⟨x, H1, I1, r1, q1⟩ => ?_) h1
  obtain ⟨d, rfl, q⟩ := q1
  cases r1
  exact wpAny_truthy_bool ⟨H1, I1, q⟩
theorem pt_val {e : Expr} {t : TE} (h : PE X e t) (he : ∀ whole, isTrue e X.env whole = (do let v ← whole; standAt e.pos; holding [v] (truthy v)) := by intro _; rfl) : PT X e (tB t) := by
  intro pins s σ H Q I hw
  refine isTrue_plain (thn (h pins s σ H _ I hw) fun v s1 ⟨x, H1, I1, r1, q1⟩ => ?_) (he _)
  obtain ⟨d, rfl, q⟩ := q1
  cases r1
  exact wpAny_truthy_bool ⟨H1, I1, q⟩
variable {tA tB' : TT} {rest : List Expr}
noncomputable def tAnd (t u : TT) : TT := fun σ H Q => t σ H fun c H1 => if c = true then u σ H1 Q else Q false H1
noncomputable def tOr (t u : TT) : TT := fun σ H Q => t σ H fun c H1 => if c = true then Q true H1 else u σ H1 Q
noncomputable def tNot (t : TT) : TT := fun σ H Q => t σ H fun c H1 => Q (!c) H1
theorem pw_and1 (ha : PT X a tA) : PW X (.BoolOp .And [a] pos) tA := by
  intro wh pins s σ H Q I h
  refine isTrue_and (thn (ha pins s σ H Q I h) fun c s1 e => ?_)
  cases c with
  | true => exact isTrue_and_nil e
  | false => exact e
theorem pw_or1 (ha : PT X a tA) : PW X (.BoolOp .Or [a] pos) tA := by
  intro wh pins s σ H Q I h
  refine isTrue_or (thn (ha pins s σ H Q I h) fun c s1 e => ?_)
  cases c with
  | false => exact isTrue_or_nil e
  | true => exact e
theorem pw_and (ha : PT X a tA) (hb : PW X (.BoolOp .And (b :: rest) pos) tB') : PW X (.BoolOp .And (a :: b :: rest) pos) (tAnd tA tB') := by
  intro wh pins s σ H Q I h
  refine isTrue_and (thn (ha pins s σ H _ I h) fun c s1 ⟨H1, I1, q1⟩ => ?_)
  cases c with
  | true => exact hb wh pins s1 σ H1 Q I1 q1
  | false => exact ⟨H1, I1, q1⟩
theorem pw_or (ha : PT X a tA) (hb : PW X (.BoolOp .Or (b :: rest) pos) tB') : PW X (.BoolOp .Or (a :: b :: rest) pos) (tOr tA tB') := by
  intro wh pins s σ H Q I h
  refine isTrue_or (thn (ha pins s σ H _ I h) fun c s1 ⟨H1, I1, q1⟩ => ?_)
  cases c with
  | true => exact ⟨H1, I1, q1⟩
  | false => exact hb wh pins s1 σ H1 Q I1 q1
theorem pt_not (ha : PT X a tA) : PT X (.UnaryOp .Not a pos) (tNot tA) := by
  intro pins s σ H Q I h
  exact isTrue_not (ha pins s σ H (fun c H1 => Q (!c) H1) I h)
noncomputable def tAndV (ta tb : TE) : TE := fun σ H Q => ta σ H fun x H1 => ∃ c, x = .bl c ∧ if c = true then tb σ H1 Q else Q (.bl false) H1
noncomputable def tOrV (ta tb : TE) : TE := fun σ H Q => ta σ H fun x H1 => ∃ c, x = .bl c ∧ if c = true then Q (.bl true) H1 else tb σ H1 Q
noncomputable def tNotV (ta : TE) : TE := fun σ H Q => ta σ H fun x H1 => ∃ c, x = .bl c ∧ Q (.bl (!c)) H1
theorem pe_one {op} {t : TE} (h : PE X a t) : PE X (.BoolOp op [a] pos) t := fun pins s σ H Q I hw => BoolOp_one (h pins s σ H Q I hw)
theorem pe_and (ha : PE X a ta) (hb : PE X (.BoolOp .And (b :: rest) pos) tb) : PE X (.BoolOp .And (a :: b :: rest) pos) (tAndV ta tb) := by
  intro pins s σ H Q I h
  refine BoolOp_and (thn (ha pins s σ H _ I h) fun v s1 ⟨x, H1, I1, r1, q1⟩ => ?_)
  obtain ⟨c, rfl, q1⟩ := q1
  cases r1
  refine wpAny_truthy_bool ?_
  cases c with
  | true => exact hb pins s1 σ H1 Q I1 q1
  | false => exact ⟨.bl false, H1, I1, rfl, q1⟩
theorem pe_or (ha : PE X a ta) (hb : PE X (.BoolOp .Or (b :: rest) pos) tb) : PE X (.BoolOp .Or (a :: b :: rest) pos) (tOrV ta tb) := by
  intro pins s σ H Q I h
  refine BoolOp_or (thn (ha pins s σ H _ I h) fun v s1 ⟨x, H1, I1, r1, q1⟩ => ?_)
  obtain ⟨c, rfl, q1⟩ := q1
  cases r1
  refine wpAny_truthy_bool ?_
  cases c with
  | false => exact hb pins s1 σ H1 Q I1 q1
  | true => exact ⟨.bl true, H1, I1, rfl, q1⟩
theorem pe_not (ha : PE X a ta) : PE X (.UnaryOp .Not a pos) (tNotV ta) := by
  intro pins s σ H Q I h
  refine UnaryOp_ (thn (ha pins s σ H _ I h) fun v s1 ⟨x, H1, I1, r1, q1⟩ => ?_)
  obtain ⟨c, rfl, q1⟩ := q1
  cases r1
  exact not_of (wpAny_truthy_bool ⟨.bl (!c), H1, I1, rfl, q1⟩)
noncomputable def tIf (t : TT) (ta tb : TE) : TE := fun σ H Q => t σ H fun c H1 => if c = true then ta σ H1 Q else tb σ H1 Q
theorem pe_ifExp {c : Expr} (hc : PT X c tA) (ha : PE X a ta) (hb : PE X b tb) : PE X (.IfExp c a b pos) (tIf tA ta tb) := by
  intro pins s σ H Q I h
  refine wpAny_IfExp (thn (hc pins s σ H _ I h) fun d s1 ⟨H1, I1, q1⟩ => ?_)
  cases d with
  | true => exact ha pins s1 σ H1 Q I1 q1
  | false => exact hb pins s1 σ H1 Q I1 q1
end
end L2
namespace L2
open PySem PySem.Spec PyProof.Rows
noncomputable def SqL (K : PySem.W.Frag) (H : Hp) (a : Addr) (xs : List V) : Prop :=
  Rd H a (.lst xs) ∨
    ∃ (o : Obj) (its : Array Value) (n : Nat), K.lookup a = some o ∧ o.cls = .type "list" ∧ o.dict = none ∧ o.data = .seq its n ∧ its.size ≤ sizeLine ∧ Vals xs its.toList
noncomputable def SqT (K : PySem.W.Frag) (H : Hp) (a : Addr) (xs : List V) : Prop :=
  Rd H a (.tup xs) ∨
    ∃ (o : Obj) (its : Array Value) (n : Nat), K.lookup a = some o ∧ o.cls = .type "tuple" ∧ o.data = .seq its n ∧ its.size ≤ sizeLine ∧ Vals xs its.toList
noncomputable def absV : Value → Option V
  | .none => some .non
  | .bool b => some (.bl b)
  | .int i _ => some (.int i)
  | .str x _ => some (.str x)
  | .bytes b _ => some (.byt b)
  | .float b _ => some (.flt b)
  | .ref a => some (.ref a)
  | .type n => some (.ty n)
  | _ => none
theorem RelV.abs {x : V} {u : Value} (r : RelV x u) : absV u = some x := by
  cases x with
  | non => cases r; rfl
  | bl _ => cases r; rfl
  | int _ => obtain ⟨t, rfl⟩ := r; rfl
  | str _ => obtain ⟨t, rfl⟩ := r; rfl
  | byt _ => obtain ⟨t, rfl⟩ := r; rfl
  | flt _ => obtain ⟨t, rfl⟩ := r; rfl
  | ref _ => cases r; rfl
  | ty _ => cases r; rfl
theorem RelV.inj {x y : V} {u : Value} (r : RelV x u) (q : RelV y u) : x = y := Option.some.inj (r.abs.symm.trans q.abs)
theorem Vals.inj : ∀ {xs ys : List V} {us : List Value}, Vals xs us → Vals ys us → xs = ys
  | _, _, _, .nil, .nil => rfl
  | _, _, _, .cons r t, .cons r' t' => by rw [r.inj r', Vals.inj t t']
section
variable {X : Cx} {pins : List (Addr × Obj)} {σ : St} {H : Hp} {s : Shared} {a : Addr} {xs ys : List V}
theorem SqL.of {K : PySem.W.Frag} (h : H a = some (.lst xs)) : SqL K H a xs := .inl (.inl h)
theorem SqT.of {K : PySem.W.Frag} (h : H a = some (.tup xs)) : SqT K H a xs := .inl (.inl h)
theorem Inv.list (I : Inv X pins σ H s) (h : SqL X.K H a xs) : ∃ its : List Value, Vals xs its ∧ PlainL s.heap a its.toArray ∧ xs.length ≤ sizeLine := by
  rcases h with h | ⟨o, its, n, hk, hc, hd, hs, hz, r⟩
  · obtain ⟨z, its, n, r, e⟩ := h.ok I.hok
    exact ⟨its, r, ⟨_, n, e, rfl, rfl, rfl⟩, z⟩
  · refine ⟨its.toList, r, ⟨o, n, I.kIn a o hk, hc, hd, by simpa using hs⟩, ?_⟩
    have e := r.length
    simp only [Array.length_toList] at e
    omega
theorem Inv.tuple (I : Inv X pins σ H s) (h : SqT X.K H a xs) : ∃ its : List Value, Vals xs its ∧ IsTup s.heap a its.toArray ∧ xs.length ≤ sizeLine := by
  rcases h with h | ⟨o, its, n, hk, hc, hs, hz, r⟩
  · obtain ⟨z, its, r, p⟩ := h.ok I.hok
    exact ⟨its, r, p, z⟩
  · refine ⟨its.toList, r, ⟨o, I.kIn a o hk, hc, n, by simpa using hs⟩, ?_⟩
    have e := r.length
    simp only [Array.length_toList] at e
    omega
theorem Inv.list_inj (I : Inv X pins σ H s) (h : SqL X.K H a xs) (h' : SqL X.K H a ys) : xs = ys := by
  obtain ⟨its, r, ⟨o, n, e, _, _, d⟩, _⟩ := I.list h
  obtain ⟨its', r', ⟨o', n', e', _, _, d'⟩, _⟩ := I.list h'
  rw [e] at e'; cases e'
  rw [d] at d'
  injection d' with d1 _
  have : its = its' := by simpa using congrArg Array.toList d1
  subst this
  exact r.inj r'
theorem Inv.tuple_inj (I : Inv X pins σ H s) (h : SqT X.K H a xs) (h' : SqT X.K H a ys) : xs = ys := by
  obtain ⟨its, r, ⟨o, e, _, n, d⟩, _⟩ := I.tuple h
  obtain ⟨its', r', ⟨o', e', _, n', d'⟩, _⟩ := I.tuple h'
  rw [e] at e'; cases e'
  rw [d] at d'
  injection d' with d1 _
  have : its = its' := by simpa using congrArg Array.toList d1
  subst this
  exact r.inj r'
end
noncomputable abbrev Cx.wish (X : Cx) (E : Value → Shared → Prop) : Cx := { X with xe := E }
noncomputable abbrev Cx.nox (X : Cx) : Cx := X.wish fun _ _ => False
theorem Cx.Ok.wish {X : Cx} (ok : X.Ok) (E : Value → Shared → Prop) : (X.wish E).Ok :=
  ⟨ok.mod, ok.kind, ok.glob, ok.blt, ok.above, ok.inj, ok.has, ok.cab, ok.hd, ok.frames, ok.stk, ok.exf, ok.bs, ok.bsz, ok.noex, ok.exfs, ok.funs, ok.frf⟩
theorem Cx.Ok.unwish {X : Cx} {E : Value → Shared → Prop} (ok : (X.wish E).Ok) : X.Ok :=
  ⟨ok.mod, ok.kind, ok.glob, ok.blt, ok.above, ok.inj, ok.has, ok.cab, ok.hd, ok.frames, ok.stk, ok.exf, ok.bs, ok.bsz, ok.noex, ok.exfs, ok.funs, ok.frf⟩
section
variable {X : Cx} {pins : List (Addr × Obj)} {σ : St} {H : Hp} {s : Shared} {E : Value → Shared → Prop}
theorem Inv.wish (I : Inv X pins σ H s) (E : Value → Shared → Prop) : Inv (X.wish E) pins σ H s := ⟨I.ok.wish E, I.os, I.bare, I.base, I.loc, I.cell, I.free, I.freeC, I.pin, I.hok, I.len⟩
theorem Inv.unwish (I : Inv (X.wish E) pins σ H s) : Inv X pins σ H s := ⟨I.ok.unwish, I.os, I.bare, I.base, I.loc, I.cell, I.free, I.freeC, I.pin, I.hok, I.len⟩
theorem SP.unwish {D : Ends} {f : Flow} {s' : Shared} (h : SP (X.wish E) pins D f s') : SP X pins D f s' := by
  cases f with
  | next => obtain ⟨σ', H', I, q⟩ := h; exact ⟨σ', H', I.unwish, q⟩
  | brk => obtain ⟨σ', H', I, q⟩ := h; exact ⟨σ', H', I.unwish, q⟩
  | cont => obtain ⟨σ', H', I, q⟩ := h; exact ⟨σ', H', I.unwish, q⟩
  | ret u => obtain ⟨v, σ', H', I, r, q⟩ := h; exact ⟨v, σ', H', I.unwish, r, q⟩
theorem PSs.nox {st : List Stmt} {t : TS} (h : PSs X.nox st t) : PSs X st t := fun pins s σ H D I hw =>
  wpAny_mono (h pins s σ H D (I.wish _) hw) (fun _ _ q => q.unwish) fun _ _ z => False.elim z
end
section
variable {X : Cx} {st : Stmt} {rest : List Stmt} {t u : TS} {e : Expr} {te : TE} {pos : Pos}
noncomputable def tNext : TS := fun D σ H => D.nx σ H
noncomputable def tSeq (t u : TS) : TS := fun D σ H => t { D with nx := u D } σ H
theorem pss_nil : PSs X [] tNext := fun _ _ σ H _ I h => wpAny_execs_nil ⟨σ, H, I, h⟩
theorem pss_cons (h1 : PS X st t) (h2 : PSs X rest u) : PSs X (st :: rest) (tSeq t u) := by
  intro pins s σ H D I h
  refine wpAny_execs_cons (thn (h1 pins s σ H { D with nx := u D } I h) fun f s1 q => ?_)
  cases f with
  | next =>
    obtain ⟨σ', H', I', q⟩ := q
    exact h2 pins s1 σ' H' D I' q
  | ret v => exact q
  | brk => exact q
  | cont => exact q
theorem pss_one (h1 : PS X st t) : PSs X [st] t := by
  intro pins s σ H D I h
  refine wpAny_execs_cons (thn (h1 pins s σ H D I h) fun f s1 q => ?_)
  cases f with
  | next => exact wpAny_execs_nil q
  | ret v => exact q
  | brk => exact q
  | cont => exact q
theorem ps_pass : PS X (.Pass pos) tNext := fun _ _ σ H _ I h => wpAny_Pass ⟨σ, H, I, h⟩
theorem Inv.quiet {pins : List (Addr × Obj)} {σ : St} {H : Hp} {s : Shared} (I : Inv X pins σ H s) : interactive X.env = false := by simp [interactive, I.ok.kind]
noncomputable def tDrop (te : TE) : TS := fun D σ H => te σ H fun _ H1 => D.nx σ H1
theorem ps_expr (he : PE X e te) (hs : swapsWith e none pos.line X.env = pure false := by rfl) : PS X (.Expr e pos) (tDrop te) := by
  intro pins s σ H D I h
  exact wpAny_Expr_any (thn (he pins s σ H _ I h) fun v s1 ⟨x, H1, I1, r1, q1⟩ => ⟨σ, H1, I1, q1⟩) I.quiet hs
noncomputable def tRet (te : TE) : TS := fun D σ H => te σ H D.rt
theorem ps_ret (he : PE X e te) : PS X (.Return (some e) pos) (tRet te) := by
  intro pins s σ H D I h
  exact wpAny_Return_some (thn (he pins s σ H _ I h) fun v s1 ⟨x, H1, I1, r1, q1⟩ => ⟨x, σ, H1, I1, r1, q1⟩)
noncomputable def tIfS (c : TT) (t u : TS) : TS := fun D σ H => c σ H fun b H1 => if b = true then t D σ H1 else u D σ H1
theorem ps_if {c : Expr} {a b : List Stmt} {tc : TT} (hc : PT X c tc) (ha : PSs X a t) (hb : PSs X b u) : PS X (.If c a b pos) (tIfS tc t u) := by
  intro pins s σ H D I h
  refine wpAny_If (thn (hc pins s σ H _ I h) fun d s1 ⟨H1, I1, q1⟩ => ?_)
  cases d with
  | true => exact ha pins s1 σ H1 D I1 q1
  | false => exact hb pins s1 σ H1 D I1 q1
end
noncomputable abbrev TG := V → St → Hp → (St → Hp → Prop) → Prop
noncomputable abbrev TGs := List V → St → Hp → (St → Hp → Prop) → Prop
noncomputable def PG (X : Cx) (target : Expr) (t : TG) : Prop :=
  ∀ (pins : List (Addr × Obj)) (s : Shared) (σ : St) (H : Hp) (v : V) (u : Value) (Q : St → Hp → Prop), Inv X pins σ H s → RelV v u → t v σ H Q →
    wpAny (model X.prog X.w) X.A (assign target X.env u) (fun _ s' => ∃ σ' H', Inv X pins σ' H' s' ∧ Q σ' H') X.xe s
noncomputable def PGs (X : Cx) (ts : List Expr) (t : TGs) : Prop :=
  ∀ (pins : List (Addr × Obj)) (s : Shared) (σ : St) (H : Hp) (vs : List V) (us : List Value) (Q : St → Hp → Prop), Inv X pins σ H s → Vals vs us → t vs σ H Q →
    wpAny (model X.prog X.w) X.A (assignInOrder ((assignEach ts X.env).map (·.2)) us) (fun _ s' => ∃ σ' H', Inv X pins σ' H' s' ∧ Q σ' H') X.xe s
noncomputable abbrev TSet := V → V → V → Hp → (Hp → Prop) → Prop
noncomputable def PSet (X : Cx) (t : TSet) : Prop :=
  ∀ (pins : List (Addr × Obj)) (s : Shared) (σ : St) (H : Hp) (o i v : V) (ov iv u : Value) (Q : Hp → Prop), Inv X pins σ H s → RelV o ov → RelV i iv → RelV v u → t o i v H Q →
    wpAny (model X.prog X.w) X.A (setItem ov iv u) (fun _ s' => ∃ H', Inv X pins σ H' s' ∧ Q H') X.xe s
section
variable {X : Cx} {pos : Pos}
noncomputable def gName (i : Nat) : TG := fun v σ H Q => Q (σ.set i (some v)) H
theorem pg_name {i : Nat} {x : Str} (hN : X.N.Nodup) (hi : X.N[i]? = some x) (hx : Loc X.env.scope x) (hf : X.fn x = true ∨ X.env.scope.names.lookup x = some .local := by first | exact .inl rfl | exact .inr rfl | assumption) : PG X (.Name x pos) (gName i) := by
  intro pins s σ H v u Q I r h
  exact wpAny_assign_Name (store_ok I hN hi hx r (fun s' I' => ⟨_, H, I', h⟩) hf)
noncomputable def gNil : TGs := fun vs σ H Q => vs = [] ∧ Q σ H
noncomputable def gCons (t : TG) (u : TGs) : TGs := fun vs σ H Q => ∃ v r, vs = v :: r ∧ t v σ H fun σ' H' => u r σ' H' Q
theorem pgs_nil : PGs X [] gNil := by
  intro pins s σ H vs us Q I r h
  obtain ⟨e, h⟩ := h
  subst e
  cases r
  exact assignInOrder_nil ⟨σ, H, I, h⟩
theorem pgs_cons {e : Expr} {es : List Expr} {t : TG} {u : TGs} (h1 : PG X e t) (h2 : PGs X es u)
    (hs : (assignEach (e :: es) X.env).map (·.2) = assign e X.env :: (assignEach es X.env).map (·.2) := by rfl) : PGs X (e :: es) (gCons t u) := by
  intro pins s σ H vs us Q I r h
  obtain ⟨v, vr, e1, h⟩ := h
  subst e1
  cases r with
  | cons r rr =>
    rw [hs]
    refine assignInOrder_cons (thn (h1 pins s σ H _ _ _ I r h) fun _ s1 ⟨σ1, H1, I1, q1⟩ => ?_)
    exact h2 pins s1 σ1 H1 _ _ Q I1 rr q1
noncomputable def gTup (K : PySem.W.Frag) (n : Nat) (t : TGs) : TG := fun v σ H Q => ∃ a xs, v = .ref a ∧ SqT K H a xs ∧ xs.length = n ∧ t xs σ H Q
theorem pg_tup {es : List Expr} {k : Nat} {t : TGs} {n : Nat} (hc : X.calm = true) (h : PGs X es t)
    (hn : (assignEach es X.env).length = n := by rfl) (hst : (assignEach es X.env).findIdx? (·.1) = none := by rfl) : PG X (.Tuple es k pos) (gTup X.K n t) := by
  intro pins s σ H v u Q I r hw
  obtain ⟨a, xs, e1, hq, hl, hw⟩ := hw
  subst e1
  cases r
  obtain ⟨its, rv, ht, hz⟩ := I.tuple hq
  refine assign_Tuple_tuple (I.ok.hd hc) ht (by simp [hn, ← hl, rv.length]) hst fun h' hx => ?_
  have I1 : Inv X pins σ H { s with heap := h' } := I.kept (t' := s.toks) fun b o e => hx b o (Nat.ne_of_lt (Heap.lt_size e)) e
  exact h pins _ σ H xs _ Q I1 (by simpa using rv) hw
noncomputable def gSub (to ti : TE) (t : TSet) : TG := fun v σ H Q => to σ H fun o H1 => ti σ H1 fun i H2 => t o i v H2 fun H3 => Q σ H3
theorem pg_sub {o i : Expr} {to ti : TE} {t : TSet} (ho : PE X o to) (hi : PE X i ti) (hs : PSet X t)
    (ha : ∀ v, assign (.Subscript o i pos) X.env v = (do
      let ov ← holding [v] (eval o X.env)
      let iv ← holding [v, ov] (eval i X.env)
      standAt pos
      holding [v, ov, iv] (setItem ov iv v)
      release [v, ov, iv] []) := by intro _; rfl) : PG X (.Subscript o i pos) (gSub to ti t) := by
  intro pins s σ H v u Q I r h
  rw [ha]
  refine wpAny_bind (wpAny_holding (thn (ho pins s σ H _ I h) fun ov s1 ⟨x, H1, I1, r1, q1⟩ => ?_))
  refine wpAny_bind (wpAny_holding (thn (hi pins s1 σ H1 _ I1 q1) fun iv s2 ⟨y, H2, I2, r2, q2⟩ => ?_))
  refine wpAny_bind (wpAny_standAt (wpAny_bind (wpAny_holding (thn (hs pins s2 σ H2 x y v ov iv u _ I2 r1 r2 r q2) fun _ s3 ⟨H3, I3, q3⟩ => ?_))))
  exact wpAny_release ⟨σ, H3, I3, q3⟩
noncomputable def tAsg (te : TE) (g : TG) : TS := fun D σ H => te σ H fun x H1 => g x σ H1 D.nx
theorem ps_asg {tg e : Expr} {te : TE} {g : TG} (he : PE X e te) (hg : PG X tg g) (hs : swapsWithSole [tg] e pos.line X.env = pure false := by rfl) (hw : swappedStores [tg] e X.env = pure none := by rfl)
    (h1 : (assignEach [tg] X.env).map (·.2) = [assign tg X.env] := by rfl) : PS X (.Assign [tg] e pos) (tAsg te g) := by
  intro pins s σ H D I h
  refine wpAny_Assign_stores (thn (he pins s σ H _ I h) fun v s1 ⟨x, H1, I1, r1, q1⟩ => ?_) hs hw
  rw [h1]
  exact thn (hg pins s1 σ H1 x v _ I1 r1 q1) fun _ s2 q => q
theorem ps_set {i : Nat} {x : Str} {e : Expr} {te : TE} {pos' : Pos} (hN : X.N.Nodup) (hi : X.N[i]? = some x) (hx : Loc X.env.scope x) (he : PE X e te) (hs : swapsWith e (some (.Name x pos')) pos.line X.env = pure false := by rfl) (hf : X.fn x = true ∨ X.env.scope.names.lookup x = some .local := by first | exact .inl rfl | exact .inr rfl | assumption) :
    PS X (.Assign [.Name x pos'] e pos) (tAsg te (gName i)) := by
  intro pins s σ H D I h
  refine wpAny_Assign_Name (thn (he pins s σ H _ I h) fun v s1 ⟨y, H1, I1, r1, q1⟩ => ?_) hs
  exact store_ok I1 hN hi hx r1 (fun s2 I2 => ⟨_, H1, I2, q1⟩) hf
end
section
variable {X : Cx} {pos : Pos}
noncomputable def tWhile (c : TT) (tb : TS) : TS := fun D σ H => ∃ W : Nat → St → Hp → Prop, (∃ m, W m σ H) ∧ ∀ m σ H, W m σ H →
  c σ H fun b H1 => if b = true then ∃ N : St → Hp → Prop, (∀ σ' H', N σ' H' → ∃ m', m' < m ∧ W m' σ' H') ∧ tb { D with nx := N, ct := N, bk := D.nx } σ H1 else D.nx σ H1
theorem ps_while {c : Expr} {body : List Stmt} {tc : TT} {tb : TS} (hp : PassesOwn (model X.prog X.w) X.A X.env X.xe) (hc : PT X c tc) (hb : PSs X body tb) : PS X (.While c body [] pos) (tWhile tc tb) := by
  intro pins s σ H D I h
  obtain ⟨W, ⟨m0, w0⟩, turn⟩ := h
  refine wpAny_While (codeAny_whileLoop (fun n s' => ∃ σ' H', Inv X pins σ' H' s' ∧ W n σ' H') ?_ m0 ⟨σ, H, I, w0⟩)
  rintro n s1 ⟨σ1, H1, I1, w1⟩
  refine wpAny_passesOwn hp (thn (hc pins s1 σ1 H1 _ I1 (turn n σ1 H1 w1)) fun b s2 ⟨H2, I2, q2⟩ => ?_)
  cases b with
  | true =>
    obtain ⟨N, hN, q2⟩ := q2
    rw [if_pos rfl]
    refine wpAny_passesOwn hp (thn (hb pins s2 σ1 H2 _ I2 q2) fun f s3 q3 => ?_)
    cases f with
    | next =>
      obtain ⟨σ3, H3, I3, n3⟩ := q3
      obtain ⟨m', hm, w3⟩ := hN σ3 H3 n3
      exact ⟨m', hm, σ3, H3, I3, w3⟩
    | cont =>
      obtain ⟨σ3, H3, I3, n3⟩ := q3
      obtain ⟨m', hm, w3⟩ := hN σ3 H3 n3
      exact ⟨m', hm, σ3, H3, I3, w3⟩
    | brk => exact q3
    | ret v => exact q3
  | false =>
    rw [if_neg Bool.false_ne_true]
    exact wpAny_execs_nil ⟨σ1, H2, I2, q2⟩
end
structure It where
  go : Nat → Hp → Prop
  yld : Nat → Hp → V → Hp → Prop
  stop : Nat → Hp → Prop
noncomputable def FpOk (X : Cx) (pins : List (Addr × Obj)) (H : Hp) (b : Addr) : Prop :=
  H b = none ∧ b ≠ X.env.locals ∧ b ∉ X.fs ∧ (b ∈ X.ex ∨ X.s₀.heap.objs.size ≤ b) ∧ (∀ x c, X.env.cells.lookup x = some c → c ≠ b) ∧ ∀ p ∈ X.pn ++ pins, p.1 ≠ b
theorem Inv.fpOk {X : Cx} {pins : List (Addr × Obj)} {σ : St} {H H' : Hp} {s : Shared} {b : Addr} (I : Inv X pins σ H s) (hb : s.heap.objs.size ≤ b) (hn : H' b = none) : FpOk X pins H' b := by
  refine ⟨hn, Nat.ne_of_gt (Nat.lt_of_lt_of_le I.lt hb), I.nofs hb, .inr (Nat.le_trans I.sz hb), fun x c e z => ?_, fun p hp z => ?_⟩
  · obtain ⟨v, q⟩ := I.cell x c e
    exact absurd (Nat.lt_of_lt_of_le q.lt (by rw [z]; exact hb)) (Nat.lt_irrefl _)
  · exact absurd (Nat.lt_of_lt_of_le (Heap.lt_size (I.pin p hp).1) (by rw [z]; exact hb)) (Nat.lt_irrefl _)
structure Turn (P : Program) (w : World) (K : PySem.W.Frag) (tg : Expr) (J : It) (fp : List Addr) (it : Addr) (tn : Nat → Heap → Prop) : Prop where
  mem : it ∈ fp
  obj : ∀ i h, tn i h → ∀ b ∈ fp, ∃ o, h.get? b = some o ∧ ∀ v, o.data ≠ .cell v
  keep : ∀ i h h', tn i h → (∀ b ∈ fp, ∀ o, h.get? b = some o → h'.get? b = some o) → tn i h'
  item : ∀ (X : Cx), X.prog = P → X.w = w → X.K = K → X.calm = true → ∀ (i : Nat) (pins : List (Addr × Obj)) (s : Shared) (σ : St) (H : Hp) (E : Value → Shared → Prop), Inv X pins σ H s → (∀ b ∈ fp, FpOk X pins H b) → tn i s.heap → J.go i H →
    wpAny (model P w) X.A (pyNext (.ref it)) (fun r s1 => ∃ u, r = some u ∧
      wpAny (model P w) X.A (letOwnedTupleGo tg (.ref it) u) (fun _ s2 => ∃ x H', Inv X pins σ H' s2 ∧ RelV x u ∧ J.yld i H x H' ∧ tn (i + 1) s2.heap ∧ ∀ b ∈ fp, H' b = none) E s1) E s
  done : ∀ (X : Cx), X.prog = P → X.w = w → X.K = K → X.calm = true → ∀ (i : Nat) (pins : List (Addr × Obj)) (s : Shared) (σ : St) (H : Hp) (E : Value → Shared → Prop), Inv X pins σ H s → (∀ b ∈ fp, FpOk X pins H b) → tn i s.heap → J.stop i H →
    wpAny (model P w) X.A (pyNext (.ref it)) (fun r s1 => r = none ∧ Inv X pins σ H s1) E s
  self : ∀ (A : Around) (i : Nat) (s : Shared) (Q : Value → Shared → Prop) (E : Value → Shared → Prop), tn i s.heap → Q (.ref it) s → wpAny (model P w) A (pyIter (.ref it)) Q E s
noncomputable abbrev TI := St → Hp → (It → Hp → Prop) → Prop
noncomputable def PIE (X : Cx) (pins : List (Addr × Obj)) (σ : St) (tg : Expr) (R : It → Hp → Prop) (itv : Value) (s2 : Shared) : Prop :=
  ∃ (it : Addr) (fp : List Addr) (tn : Nat → Heap → Prop) (J : It) (H' : Hp), itv = .ref it ∧ Inv X pins σ H' s2 ∧ Turn X.prog X.w X.K tg J fp it tn ∧ tn 0 s2.heap ∧ (∀ b ∈ fp, FpOk X pins H' b) ∧ R J H'
noncomputable def PI (X : Cx) (tg iter : Expr) (wi : TI) : Prop :=
  ∀ (pins : List (Addr × Obj)) (s : Shared) (σ : St) (H : Hp) (R : It → Hp → Prop), Inv X pins σ H s → wi σ H R →
    wpAny (model X.prog X.w) X.A (eval iter X.env) (fun v s1 => wpAny (model X.prog X.w) X.A (pyIter v) (PIE X pins σ tg R) X.xe s1) X.xe s
theorem go_of {M : Model} {A : Around} {E : Value → Shared → Prop} {s : Shared} {tg : Expr} {it : Addr} {u : Value} {o : Obj} {n : String} {vs : Array Value} {Q : Unit → Shared → Prop} (ho : s.heap.get? it = some o) (hc : o.cls = .type n) (hd : o.data = .fields vs)
    (hn : ["enumerate", "zip", "dict_itemiterator", "dict_reverseitemiterator", "odict_iterator", "itertools.zip_longest", "itertools.pairwise"].contains n = false) (hQ : Q () s) : wpAny M A (letOwnedTupleGo tg (.ref it) u) Q E s := by
  unfold letOwnedTupleGo
  cases tg <;> first
    | exact wpAny_pure hQ
    | (cases u <;> first
        | exact wpAny_pure hQ
        | (refine wpAny_bind (wpAny_load ho ?_)
           rw [hc, hd]
           show wpAny M A (if (["enumerate", "zip", "dict_itemiterator", "dict_reverseitemiterator", "odict_iterator", "itertools.zip_longest", "itertools.pairwise"].contains n && vs[0]? == some (rawInt _)) = true then _ else _) Q E s
           rw [if_neg (by intro h; rw [hn, Bool.false_and] at h; cases h)]
           exact wpAny_pure hQ))
noncomputable def Itl (K : PySem.W.Frag) (a : Addr) : It :=
  ⟨fun i H => ∃ xs x, SqL K H a xs ∧ xs[i]? = some x, fun i H x H' => H' = H ∧ ∀ xs, SqL K H a xs → xs[i]? = some x, fun i H => ∃ xs, SqL K H a xs ∧ xs.length ≤ i⟩
noncomputable def Itt (K : PySem.W.Frag) (a : Addr) : It :=
  ⟨fun i H => ∃ xs x, SqT K H a xs ∧ xs[i]? = some x, fun i H x H' => H' = H ∧ ∀ xs, SqT K H a xs → xs[i]? = some x, fun i H => ∃ xs, SqT K H a xs ∧ xs.length ≤ i⟩
noncomputable def Itr (lo : Int) (n : Nat) : It := ⟨fun i _ => i < n, fun i H x H' => H' = H ∧ x = .int (lo + i), fun i _ => n ≤ i⟩
theorem turn_list {P : Program} {w : World} {K : PySem.W.Frag} {tg : Expr} (a it : Addr) : Turn P w K tg (Itl K a) [it] it (fun i h => h.IsListIter it a i) where
  mem := by simp
  obj := fun i h st b hb => by
    have e : b = it := by simpa using hb
    subst e
    obtain ⟨o, e, c, d⟩ := st
    exact ⟨o, e, fun v z => by rw [d] at z; cases z⟩
  keep := fun i h h' st k => st.at fun o e => k it (by simp) o e
  item := by
    intro X hP hw hK hc i pins s σ H E I hf st hg
    subst hP hw hK
    obtain ⟨xs, x, hq, hx⟩ := hg
    obtain ⟨its, rv, p, hz⟩ := I.list hq
    obtain ⟨u, hu, ru⟩ := rv.get hx
    obtain ⟨f0, f1, f2, f3, f4, f5⟩ := hf it (by simp)
    refine wpAny_pyNext_list_item st p.isList (x := u) (by simpa using hu) fun h' st' sb => ?_
    have I1 : Inv X pins σ H { s with heap := h' } := I.turned (t' := s.toks) (fun b o hb e => (sb.2 b hb).trans e) f0 f1 f3 f4 f5
    obtain ⟨o, e, c, d⟩ := id st'
    exact ⟨u, rfl, go_of (s := { s with heap := h' }) e c d (by decide) ⟨x, H, I1, ru, ⟨rfl, fun ys hy => by rw [I.list_inj hy hq]; exact hx⟩, st', fun b hb => (hf b hb).1⟩⟩
  done := by
    intro X hP hw hK hc i pins s σ H E I hf st hg
    subst hP hw hK
    obtain ⟨xs, hq, hx⟩ := hg
    obtain ⟨its, rv, p, hz⟩ := I.list hq
    obtain ⟨f0, f1, f2, f3, f4, f5⟩ := hf it (by simp)
    have hl := rv.length
    exact wpAny_pyNext_list_end (I.ok.hd hc) st p.isList (by simp; omega) fun h' eb => ⟨rfl, I.turned (t' := s.toks) (fun b o hb e => eb b o hb e) f0 f1 f3 f4 f5⟩
  self := fun _ _ _ _ _ st h => wpAny_pyIter_listiter st h
theorem turn_tuple {P : Program} {w : World} {K : PySem.W.Frag} {tg : Expr} (a it : Addr) : Turn P w K tg (Itt K a) [it] it (fun i h => h.IsTupleIter it a i) where
  mem := by simp
  obj := fun i h st b hb => by
    have e : b = it := by simpa using hb
    subst e
    obtain ⟨o, e, c, d⟩ := st
    exact ⟨o, e, fun v z => by rw [d] at z; cases z⟩
  keep := fun i h h' st k => st.at fun o e => k it (by simp) o e
  item := by
    intro X hP hw hK hc i pins s σ H E I hf st hg
    subst hP hw hK
    obtain ⟨xs, x, hq, hx⟩ := hg
    obtain ⟨its, rv, p, hz⟩ := I.tuple hq
    obtain ⟨u, hu, ru⟩ := rv.get hx
    obtain ⟨f0, f1, f2, f3, f4, f5⟩ := hf it (by simp)
    refine wpAny_pyNext_tuple_item st (show s.heap.IsTuple a its.toArray from p) (x := u) (by simpa using hu) fun h' st' sb => ?_
    have I1 : Inv X pins σ H { s with heap := h' } := I.turned (t' := s.toks) (fun b o hb e => (sb.2 b hb).trans e) f0 f1 f3 f4 f5
    obtain ⟨o, e, c, d⟩ := id st'
    exact ⟨u, rfl, go_of (s := { s with heap := h' }) e c d (by decide) ⟨x, H, I1, ru, ⟨rfl, fun ys hy => by rw [I.tuple_inj hy hq]; exact hx⟩, st', fun b hb => (hf b hb).1⟩⟩
  done := by
    intro X hP hw hK hc i pins s σ H E I hf st hg
    subst hP hw hK
    obtain ⟨xs, hq, hx⟩ := hg
    obtain ⟨its, rv, p, hz⟩ := I.tuple hq
    obtain ⟨f0, f1, f2, f3, f4, f5⟩ := hf it (by simp)
    have hl := rv.length
    exact wpAny_pyNext_tuple_end (I.ok.hd hc) st (show s.heap.IsTuple a its.toArray from p) (by simp; omega) fun h' eb => ⟨rfl, I.turned (t' := s.toks) (fun b o hb e => eb b o hb e) f0 f1 f3 f4 f5⟩
  self := fun _ _ _ _ _ st h => wpAny_pyIter_tupleiter st h
theorem turn_range {P : Program} {w : World} {K : PySem.W.Frag} {tg : Expr} (it : Addr) (lo : Int) (n : Nat) : Turn P w K tg (Itr lo n) [it] it (fun i h => IsRangeIter h it (lo + (i : Nat) * 1) ((n : Int) - (i : Nat)) 1) where
  mem := by simp
  obj := fun i h st b hb => by
    have e : b = it := by simpa using hb
    subst e
    exact ⟨_, st, fun v z => by
      have z' : Data.fields _ = Data.cell v := z
      cases z'⟩
  keep := fun i h h' st k => k it (by simp) _ st
  item := by
    intro X hP hw hK hc i pins s σ H E I hf st hg
    subst hP hw hK
    obtain ⟨f0, f1, f2, f3, f4, f5⟩ := hf it (by simp)
    have W := Walks.range (prog := X.prog) (w := X.w) (I.ok.hd hc) it lo 1 n
    refine W.item i s _ _ hg st fun v h' tk hv st' kk => ?_
    obtain ⟨t, rfl⟩ := hv
    have I1 : Inv X pins σ H { s with heap := h', toks := tk } := I.turned (fun b o hb e => kk b o (by simpa using hb) e) f0 f1 f3 f4 f5
    refine ⟨_, rfl, go_of (s := { s with heap := h', toks := tk }) (n := "range_iterator") st' rfl rfl (by decide) ⟨.int (lo + i), H, I1, ⟨t, ?_⟩, ⟨rfl, rfl⟩, st', fun b hb => (hf b hb).1⟩⟩
    rw [Int.mul_one]
  done := by
    intro X hP hw hK hc i pins s σ H E I hf st hg
    subst hP hw hK
    obtain ⟨f0, f1, f2, f3, f4, f5⟩ := hf it (by simp)
    exact wpAny_pyNext_range_end (I.ok.hd hc) st (by have : n ≤ i := hg; omega) fun h' eb => ⟨rfl, I.turned (t' := s.toks) (fun b o hb e => eb b o hb e) f0 f1 f3 f4 f5⟩
  self := fun _ _ _ _ _ st h => wpAny_pyIter_rangeiter st h
end L2
namespace L2
open PySem PySem.Spec PyProof.Rows
section
variable {X : Cx} {tg : Expr}
noncomputable def iList (K : PySem.W.Frag) (tl : TE) : TI := fun σ H R => tl σ H fun x H1 => ∃ a, x = .ref a ∧ (∃ xs, SqL K H1 a xs) ∧ R (Itl K a) H1
theorem pi_list {l : Expr} {tl : TE} (hl : PE X l tl) : PI X tg l (iList X.K tl) := by
  intro pins s σ H R I h
  refine thn (hl pins s σ H _ I h) fun v s1 ⟨x, H1, I1, r1, q1⟩ => ?_
  obtain ⟨a, e, ⟨xs, hq⟩, q⟩ := q1
  subst e
  cases r1
  obtain ⟨its, rv, p, hz⟩ := I1.list hq
  refine wpAny_pyIter_list p.isList ?_
  refine ⟨s1.heap.objs.size, [s1.heap.objs.size], _, _, H1, rfl, I1.kept (t' := s1.toks) fun b o e => Heap.get?_push_of_some _ e, turn_list a _, ⟨_, Heap.get?_push_size _ rfl, rfl, rfl⟩, fun b hb => ?_, q⟩
  have e : b = s1.heap.objs.size := by simpa using hb
  subst e
  exact I1.fpOk (Nat.le_refl _) (I1.hok.fresh (Nat.le_refl _))
theorem range_it {pins : List (Addr × Obj)} {σ : St} {H : Hp} {s : Shared} {R : It → Hp → Prop} {E : Value → Shared → Prop} {lo hi : Int} {t u v : Tok} {tk : Nat} (I : Inv X pins σ H s) (h1 : -(2 ^ 62) ≤ lo) (h2 : lo < 2 ^ 62) (h3 : -(2 ^ 62) ≤ hi) (h4 : hi < 2 ^ 62)
    (q : R (Itr lo (hi - lo).toNat) H) : wpAny (model X.prog X.w) X.A (pyIter (.ref s.heap.objs.size)) (PIE X pins σ tg R) E { s with heap := s.heap.push { cls := .type "range", data := .fields #[.int lo t, .int hi u, .int 1 v] }, toks := tk } := by
  refine wpAny_pyIter_range (IsRange.new ..) (small_one h1 h2 h3 h4) ?_
  have I1 : Inv X pins σ H { s with heap := s.heap.push { cls := .type "range", data := .fields #[.int lo t, .int hi u, .int 1 v] }, toks := tk } := I.kept fun b o e => Heap.get?_push_of_some _ e
  refine ⟨(s.heap.push { cls := .type "range", data := .fields #[.int lo t, .int hi u, .int 1 v] }).objs.size, [(s.heap.push { cls := .type "range", data := .fields #[.int lo t, .int hi u, .int 1 v] }).objs.size], _, _, H, rfl,
    I1.kept (t' := tk) fun b o e => Heap.get?_push_of_some _ e, turn_range _ lo (hi - lo).toNat, ?_, fun b hb => ?_, q⟩
  · have e1 : lo + ((0 : Nat) : Int) * 1 = lo := by simp
    have e2 : (((hi - lo).toNat : Nat) : Int) - ((0 : Nat) : Int) = Builtin.Range.rangeSize lo hi 1 := by rw [rangeSize_one]; split <;> omega
    show IsRangeIter _ _ (lo + ((0 : Nat) : Int) * 1) ((((hi - lo).toNat : Nat) : Int) - ((0 : Nat) : Int)) 1
    rw [e1, e2]
    exact Heap.get?_push_size _ rfl
  · have e : b = (s.heap.push { cls := .type "range", data := .fields #[.int lo t, .int hi u, .int 1 v] }).objs.size := by simpa using hb
    subst e
    exact I1.fpOk (Nat.le_refl _) (I1.hok.fresh (Nat.le_refl _))
noncomputable def iRng1 (ta : TA) : TI := fun σ H R => ta σ H fun vs H1 => ∃ j : Int, vs = [.int j] ∧ -(2 ^ 62) ≤ j ∧ j < 2 ^ 62 ∧ R (Itr 0 j.toNat) H1
theorem pi_range1 {a : Expr} {ta : TA} {p pos : Pos} (hg : Gl X "range") (hm : X.mg "range" = none) (ha : PA X [a] ta) (hs : starEach [a] X.env = [(false, eval a X.env)] := by rfl) : PI X tg (.Call (.Name "range" p) [a] [] pos) (iRng1 ta) := by
  intro pins s σ H R I h
  refine Call_ (ld_blt I hg hm boot_range (PyProof.Rows.callWith_type1 (thn (ha pos pins s σ H _ I h) fun us s1 ⟨vs, H1, I1, r1, q1⟩ => ?_) hs rfl))
  obtain ⟨j, e, q1, q2, q⟩ := q1
  subst e
  cases r1 with
  | cons r rr =>
    cases rr
    obtain ⟨t, rfl⟩ := r
    exact call_range_1 (range_it I1 (by omega) (by omega) q1 q2 (by simpa using q))
noncomputable def tFor (wi : TI) (g : TG) (tb : TS) : TS := fun D σ H => wi σ H fun J H1 => ∃ W : Nat → Nat → St → Hp → Prop, (∃ m, W 0 m σ H1) ∧ ∀ i m σ H, W i m σ H →
  (J.stop i H ∧ D.nx σ H) ∨ (J.go i H ∧ ∃ N : St → Hp → Prop, (∀ σ' H', N σ' H' → ∃ m', m' < m ∧ W (i + 1) m' σ' H') ∧ ∀ x H', J.yld i H x H' → g x σ H' fun σ2 H2 => tb { D with nx := N, ct := N, bk := D.nx } σ2 H2)
noncomputable def pinsAt (fp : List Addr) (h : Heap) : List (Addr × Obj) := fp.filterMap fun b => (h.get? b).map fun o => (b, o)
theorem mem_pinsAt {fp : List Addr} {h : Heap} {b : Addr} {o : Obj} (hb : b ∈ fp) (e : h.get? b = some o) : (b, o) ∈ pinsAt fp h := List.mem_filterMap.mpr ⟨b, hb, by rw [e]; rfl⟩
theorem of_pinsAt {fp : List Addr} {h : Heap} {p : Addr × Obj} (hp : p ∈ pinsAt fp h) : p.1 ∈ fp ∧ h.get? p.1 = some p.2 := by
  obtain ⟨b, hb, e⟩ := List.mem_filterMap.mp hp
  cases q : h.get? b with
  | none => rw [q] at e; cases e
  | some o =>
    rw [q] at e
    have e' : (b, o) = p := Option.some.inj e
    subst e'
    exact ⟨hb, q⟩
theorem Inv.pinned {pins : List (Addr × Obj)} {σ : St} {H : Hp} {s : Shared} {fp : List Addr} (I : Inv X pins σ H s) (hf : ∀ b ∈ fp, FpOk X pins H b) (ho : ∀ b ∈ fp, ∃ o, s.heap.get? b = some o ∧ ∀ v, o.data ≠ .cell v) : Inv X (pins ++ pinsAt fp s.heap) σ H s :=
  I.pins_of fun p hp => (List.mem_append.mp hp).elim (fun z => I.pin p (List.mem_append_right _ z)) fun z => by
    obtain ⟨hb, e⟩ := of_pinsAt z
    obtain ⟨f0, f1, f2, _⟩ := hf p.1 hb
    obtain ⟨o, e', d⟩ := ho p.1 hb
    rw [e] at e'; cases e'
    exact ⟨e, f0, f1, f2, d⟩
theorem Inv.unpinned {pins pl : List (Addr × Obj)} {σ : St} {H : Hp} {s : Shared} (I : Inv X (pins ++ pl) σ H s) : Inv X pins σ H s := I.pins_of fun p hp => I.pin p (List.mem_append_right _ (List.mem_append_left _ hp))
theorem ps_for {iter : Expr} {body : List Stmt} {wi : TI} {g : TG} {tb : TS} {pos : Pos} (hp : PassesOwn (model X.prog X.w) X.A X.env X.xe) (hc : X.calm = true) (hi : PI X tg iter wi) (hg : PG X tg g) (hb : PSs X body tb)
    (hs : ∀ x, foldedSetIterable iter X.env x = pure x := by intro _; rfl) : PS X (.For tg iter body [] pos) (tFor wi g tb) := by
  intro pins s σ H D I h
  refine wpAny_For (thn (hi pins s σ H _ I h) fun v s1 h1 => thn h1 fun itv s2 h2 => ?_) hs
  obtain ⟨it, fp, tn, J, H2, e, I2, T, st2, f2, W, ⟨m0, w0⟩, turn⟩ := h2
  subst e
  -- what stays true of the iterator's objects through the loop
  have stat : ∀ {H' : Hp}, (∀ b ∈ fp, H' b = none) → ∀ b ∈ fp, FpOk X pins H' b := fun hn b hb => ⟨hn b hb, (f2 b hb).2⟩
  refine codeAny_forLoop_any (fun n s' => ∃ i σ' H', Inv X pins σ' H' s' ∧ tn i s'.heap ∧ (∀ b ∈ fp, H' b = none) ∧ W i n σ' H') ?_ m0 ⟨0, σ, H2, I2, st2, fun b hb => (f2 b hb).1, w0⟩
  rintro n s3 ⟨i, σ3, H3, I3, st3, fr3, w3⟩
  rcases turn i n σ3 H3 w3 with ⟨stop, qn⟩ | ⟨go, N, hN, step⟩
  · refine wpAny_passesOwn hp (thn (T.done X rfl rfl rfl hc i pins s3 σ3 H3 X.xe I3 (stat fr3) st3 stop) fun r s4 ⟨hr, I4⟩ => ?_)
    subst hr
    exact wpAny_execs_nil ⟨σ3, H3, I4, qn⟩
  · refine wpAny_passesOwn hp (thn (T.item X rfl rfl rfl hc i pins s3 σ3 H3 X.xe I3 (stat fr3) st3 go) fun r s4 ⟨u, hr, h4⟩ => ?_)
    subst hr
    refine wpAny_passesOwn hp (thn h4 fun _ s5 ⟨x, H5, I5, r5, y5, st5, fr5⟩ => ?_)
    have I5' := I5.pinned (stat fr5) (T.obj _ _ st5)
    refine wpAny_passesOwn hp (thn (hg _ s5 σ3 H5 x u _ I5' r5 (step x H5 y5)) fun _ s6 ⟨σ6, H6, I6, q6⟩ => ?_)
    refine wpAny_passesOwn hp (thn (hb _ s6 σ6 H6 _ I6 q6) fun f s7 q7 => ?_)
    have again : ∀ {σ7 : St} {H7 : Hp}, Inv X (pins ++ pinsAt fp s5.heap) σ7 H7 s7 → N σ7 H7 → ∃ m, m < n ∧ ∃ i σ' H', Inv X pins σ' H' s7 ∧ tn i s7.heap ∧ (∀ b ∈ fp, H' b = none) ∧ W i m σ' H' := fun {σ7 H7} I7 n7 => by
      obtain ⟨m', hm, w7⟩ := hN σ7 H7 n7
      refine ⟨m', hm, i + 1, σ7, H7, I7.unpinned, T.keep _ _ _ st5 fun b hb o e => (I7.pin (b, o) (List.mem_append_right _ (List.mem_append_right _ (mem_pinsAt hb e)))).1, fun b hb => ?_, w7⟩
      obtain ⟨o, e, d⟩ := T.obj _ _ st5 b hb
      exact (I7.pin (b, o) (List.mem_append_right _ (List.mem_append_right _ (mem_pinsAt hb e)))).2.1
    cases f with
    | next => obtain ⟨σ7, H7, I7, n7⟩ := q7; exact again I7 n7
    | cont => obtain ⟨σ7, H7, I7, n7⟩ := q7; exact again I7 n7
    | brk => obtain ⟨σ7, H7, I7, q7⟩ := q7; exact ⟨σ7, H7, I7.unpinned, q7⟩
    | ret v => obtain ⟨x7, σ7, H7, I7, r7, q7⟩ := q7; exact ⟨x7, σ7, H7, I7.unpinned, r7, q7⟩
end
end L2
namespace L2
open PySem PySem.Spec PyProof.Rows
noncomputable abbrev R2 := V → V → Hp → VK → Prop
noncomputable def OpR (X : Cx) (f : Value → Value → Sem Value) (r : R2) : Prop :=
  ∀ (pins : List (Addr × Obj)) (s : Shared) (σ : St) (H : Hp) (x y : V) (v u : Value) (Q : VK), Inv X pins σ H s → RelV x v → RelV y u → r x y H Q →
    wpAny (model X.prog X.w) X.A (f v u) (EP X pins σ Q) X.xe s
noncomputable def UnR (X : Cx) (f : Value → Sem Value) (r : V → Hp → VK → Prop) : Prop :=
  ∀ (pins : List (Addr × Obj)) (s : Shared) (σ : St) (H : Hp) (x : V) (v : Value) (Q : VK), Inv X pins σ H s → RelV x v → r x H Q →
    wpAny (model X.prog X.w) X.A (f v) (EP X pins σ Q) X.xe s
noncomputable def CallR (X : Cx) (f : Value) (r : List V → Hp → VK → Prop) : Prop :=
  ∀ (pins : List (Addr × Obj)) (s : Shared) (σ : St) (H : Hp) (xs : List V) (us : List Value) (Q : VK), Inv X pins σ H s → Vals xs us → r xs H Q →
    wpAny (model X.prog X.w) X.A (call f us) (EP X pins σ Q) X.xe s
noncomputable def tOp (r : R2) (ta tb : TE) : TE := fun σ H Q => ta σ H fun x H1 => tb σ H1 fun y H2 => r x y H2 Q
noncomputable def tUn (r : V → Hp → VK → Prop) (ta : TE) : TE := fun σ H Q => ta σ H fun x H1 => r x H1 Q
noncomputable def rI (C : Int → Int → Prop) (g : Int → Int → V) : R2 := fun x y H Q => ∃ i j, x = .int i ∧ y = .int j ∧ C i j ∧ Q (g i j) H
noncomputable def rI0 (g : Int → Int → V) : R2 := fun x y H Q => ∃ i j, x = .int i ∧ y = .int j ∧ Q (g i j) H
noncomputable def rU (g : Int → V) : V → Hp → VK → Prop := fun x H Q => ∃ i, x = .int i ∧ Q (g i) H
section
variable {X : Cx} {a b c : Expr} {ta tb tc : TE} {pos : Pos}
theorem binT (ha : PE X a ta) (hb : PE X b tb) {pins : List (Addr × Obj)} {s : Shared} {σ : St} {H : Hp} {R : V → V → Hp → Prop} (I : Inv X pins σ H s)
    (h : ta σ H fun x H1 => tb σ H1 fun y H2 => R x y H2) {Q : Value → Shared → Prop} {f : Value → Value → Sem Value}
    (hf : ∀ v u s2 x y H2, Inv X pins σ H2 s2 → RelV x v → RelV y u → R x y H2 → wpAny (model X.prog X.w) X.A (f v u) Q X.xe s2) :
    wpAny (model X.prog X.w) X.A (eval a X.env) (fun v s₁ => wpAny (model X.prog X.w) X.A (eval b X.env) (fun u s₂ => wpAny (model X.prog X.w) X.A (f v u) Q X.xe s₂) X.xe s₁) X.xe s := by
  refine thn (ha pins s σ H _ I h) fun v s1 ⟨x, H1, I1, r1, q1⟩ => ?_
  refine thn (hb pins s1 σ H1 _ I1 q1) fun u s2 ⟨y, H2, I2, r2, q2⟩ => ?_
  exact hf v u s2 x y H2 I2 r1 r2 q2
theorem pe_op {op : Operator} {r : R2} (ho : OpR X (binaryOp op) r) (ha : PE X a ta) (hb : PE X b tb) : PE X (.BinOp a op b pos) (tOp r ta tb) := by
  intro pins s σ H Q I h
  exact wpAny_BinOp (binT ha hb I h fun v u s2 x y H2 I2 rx ry q => ho pins s2 σ H2 x y v u Q I2 rx ry q)
theorem pe_un {op : UnaryOp} {r : V → Hp → VK → Prop} (ho : UnR X (unaryOp op) r) (ha : PE X a ta) : PE X (.UnaryOp op a pos) (tUn r ta) := by
  intro pins s σ H Q I h
  exact UnaryOp_ (thn (ha pins s σ H _ I h) fun v s1 ⟨x, H1, I1, r1, q1⟩ => ho pins s1 σ H1 x v Q I1 r1 q1)
theorem opI {f : Value → Value → Sem Value} {C : Int → Int → Prop} {g : Int → Int → Int}
    (rule : ∀ (i j : Int) (t u : Tok) (s : Shared) (Q : Value → Shared → Prop) (E : Value → Shared → Prop), C i j → Q (.int (g i j) s.toks) { s with toks := s.toks + 1 } → wpAny (model X.prog X.w) X.A (f (.int i t) (.int j u)) Q E s) :
    OpR X f (rI C fun i j => .int (g i j)) := by
  intro pins s σ H x y v u Q I rx ry h
  obtain ⟨i, j, rfl, rfl, hc, q⟩ := h
  obtain ⟨t, rfl⟩ := rx
  obtain ⟨t', rfl⟩ := ry
  exact rule i j t t' s _ _ hc ⟨.int (g i j), H, I.tok _, ⟨_, rfl⟩, q⟩
theorem opI0 {f : Value → Value → Sem Value} {g : Int → Int → Int}
    (rule : ∀ (i j : Int) (t u : Tok) (s : Shared) (Q : Value → Shared → Prop) (E : Value → Shared → Prop), Q (.int (g i j) s.toks) { s with toks := s.toks + 1 } → wpAny (model X.prog X.w) X.A (f (.int i t) (.int j u)) Q E s) :
    OpR X f (rI0 fun i j => .int (g i j)) := by
  intro pins s σ H x y v u Q I rx ry h
  obtain ⟨i, j, rfl, rfl, q⟩ := h
  obtain ⟨t, rfl⟩ := rx
  obtain ⟨t', rfl⟩ := ry
  exact rule i j t t' s _ _ ⟨.int (g i j), H, I.tok _, ⟨_, rfl⟩, q⟩
theorem opB0 {f : Value → Value → Sem Value} {g : Int → Int → Bool}
    (rule : ∀ (i j : Int) (t u : Tok) (s : Shared) (Q : Value → Shared → Prop) (E : Value → Shared → Prop), Q (.bool (g i j)) s → wpAny (model X.prog X.w) X.A (f (.int i t) (.int j u)) Q E s) :
    OpR X f (rI0 fun i j => .bl (g i j)) := by
  intro pins s σ H x y v u Q I rx ry h
  obtain ⟨i, j, rfl, rfl, q⟩ := h
  obtain ⟨t, rfl⟩ := rx
  obtain ⟨t', rfl⟩ := ry
  exact rule i j t t' s _ _ ⟨.bl (g i j), H, I, rfl, q⟩
noncomputable def CPow (i j : Int) : Prop := 0 ≤ j ∧ j ≤ 1000000 ∧ i.natAbs < 2 ^ 64
noncomputable def CMul (i j : Int) : Prop := (-(2 ^ 64) < i ∧ i < 2 ^ 64) ∨ (-(2 ^ 64) < j ∧ j < 2 ^ 64)
theorem CMul.ok {i j : Int} (h : CMul i j) : IntMulOk i j := by
  rcases h with ⟨h1, h2⟩ | ⟨h1, h2⟩
  · exact .of_left (intBits_le_64 h1 h2)
  · exact .of_right (intBits_le_64 h1 h2)
theorem op_add : OpR X (binaryOp .Add) (rI0 fun i j => .int (i + j)) := opI0 fun _ _ _ _ _ _ _ q => add_int q
theorem op_sub : OpR X (binaryOp .Sub) (rI0 fun i j => .int (i - j)) := opI0 fun _ _ _ _ _ _ _ q => sub_int q
theorem op_mul : OpR X (binaryOp .Mult) (rI CMul fun i j => .int (i * j)) := opI fun _ _ _ _ _ _ _ hc q => mul_int q hc.ok
theorem op_mod : OpR X (binaryOp .Mod) (rI (fun _ j => 0 < j) fun i j => .int (i % j)) := opI fun i j _ _ _ _ _ hc q => by
  have h1 : (0 : Int) < j := hc
  exact mod_int' (by omega) (by rw [Int.fmod_eq_emod_of_nonneg i (by omega)]; exact q)
theorem op_pow : OpR X (binaryOp .Pow) (rI CPow fun i j => .int (i ^ j.toNat)) := opI fun _ _ _ _ _ _ _ hc q => pow_int_small hc.1 hc.2.1 hc.2.2 q
theorem unI {f : Value → Sem Value} {g : Int → Int}
    (rule : ∀ (i : Int) (t : Tok) (s : Shared) (Q : Value → Shared → Prop) (E : Value → Shared → Prop), Q (.int (g i) s.toks) { s with toks := s.toks + 1 } → wpAny (model X.prog X.w) X.A (f (.int i t)) Q E s) :
    UnR X f (rU fun i => .int (g i)) := by
  intro pins s σ H x v Q I rx h
  obtain ⟨i, rfl, q⟩ := h
  obtain ⟨t, rfl⟩ := rx
  exact rule i t s _ _ ⟨.int (g i), H, I.tok _, ⟨_, rfl⟩, q⟩
theorem un_neg : UnR X (unaryOp .USub) (rU fun i => .int (-i)) := unI fun _ _ _ _ _ q => neg_int q
end
section
variable {X : Cx} {a b c : Expr} {ta tb tc : TE} {pos : Pos}
theorem fin_bl {pins : List (Addr × Obj)} {σ : St} {H : Hp} {s : Shared} {Q : VK} {k k' : Bool} (I : Inv X pins σ H s) (q : Q (.bl k) H) (e : k = k') : EP X pins σ Q (.bool k') s := by
  subst e
  exact ⟨.bl k, H, I, rfl, q⟩
theorem op_lt : OpR X (compareOp .Lt) (rI0 fun i j => .bl (decide (i < j))) := opB0 fun _ _ _ _ _ _ _ q => lt_int q
theorem op_le : OpR X (compareOp .LtE) (rI0 fun i j => .bl (decide (i ≤ j))) := opB0 fun _ _ _ _ _ _ _ q => le_int q
theorem op_gt : OpR X (compareOp .Gt) (rI0 fun i j => .bl (decide (j < i))) := opB0 fun _ _ _ _ _ _ _ q => gt_int q
theorem op_lt_str : OpR X (compareOp .Lt) (fun x y H Q => ∃ i j, x = .str i ∧ y = .str j ∧ Q (.bl (decide (i.cps.toList < j.cps.toList))) H) := by
  intro pins s σ H x y v u Q I rx ry h
  obtain ⟨i, j, rfl, rfl, q⟩ := h
  obtain ⟨t, rfl⟩ := rx
  obtain ⟨t', rfl⟩ := ry
  exact lt_str (fin_bl I q rfl)
theorem op_in_str : OpR X (compareOp .In) (fun x y H Q => ∃ i j, x = .str i ∧ y = .str j ∧ Q (.bl (!(Builtin.Str.occurrences j i 0 j.length 1).isEmpty)) H) := by
  intro pins s σ H x y v u Q I rx ry h
  obtain ⟨i, j, rfl, rfl, q⟩ := h
  obtain ⟨t, rfl⟩ := rx
  obtain ⟨t', rfl⟩ := ry
  exact in_str (fin_bl I q rfl)
theorem op_isN : OpR X (compareOp .Is) (fun x y H Q => y = .non ∧ Q (.bl (decide (x = .non))) H) := by
  intro pins s σ H x y v u Q I rx ry h
  obtain ⟨rfl, q⟩ := h
  cases ry
  refine is_none_gen (fin_bl I q ?_)
  cases x <;> first
    | (cases rx; rfl)
    | (obtain ⟨t, rfl⟩ := rx; rfl)
theorem op_notN : OpR X (compareOp .IsNot) (fun x y H Q => y = .non ∧ Q (.bl (!decide (x = .non))) H) := by
  intro pins s σ H x y v u Q I rx ry h
  obtain ⟨rfl, q⟩ := h
  cases ry
  refine isnot_none_gen (fin_bl I q ?_)
  cases x <;> first
    | (cases rx; rfl)
    | (obtain ⟨t, rfl⟩ := rx; rfl)
theorem op_notin_str : OpR X (compareOp .NotIn) (fun x y H Q => ∃ i j, x = .str i ∧ y = .str j ∧ Q (.bl (!(!(Builtin.Str.occurrences j i 0 j.length 1).isEmpty))) H) := by
  intro pins s σ H x y v u Q I rx ry h
  obtain ⟨i, j, rfl, rfl, q⟩ := h
  obtain ⟨t, rfl⟩ := rx
  obtain ⟨t', rfl⟩ := ry
  exact notIn_str (fin_bl I q rfl)
noncomputable def isObj : HO → Bool
  | .lst _ => true
  | .ins _ _ _ => true
  | _ => false
theorem nomark (b : Expr) {op : CmpOp} (h : op ≠ .In := by decide) (h2 : op ≠ .NotIn := by decide) : behindInMarks op b = false := by
  have e1 : (op == CmpOp.In) = false := by cases op <;> first | rfl | exact absurd rfl h
  have e2 : (op == CmpOp.NotIn) = false := by cases op <;> first | rfl | exact absurd rfl h2
  cases b <;> simp [behindInMarks, e1, e2]
theorem pe_cmpR {op : CmpOp} {r : R2} (ho : OpR X (compareOp op) r) (ha : PE X a ta) (hb : PE X b tb) (hm : behindInMarks op b = false) : PE X (.Compare a [op] [b] pos) (tOp r ta tb) := by
  intro pins s σ H Q I h
  exact wpAny_Compare1 (binT ha hb I h fun v u s2 x y H2 I2 rx ry q => ho pins s2 σ H2 x y v u Q I2 rx ry q) hm
noncomputable def tTest (t : TE) : TT := fun σ H Q => t σ H fun x H' => ∃ k, x = .bl k ∧ Q k H'
theorem pt_cmpR {op : CmpOp} {r : R2} (ho : OpR X (compareOp op) r) (ha : PE X a ta) (hb : PE X b tb) (hm : behindInMarks op b = false) : PT X (.Compare a [op] [b] pos) (tTest (tOp r ta tb)) := by
  intro pins s σ H Q I h
  refine wpAny_isTrue_Compare1 (thn (ha pins s σ H _ I h) fun v s1 ⟨x, H1, I1, r1, q1⟩ => thn (hb pins s1 σ H1 _ I1 q1) fun u s2 ⟨y, H2, I2, r2, q2⟩ =>
    thn (ho pins s2 σ H2 x y v u _ I2 r1 r2 q2) fun c s3 ⟨z, H3, I3, r3, k, e, q3⟩ => ?_) hm
  subst e
  cases r3
  exact wpAny_truthy_bool ⟨H3, I3, q3⟩
noncomputable def tChain (r r' : R2) (ta tb tc : TE) : TE := fun σ H Q => ta σ H fun x H1 => tb σ H1 fun y H2 => r x y H2 fun z H3 => ∃ k, z = .bl k ∧
  (if k = true then tc σ H3 fun w' H4 => r' y w' H4 Q else Q (.bl false) H3)
theorem pe_chain {op op' : CmpOp} {r r' : R2} (ho : OpR X (compareOp op) r) (ho' : OpR X (compareOp op') r') (ha : PE X a ta) (hb : PE X b tb) (hc : PE X c tc)
    (hm : lastMarks [op, op'] [b, c] = false := by with_unfolding_all rfl) : PE X (.Compare a [op, op'] [b, c] pos) (tChain r r' ta tb tc) := by
  intro pins s σ H Q I h
  refine Compare_chain (thn (ha pins s σ H _ I h) fun v s1 ⟨x, H1, I1, r1, q1⟩ => chain_link (thn (hb pins s1 σ H1 _ I1 q1) fun u s2 ⟨y, H2, I2, r2, q2⟩ =>
    thn (ho pins s2 σ H2 x y v u _ I2 r1 r2 q2) fun d s3 ⟨z, H3, I3, r3, k, e, q3⟩ => ?_)) hm
  subst e
  cases r3
  refine wpAny_truthy_bool ?_
  cases k with
  | false => exact ite_ff ⟨.bl false, H3, I3, rfl, q3⟩
  | true => exact ite_tt (chain_last (thn (hc pins s3 σ H3 _ I3 q3) fun w' s4 ⟨z', H4, I4, r4, q4⟩ => ho' pins s4 σ H4 y z' u w' Q I4 r2 r4 q4))
theorem pt_chain {op op' : CmpOp} {r r' : R2} (ho : OpR X (compareOp op) r) (ho' : OpR X (compareOp op') r') (ha : PE X a ta) (hb : PE X b tb) (hc : PE X c tc)
    (hm : lastMarks [op, op'] [b, c] = false := by with_unfolding_all rfl) : PT X (.Compare a [op, op'] [b, c] pos) (tTest (tChain r r' ta tb tc)) := by
  intro pins s σ H Q I h
  refine isTrue_chain (thn (ha pins s σ H _ I h) fun v s1 ⟨x, H1, I1, r1, q1⟩ => test_link (thn (hb pins s1 σ H1 _ I1 q1) fun u s2 ⟨y, H2, I2, r2, q2⟩ =>
    thn (ho pins s2 σ H2 x y v u _ I2 r1 r2 q2) fun d s3 ⟨z, H3, I3, r3, k, e, q3⟩ => ?_)) hm
  subst e
  cases r3
  refine wpAny_truthy_bool ?_
  cases k with
  | false =>
    obtain ⟨k', e', q'⟩ := q3
    cases e'
    exact ite_ff ⟨H3, I3, q'⟩
  | true =>
    refine ite_tt (test_last (thn (hc pins s3 σ H3 _ I3 q3) fun w' s4 ⟨z', H4, I4, r4, q4⟩ => thn (ho' pins s4 σ H4 y z' u w' _ I4 r2 r4 q4) fun d' s5 ⟨z2, H5, I5, r5, k2, e2, q5⟩ => ?_))
    subst e2
    cases r5
    exact wpAny_truthy_bool ⟨H5, I5, q5⟩
theorem line63 : (sizeLine : Nat) < 2 ^ 63 := by rw [sizeLine_eq]; decide
theorem op_add_str : OpR X (binaryOp .Add) (fun x y H Q => ∃ i j, x = .str i ∧ y = .str j ∧ i.length + j.length ≤ sizeLine ∧ Q (.str (i ++ j)) H) := by
  intro pins s σ H x y v u Q I rx ry h
  obtain ⟨i, j, rfl, rfl, hz, q⟩ := h
  obtain ⟨t, rfl⟩ := rx
  obtain ⟨t', rfl⟩ := ry
  exact add_str (fun t' tk => ⟨.str (i ++ j), H, I.tok _, ⟨_, rfl⟩, q⟩) hz
theorem vals1 {x : V} {us : List Value} (r : Vals [x] us) : ∃ u, us = [u] ∧ RelV x u := by
  cases r with
  | cons r1 r2 => cases r2; exact ⟨_, rfl, r1⟩
theorem vals2 {x y : V} {us : List Value} (r : Vals [x, y] us) : ∃ u w', us = [u, w'] ∧ RelV x u ∧ RelV y w' := by
  cases r with
  | cons r1 r2 =>
    cases r2 with
    | cons r3 r4 => cases r4; exact ⟨_, _, rfl, r1, r3⟩
theorem call_max2 (hc : X.calm = true) : CallR X (.builtin "max") (fun xs H Q => ∃ i j, xs = [.int i, .int j] ∧ Q (.int (if j > i then j else i)) H) := by
  intro pins s σ H xs us Q I r h
  obtain ⟨i, j, rfl, q⟩ := h
  obtain ⟨u, w', rfl, ⟨t, rfl⟩, ⟨t', rfl⟩⟩ := vals2 r
  refine max_two_ints (I.ok.hd hc) fun h' tk k => ⟨_, H, I.kept k, ?_, q⟩
  by_cases hj : j > i
  · rw [if_pos hj, if_pos hj]; exact ⟨_, rfl⟩
  · rw [if_neg hj, if_neg hj]; exact ⟨_, rfl⟩
end
end L2
namespace L2
open PySem PySem.Spec PyProof.Rows
structure ObjM (h : Heap) (x dx C : Addr) (mA : Str → Option Value) : Prop where
  obj : h.get? x = some (PySem.W.instObj C dx)
  ns : h.Ns1 dx mA
  ne : dx ≠ x
theorem lookIn_ns {h : Heap} {dx : Addr} {mA : Str → Option Value} (n : h.Ns1 dx mA) : ∃ od, h.get? dx = some od ∧ ∀ name, PySem.W.lookIn name od = some (mA name) := by
  obtain ⟨o, es, ep, ho, hd, hk, _, hm⟩ := n
  refine ⟨o, ho, fun name => ?_⟩
  have e := hm name
  unfold nsFind findBy at e
  rw [← Array.find?_toList] at e
  unfold PySem.W.lookIn
  rw [hd]
  dsimp only
  split
  · rename_i y q
    rw [q] at e
    exact congrArg some e
  · rename_i q
    rw [q] at e
    have a : es.toList.any (·.refKey) = false := by
      rw [List.any_eq_false]
      intro y hy
      obtain ⟨z, t, hkey⟩ := hk y (Array.mem_toList_iff.mp hy)
      simp [DictEntry.refKey, hkey]
    have a' : ¬ es.toList.any (·.refKey) = true := by rw [a]; exact Bool.false_ne_true
    rw [if_neg a']
    exact congrArg some e
theorem ObjM.look {h : Heap} {x dx C : Addr} {mA : Str → Option Value} (I : ObjM h x dx C mA) : ∃ od, PySem.W.InstAt h x (PySem.W.instObj C dx) C (some od) ∧ ∀ name, PySem.W.lookIn name od = some (mA name) :=
  let ⟨od, ho, hl⟩ := lookIn_ns I.ns
  ⟨od, ⟨I.obj, rfl, rfl, ho⟩, hl⟩
section
variable {prog : Program} {w : World} {A : Around} {E : Value → Shared → Prop} {s : Shared} {K : PySem.W.Frag} {x dx C f : Addr} {mA : Str → Option Value} {name : Str} {v : Value}
theorem get_map {expr : Bool} {Q : Value → Shared → Prop} (X : K.In s.heap) (I : ObjM s.heap x dx C mA) (hg : PySem.W.plainGet K C name = true) (hh : PySem.W.hasDictIn K C = true)
    (ha : PySem.W.findIn K (.ref C) name = some none) (hv : mA name = some v) (hv' : PySem.W.handedIn v = true) (h : Q v { s with toks := s.toks + 1 }) :
    wpAny (model prog w) A (getAttr (.ref x) name expr) Q E s := by
  obtain ⟨od, J, hl⟩ := I.look
  exact PySem.W.get_value X J (PySem.W.plainGet_of hg).1 (PySem.W.findObj_own hh ha rfl (by rw [hl, hv])) hv' h
theorem get_meth {pl : Sem Bool} {Q : Value × List Value → Shared → Prop} (X : K.In s.heap) (I : ObjM s.heap x dx C mA) (hg : PySem.W.plainGet K C name = true)
    (hf : PySem.W.findIn K (.ref C) name = some (some (.ref f))) (ht : PySem.W.isFn K (.ref f) = true) (hv : mA name = none) (h : Q (.ref f, [.ref x]) s) :
    wpAny (model prog w) A (getMethod (.ref x) name pl) Q E s := by
  obtain ⟨od, J, hl⟩ := I.look
  exact PySem.W.method_fn X J (PySem.W.plainGet_of hg).1 (PySem.W.plainGet_of hg).2 hf (beq_iff_eq.mp ht) (by show (PySem.W.lookIn name od).map (·.isSome) = some false; rw [hl, hv]; rfl) h
theorem set_map {ns : List Str} {Q : Unit → Shared → Prop} (X : K.In s.heap) (I : ObjM s.heap x dx C mA)
    (hs : PySem.W.findIn K (.ref C) "__setattr__" = some (some (.builtin "object.__setattr__"))) (hp : PySem.W.plainOver K C = true) (ht : PySem.W.takerIn K C name = some none) (hh : PySem.W.hasDictIn K C = true)
    (hw : PySem.Within mA ns) (hsz : ns.length ≤ sizeLine)
    (h : ∀ h', ObjM h' x dx C (fun y => if y = name then some v else mA y) → Heap.SameBut dx s.heap h' → Q () { s with heap := h', toks := s.toks + 2 }) :
    wpAny (model prog w) A (setAttr (.ref x) name v) Q E s := by
  obtain ⟨od, J, hl⟩ := I.look
  refine PySem.W.set_plain X J hs (PySem.W.osa_open (s := { s with toks := s.toks + 1 }) (r := none) X J hp ht fun b => ?_)
  obtain ⟨cd, hc, hd'⟩ := PySem.W.any_some hh
  have hx : s.heap.get? x = some ⟨.ref C, some dx, .plain, #[]⟩ := I.obj
  refine wpAny_bind (wpAny_pure (wpAny_bind (wpAny_bind (wpAny_loadPart hx (wpAny_bind (PySem.W.Looks.here (s := { s with toks := s.toks + 1 }) (PySem.W.looks_clsIn X hc) ?_))))))
  rw [hd']
  refine wpAny_pure (a := some dx) (wpAny_bind (wpAny_pure (wpAny_bind ?_)))
  refine wpAny_nsSet1 (s := { s with toks := s.toks + 1 }) I.ns fun h' hn2 hs2 => ?_
  obtain ⟨oD, esD, epD, hoD, hdD, hcD⟩ := hn2.count (PySem.Within.cons name v hw)
  refine wpAny_bind (wpAny_lookBehind hoD (by rw [hdD]; exact pastItsLine_dict (Nat.le_trans hcD (by rw [List.length_cons]; omega))) ?_)
  exact wpAny_pure (h _ ⟨(hs2.2 _ (Ne.symm I.ne)).trans I.obj, hn2, I.ne⟩ hs2)
theorem make_map {R : Result → Shared → Prop} {vs : List Value} {kw : List (Str × Value)} (X : K.In s.heap) (hm : PySem.W.makesIn K C = true)
    (hi : PySem.W.findIn K (.ref C) "__init__" = some (some (.ref f))) (hf : PySem.W.typeIn K (.ref f) = some (.type "function"))
    (h : codeAny (model prog w) (A.under (.builtin "type.__call__" ⟨.ref C :: vs, kw⟩)) (.call (.ref f) ⟨.ref (s.heap.objs.size + 1) :: vs, kw⟩) (PySem.W.InitBack (s.heap.objs.size + 1) R)
      { s with heap := (s.heap.push PySem.W.emptyDict).push (PySem.W.instObj C s.heap.objs.size) }) :
    codeAny (model prog w) A (.call (.ref C) ⟨vs, kw⟩) R s := by
  obtain ⟨hh, g, d, t, os⟩ := s
  exact PySem.W.make_core (PySem.W.makes_of X hm) (PySem.W.looks_findIn X hi) (fun self => PySem.W.bind_fn X self hf) (.inl rfl) h
end
noncomputable def putF (f : Str) (v : V) : List (Str × V) → List (Str × V)
  | [] => [(f, v)]
  | (g, x) :: r => if g = f then (g, v) :: r else (g, x) :: putF f v r
theorem lookup_putF (f g : Str) (v : V) : ∀ fs : List (Str × V), (putF f v fs).lookup g = if g = f then some v else fs.lookup g
  | [] => by
    show List.lookup g [(f, v)] = _
    by_cases h : g = f
    · have hb : (g == f) = true := beq_iff_eq.mpr h
      simp only [List.lookup, hb, if_pos h]
    · have hb : (g == f) = false := beq_eq_false_iff_ne.mpr h
      simp only [List.lookup, hb, if_neg h]
  | (k, x) :: r => by
    have ih := lookup_putF f g v r
    rw [show putF f v ((k, x) :: r) = (if k = f then (k, v) :: r else (k, x) :: putF f v r) from rfl]
    by_cases hk : k = f
    · rw [if_pos hk]
      by_cases h : g = k
      · have hb : (g == k) = true := beq_iff_eq.mpr h
        simp only [List.lookup, hb, if_pos (h.trans hk)]
      · have hb : (g == k) = false := beq_eq_false_iff_ne.mpr h
        simp only [List.lookup, hb, if_neg (fun e : g = f => h (e.trans hk.symm))]
    · rw [if_neg hk]
      by_cases h : g = k
      · have hb : (g == k) = true := beq_iff_eq.mpr h
        simp only [List.lookup, hb, if_neg (fun e : g = f => hk (h.symm.trans e))]
      · have hb : (g == k) = false := beq_eq_false_iff_ne.mpr h
        simp only [List.lookup, hb]
        exact ih
theorem keys_putF (f : Str) (v : V) : ∀ fs : List (Str × V), f ∈ (putF f v fs).map (·.1) ∧ ∀ g, g ∈ fs.map (·.1) → g ∈ (putF f v fs).map (·.1)
  | [] => ⟨by simp [putF], fun g h => by simp at h⟩
  | (k, x) :: r => by
    obtain ⟨i1, i2⟩ := keys_putF f v r
    rw [show putF f v ((k, x) :: r) = (if k = f then (k, v) :: r else (k, x) :: putF f v r) from rfl]
    by_cases hk : k = f
    · rw [if_pos hk]
      subst hk
      exact ⟨by simp, fun g h => by simpa using h⟩
    · rw [if_neg hk]
      refine ⟨?_, fun g h => ?_⟩
      · rw [List.map_cons]
        exact List.mem_cons_of_mem _ i1
      · rw [List.map_cons] at h ⊢
        rcases List.mem_cons.mp h with e | e
        · exact List.mem_cons.mpr (.inl e)
        · exact List.mem_cons_of_mem _ (i2 g e)
theorem length_putF (f : Str) (v : V) : ∀ fs : List (Str × V), (putF f v fs).length ≤ fs.length + 1
  | [] => by simp [putF]
  | (k, x) :: r => by
    have ih := length_putF f v r
    rw [show putF f v ((k, x) :: r) = (if k = f then (k, v) :: r else (k, x) :: putF f v r) from rfl]
    by_cases hk : k = f
    · rw [if_pos hk, List.length_cons, List.length_cons]; omega
    · rw [if_neg hk, List.length_cons, List.length_cons]; omega
theorem RelO.some_of {v : V} {o : Option Value} (r : RelO (some v) o) : ∃ u, o = some u ∧ RelV v u := by
  cases o with
  | none => exact (show False from r).elim
  | some u => exact ⟨u, rfl, r⟩
theorem RelO.none_of {o : Option Value} (r : RelO none o) : o = none := by
  cases o with
  | none => rfl
  | some u => exact (show False from r).elim
theorem handed_of {v : V} {u : Value} (r : RelV v u) : PySem.W.handedIn u = true := by
  cases v with
  | non => cases (show u = Value.none from r); rfl
  | bl b => cases (show u = Value.bool b from r); rfl
  | int i => obtain ⟨t, e⟩ := (show ∃ t, u = Value.int i t from r); cases e; rfl
  | str x => obtain ⟨t, e⟩ := (show ∃ t, u = Value.str x t from r); cases e; rfl
  | byt b => obtain ⟨t, e⟩ := (show ∃ t, u = Value.bytes b t from r); cases e; rfl
  | flt b => obtain ⟨t, e⟩ := (show ∃ t, u = Value.float b t from r); cases e; rfl
  | ref a => cases (show u = Value.ref a from r); rfl
  | ty n => cases (show u = Value.type n from r); rfl
section
variable {P : Program} {w : World} {H H' : Hp} {h h' : Heap} {a C dx : Addr} {fs fs' : List (Str × V)}
theorem ins_get (hok : HOk P w H h) (e : H a = some (.ins C dx fs)) : ∃ mA, ObjM h a dx C mA ∧ (∀ f, RelO (fs.lookup f) (mA f)) ∧ PySem.Within mA (fs.map (·.1)) ∧ fs.length ≤ 1000 ∧ H dx = some (.own a) := by
  obtain ⟨d, z, ne, ob, mA, n, r, q⟩ := (show ObjOk P w H h a (.ins C dx fs) from hok a _ e)
  exact ⟨mA, ⟨ob, n, ne⟩, r, q, z, d⟩
end
structure Cls (K : PySem.W.Frag) (C : Addr) : Prop where
  pg : PySem.W.plainGet K C Str.empty = true
  hd : PySem.W.hasDictIn K C = true
  po : PySem.W.plainOver K C = true
  sa : PySem.W.findIn K (.ref C) "__setattr__" = some (some (.builtin "object.__setattr__"))
theorem Cls.get {K : PySem.W.Frag} {C : Addr} (c : Cls K C) (f : Str) : PySem.W.plainGet K C f = true := c.pg
noncomputable def NoAttr (K : PySem.W.Frag) (C : Addr) (f : Str) : Prop := PySem.W.findIn K (.ref C) f = some none
theorem NoAttr.taker {K : PySem.W.Frag} {C : Addr} {f : Str} (n : NoAttr K C f) : PySem.W.takerIn K C f = some none := by
  unfold PySem.W.takerIn
  rw [show PySem.W.findIn K (.ref C) f = some none from n]
  rfl
structure Meth (K : PySem.W.Frag) (C : Addr) (m : Str) (f : Addr) : Prop where
  at_ : PySem.W.findIn K (.ref C) m = some (some (.ref f))
  fn : PySem.W.isFn K (.ref f) = true
  kp : PySem.W.keepIn K (.ref f) = true
section
variable {X : Cx} {pins : List (Addr × Obj)} {σ : St} {H : Hp} {s : Shared} {a C dx : Addr} {fs : List (Str × V)} {f : Str} {v : V} {A : Around} {E : Value → Shared → Prop}
theorem getattr_ok {b : Bool} {Q : Value → Shared → Prop} (I : Inv X pins σ H s) (e : H a = some (.ins C dx fs)) (c : Cls X.K C) (n : NoAttr X.K C f) (l : fs.lookup f = some v)
    (h : ∀ u s', Inv X pins σ H s' → RelV v u → Q u s') : wpAny (model X.prog X.w) A (getAttr (.ref a) f b) Q E s := by
  obtain ⟨mA, O, r, _, _, _⟩ := ins_get I.hok e
  obtain ⟨u, hu, ru⟩ := RelO.some_of (v := v) (o := mA f) (by rw [← l]; exact r f)
  exact get_map I.kIn O (c.get f) c.hd n hu (handed_of ru) (h u _ (I.tok _) ru)
theorem getmeth_ok {m : Str} {g : Addr} {pl : Sem Bool} {Q : Value × List Value → Shared → Prop} (I : Inv X pins σ H s) (e : H a = some (.ins C dx fs)) (c : Cls X.K C) (k : Meth X.K C m g) (l : fs.lookup m = none)
    (h : Q (.ref g, [.ref a]) s) : wpAny (model X.prog X.w) A (getMethod (.ref a) m pl) Q E s := by
  obtain ⟨mA, O, r, _, _, _⟩ := ins_get I.hok e
  have hn : mA m = none := RelO.none_of (by rw [← l]; exact r m)
  exact get_meth I.kIn O (c.get m) k.at_ k.fn hn h
theorem setattr_ok {y : V} {u : Value} {Q : Unit → Shared → Prop} (I : Inv X pins σ H s) (e : H a = some (.ins C dx fs)) (c : Cls X.K C) (n : NoAttr X.K C f) (hl : fs.length < 1000) (ry : RelV y u)
    (h : ∀ s', Inv X pins σ (upd H a (.ins C dx (putF f y fs))) s' → Q () s') : wpAny (model X.prog X.w) A (setAttr (.ref a) f u) Q E s := by
  obtain ⟨mA, O, r, wi, _, ho⟩ := ins_get I.hok e
  have hz : (fs.map (·.1)).length ≤ sizeLine := by rw [List.length_map, sizeLine_eq]; omega
  refine set_map I.kIn O c.sa c.po n.taker c.hd wi hz fun h' O' sb => h _ ?_
  have hd : ∃ o, h'.get? dx = some o := let ⟨o, _, _, e', _⟩ := O'.ns; ⟨o, e'⟩
  refine I.write (x := a) (e := dx) (by rw [e]; exact True.intro) (.inr ho) (fun b q hb z => (sb.2 b hb).trans z) hd ?_
  refine ⟨by rw [upd_ne O.ne]; exact ho, ?_, O.ne, O'.obj, _, O'.ns, fun g => ?_, fun g hg => ?_⟩
  · have := length_putF f y fs; omega
  · show RelO ((putF f y fs).lookup g) (if g = f then some u else mA g)
    rw [lookup_putF]
    by_cases q : g = f
    · rw [if_pos q, if_pos q]; exact ry
    · rw [if_neg q, if_neg q]; exact r g
  · by_cases q : g = f
    · rw [q]; exact (keys_putF f y fs).1
    · refine (keys_putF f y fs).2 g (wi g fun z => hg ?_)
      show (if g = f then some u else mA g) = none
      rw [if_neg q]; exact z
theorem Inv.made (I : Inv X pins σ H s) : Inv X pins σ (upd (upd H s.heap.objs.size (.own (s.heap.objs.size + 1))) (s.heap.objs.size + 1) (.ins C s.heap.objs.size []))
    { s with heap := (s.heap.push PySem.W.emptyDict).push (PySem.W.instObj C s.heap.objs.size) } := by
  have e1 : (s.heap.push PySem.W.emptyDict).get? s.heap.objs.size = some PySem.W.emptyDict := Heap.get?_push_size s.heap rfl
  have e2 : ((s.heap.push PySem.W.emptyDict).push (PySem.W.instObj C s.heap.objs.size)).get? (s.heap.objs.size + 1) = some (PySem.W.instObj C s.heap.objs.size) := by
    have := Heap.get?_push_size (s.heap.push PySem.W.emptyDict) (o := PySem.W.instObj C s.heap.objs.size) rfl
    rwa [Heap.size_push] at this
  have e3 : (s.heap.push PySem.W.emptyDict).Ns s.heap.objs.size (fun _ => none) := ⟨PySem.W.emptyDict, #[], _, e1, rfl, (fun e he => absurd he (by simp)), fun _ => rfl⟩
  have I1 := I.laid (a := s.heap.objs.size) (o := .own (s.heap.objs.size + 1)) (h' := s.heap.push PySem.W.emptyDict) (t' := s.toks) (fun b u q => Heap.get?_push_of_some _ q) (Nat.le_refl _) ⟨_, e1⟩
  refine I1.laid (a := s.heap.objs.size + 1) (o := .ins C s.heap.objs.size []) (t' := s.toks) (fun b u q => Heap.get?_push_of_some _ q) (Nat.le_of_eq (Heap.size_push _ _)) ?_
  have ne : s.heap.objs.size ≠ s.heap.objs.size + 1 := Nat.ne_of_lt (Nat.lt_succ_self _)
  refine ⟨by rw [upd_ne ne, upd_same], Nat.zero_le _, ne, e2, fun _ => none, (Heap.Ns1.of_empty e3).at fun o q => Heap.get?_push_of_some _ q, fun _ => True.intro, fun y hy => absurd rfl hy⟩
theorem attr_of {prog : Program} {w : World} {env : Env} {e : Expr} {f : Str} {pos : Pos} {s : Shared} {Q : Value → Shared → Prop} (hb : attributeBase e f env (eval e env) = eval e env)
    (h : wpAny (model prog w) A (eval e env) (fun o s₁ => wpAny (model prog w) A (getAttr o f true) Q E s₁) E s) : wpAny (model prog w) A (eval (.Attribute e f pos) env) Q E s :=
  Attribute_any_ h (by rw [arm_eval_Attribute, hb])
end
noncomputable def tFld (K : PySem.W.Frag) (ta : TE) (f : Str) : TE := fun σ H Q => ta σ H fun x H1 => ∃ a C dx fs v, x = .ref a ∧ H1 a = some (.ins C dx fs) ∧ Cls K C ∧ NoAttr K C f ∧ fs.lookup f = some v ∧ Q v H1
noncomputable def sFld (K : PySem.W.Frag) (ta tv : TE) (f : Str) : TS := fun D σ H => tv σ H fun y H1 => ta σ H1 fun x H2 => ∃ a C dx fs, x = .ref a ∧ H2 a = some (.ins C dx fs) ∧ Cls K C ∧ NoAttr K C f ∧ fs.length < 1000 ∧
  D.nx σ (upd H2 a (.ins C dx (putF f y fs)))
noncomputable def InOp (X : Cx) (op : Operator) (rd : V → V → Hp → VK → Prop) : Prop :=
  ∀ (pins : List (Addr × Obj)) (s : Shared) (σ : St) (H : Hp) (x y : V) (u v : Value) (Q : VK), Inv X pins σ H s → RelV x u → RelV y v → rd x y H Q → wpAny (model X.prog X.w) X.A (inplaceOp op u v) (EP X pins σ Q) X.xe s
noncomputable def sFldAug (K : PySem.W.Frag) (ta tv : TE) (rd : V → V → Hp → VK → Prop) (f : Str) : TS := fun D σ H => ta σ H fun x H1 => ∃ a C dx fs v, x = .ref a ∧ H1 a = some (.ins C dx fs) ∧ Cls K C ∧ NoAttr K C f ∧ fs.lookup f = some v ∧
  tv σ H1 fun y H2 => rd v y H2 fun z H3 => ∃ dx' fs', H3 a = some (.ins C dx' fs') ∧ fs'.length < 1000 ∧ D.nx σ (upd H3 a (.ins C dx' (putF f z fs')))
section
variable {X : Cx} {o e value : Expr} {f : Str} {pos pos' tpos : Pos} {ta tv : TE}
theorem pe_fld (he : PE X e ta) (hb : attributeBase e f X.env (eval e X.env) = eval e X.env) : PE X (.Attribute e f pos) (tFld X.K ta f) := by
  intro pins s σ H Q I h
  refine attr_of hb (thn (he pins s σ H _ I h) fun u s1 ⟨x, H1, I1, rx, a, C, dx, fs, v, ex, ea, c, n, l, q⟩ => ?_)
  subst ex
  obtain rfl : u = Value.ref a := rx
  exact getattr_ok I1 ea c n l fun u' s2 I2 ru => ⟨v, H1, I2, ru, q⟩
theorem ps_fld (ha : PE X o ta) (hv : PE X value tv) (hs : swapsWith value (some (.Attribute o f pos')) pos.line X.env = pure false) : PS X (.Assign [.Attribute o f pos'] value pos) (sFld X.K ta tv f) := by
  intro pins s σ H D I h
  refine plainObj_wpAny_Assign_Attribute (thn (hv pins s σ H _ I h) fun u s1 ⟨y, H1, I1, ry, q⟩ => thn (ha pins s1 σ H1 _ I1 q) fun ov s2 ⟨x, H2, I2, rx, a, C, dx, fs, ex, ea, c, n, l, q2⟩ => ?_) hs
  subst ex
  obtain rfl : ov = Value.ref a := rx
  exact setattr_ok I2 ea c n l ry fun s3 I3 => ⟨σ, _, I3, q2⟩
theorem ps_fldaug {op : Operator} {rd : V → V → Hp → VK → Prop} (ha : PE X o ta) (hv : PE X value tv) (hop : InOp X op rd) : PS X (.AugAssign (.Attribute o f tpos) op value pos) (sFldAug X.K ta tv rd f) := by
  intro pins s σ H D I h
  refine wpAny_AugAssign_AttributeAny (thn (ha pins s σ H _ I h) fun ov s1 ⟨x, H1, I1, rx, a, C, dx, fs, v, ex, ea, c, n, l, q⟩ => ?_)
  subst ex
  obtain rfl : ov = Value.ref a := rx
  refine getattr_ok I1 ea c n l fun u s2 I2 ru => thn (hv pins s2 σ H1 _ I2 q) fun w3 s3 ⟨y, H2, I3, ry, q3⟩ => thn (hop pins s3 σ H2 v y u w3 _ I3 ru ry q3) fun w4 s4 ⟨z, H3, I4, rz, dx', fs', ea', l', q4⟩ => ?_
  exact setattr_ok I4 ea' c n l' rz fun s5 I5 => ⟨σ, _, I5, q4⟩
noncomputable def rAdd : V → V → Hp → VK → Prop := fun x y H Q => ∃ i j, x = .int i ∧ y = .int j ∧ Q (.int (i + j)) H
theorem in_add : InOp X .Add rAdd := by
  rintro pins s σ H x y u v Q I rx ry ⟨i, j, rfl, rfl, q⟩
  obtain ⟨t, rfl⟩ := (show ∃ t, u = Value.int i t from rx)
  obtain ⟨t', rfl⟩ := (show ∃ t', v = Value.int j t' from ry)
  exact PyProof.Rows.iadd_int ⟨.int (i + j), H, I.tok _, ⟨_, rfl⟩, q⟩
theorem methcall_of {pl : Sem Bool} {m : Str} {apos : Pos} {args : List Expr} {pins : List (Addr × Obj)} {s : Shared} {σ : St} {H : Hp} {Q : Value → Shared → Prop} {te : TE} (he : PE X e te) (I : Inv X pins σ H s)
    (h : te σ H fun x H1 => ∃ a C dx fs g, x = .ref a ∧ H1 a = some (.ins C dx fs) ∧ Cls X.K C ∧ Meth X.K C m g ∧ fs.lookup m = none ∧
      ∀ s1, Inv X pins σ H1 s1 → wpAny (model X.prog X.w) X.A (callWith pos (.ref g) [.ref a] (backTo pos (starEach args X.env)) (backToKw pos (keywordEach [] X.env))) Q X.xe s1)
    (ht : eval (.Call (.Attribute e m apos) args [] pos) X.env = (do
      let ov ← eval e X.env
      standAt apos.atName
      let (f, first) ← holding [ov] (getMethod ov m pl)
      callWith pos f first (backTo pos (starEach args X.env)) (backToKw pos (keywordEach [] X.env)))) :
    wpAny (model X.prog X.w) X.A (eval (.Call (.Attribute e m apos) args [] pos) X.env) Q X.xe s := by
  refine PySem.W.methodCall_KW (pl := pl) (thn (he pins s σ H _ I h) fun u s1 ⟨x, H1, I1, rx, a, C, dx, fs, g, ex, ea, c, k, l, q⟩ => ?_) ht
  subst ex
  obtain rfl : u = Value.ref a := rx
  exact getmeth_ok I1 ea c k l (q s1 I1)
end
section
variable {X : Cx} {pins : List (Addr × Obj)} {σ : St} {H : Hp} {s : Shared} {A : Around} {E : Value → Shared → Prop} {Q : Value → Shared → Prop} {c : Value} {b : Bool}
inductive TyOf (K : PySem.W.Frag) (H : Hp) : V → Value → Prop where
  | non : TyOf K H .non (.type "NoneType")
  | bl (x : Bool) : TyOf K H (.bl x) (.type "bool")
  | int (i : Int) : TyOf K H (.int i) (.type "int")
  | str (x : Str) : TyOf K H (.str x) (.type "str")
  | flt (x : UInt64) : TyOf K H (.flt x) (.type "float")
  | lst {a : Addr} {xs : List V} (e : H a = some (.lst xs)) : TyOf K H (.ref a) (.type "list")
  | frz {a : Addr} {o : Obj} {xs : List V} (e : H a = some (.frz o (.lst xs))) : TyOf K H (.ref a) (.type "list")
  | tup {a : Addr} {xs : List V} (e : H a = some (.tup xs)) : TyOf K H (.ref a) (.type "tuple")
  | dK {a : Addr} {kvs : List (Key × V)} (e : H a = some (.dK kvs)) : TyOf K H (.ref a) (.type "dict")
  | dT {a : Addr} {kvs : List (List Key × V)} (e : H a = some (.dT kvs)) : TyOf K H (.ref a) (.type "dict")
  | ins {a C dx : Addr} {fs : List (Str × V)} (e : H a = some (.ins C dx fs)) (cl : Cls K C) (ha : PySem.W.findIn K (.ref C) "__class__" = some (some (.builtin "object.__class__")))
      (hn : PySem.W.specialIn K (.builtin "object.__class__") "__get__" = some (some (.builtin "getset_descriptor.__get__"))) (htk : PySem.W.takesIn K (.builtin "object.__class__") = some true)
      (hm : PySem.W.mroIn K C (.type "object") = some true) : TyOf K H (.ref a) (.ref C)
theorem isinst_ok {x : V} {u t : Value} (I : Inv X pins σ H s) (rx : RelV x u) (ty : TyOf X.K H x t) (e : PySem.W.kitOne X.K t c = some b) (h : ∀ tk, Q (.bool b) { s with toks := tk }) :
    wpAny (model X.prog X.w) A (call (.builtin "isinstance") [u, c]) Q E s := by
  cases ty with
  | non => cases (show u = Value.none from rx); exact PySem.W.kia_one PySem.W.kitx_none I.kIn True.intro e (fun z => nomatch z) h
  | bl y => cases (show u = Value.bool y from rx); exact PySem.W.kia_one PySem.W.kitx_bool I.kIn True.intro e (fun z => nomatch z) h
  | int i => obtain ⟨t, q⟩ := (show ∃ t, u = Value.int i t from rx); cases q; exact PySem.W.kia_one PySem.W.kitx_int I.kIn True.intro e (fun z => nomatch z) h
  | str y => obtain ⟨t, q⟩ := (show ∃ t, u = Value.str y t from rx); cases q; exact PySem.W.kia_one PySem.W.kitx_str I.kIn True.intro e (fun z => nomatch z) h
  | flt y => obtain ⟨t, q⟩ := (show ∃ t, u = Value.float y t from rx); cases q; exact PySem.W.kia_one PySem.W.kitx_float I.kIn True.intro e (fun z => nomatch z) h
  | @lst a xs ea =>
    cases (show u = Value.ref a from rx)
    obtain ⟨_, _, n, _, h1⟩ := (show ObjOk X.prog X.w H s.heap a (.lst xs) from I.hok a _ ea)
    exact PySem.W.kia_one PySem.W.kitx_list I.kIn ⟨_, h1, rfl⟩ e (fun z => nomatch z) h
  | @frz a ob xs ea =>
    cases (show u = Value.ref a from rx)
    obtain ⟨_, _, _, n, _, h1⟩ := (show ObjOk X.prog X.w H s.heap a (.frz ob (.lst xs)) from I.hok a _ ea)
    exact PySem.W.kia_one PySem.W.kitx_list I.kIn ⟨_, h1, rfl⟩ e (fun z => nomatch z) h
  | @tup a xs ea =>
    cases (show u = Value.ref a from rx)
    obtain ⟨_, _, _, p⟩ := (show ObjOk X.prog X.w H s.heap a (.tup xs) from I.hok a _ ea)
    obtain ⟨o, h1, h2, _⟩ := p
    exact PySem.W.kia_one PySem.W.kitx_tuple I.kIn ⟨o, h1, h2⟩ e (fun z => nomatch z) h
  | @dK a kvs ea =>
    cases (show u = Value.ref a from rx)
    obtain ⟨_, _, vs, _, p⟩ := (show ObjOk X.prog X.w H s.heap a (.dK kvs) from I.hok a _ ea)
    obtain ⟨o, es, ep, h1, h2, _⟩ := p
    exact PySem.W.kia_one PySem.W.kitx_dict I.kIn ⟨o, h1, h2.1⟩ e (fun z => nomatch z) h
  | @dT a kvs ea =>
    cases (show u = Value.ref a from rx)
    obtain ⟨_, _, xs, _, o, es, ep, h1, h2, _⟩ := (show ObjOk X.prog X.w H s.heap a (.dT kvs) from I.hok a _ ea)
    exact PySem.W.kia_one PySem.W.kitx_dict I.kIn ⟨o, h1, h2.1⟩ e (fun z => nomatch z) h
  | @ins a C dx fs ea cl ha hn htk hm =>
    cases (show u = Value.ref a from rx)
    obtain ⟨mA, O, _⟩ := ins_get I.hok ea
    obtain ⟨od, J, _⟩ := O.look
    exact PySem.W.kia_one (PySem.W.kitx_own (cl.get _) cl.hd ha hn htk hm) I.kIn J e (fun z => nomatch z) h
end
end L2
namespace L2
open PySem PySem.Spec PyProof.Rows
structure Room (k : Nat) (A : Around) : Prop where
  hd : A.handled = none
  dp : A.depth + 3 * k + 5 < recursionLimit
  un : A.units + 16 * k + 200 < cLine
theorem Room.mono {j k : Nat} {A : Around} (r : Room k A) (h : j ≤ k) : Room j A := ⟨r.hd, by have := r.dp; omega, by have := r.un; omega⟩
theorem Room.deeper {k : Nat} {A : Around} (r : Room (k + 1) A) (env : Env) : Room k (A.deeper env) :=
  ⟨r.hd, by have := r.dp; show A.depth + 1 + 3 * k + 5 < _; omega, by have := r.un; show A.units + 3 + 16 * k + 200 < _; omega⟩
theorem make_depth {A : Around} {C : Addr} {us : List Value} {kw : List (Str × Value)} : (A.under (.builtin "type.__call__" ⟨.ref C :: us, kw⟩)).depth = A.depth + 1 := by
  first | rfl | simp [Around.under, Code.weight, Code.isCreation, Code.isGuard, Code.isCaller, Code.frames, Code.isFrame, guardIds]
theorem make_units {A : Around} {C : Addr} {us : List Value} {kw : List (Str × Value)} : (A.under (.builtin "type.__call__" ⟨.ref C :: us, kw⟩)).units = A.units + 1 := by
  first | rfl | simp [Around.under, Code.cUnits, Code.frames, Code.isFrame]
theorem Room.make {k : Nat} {A : Around} (r : Room (k + 1) A) (C : Addr) (us : List Value) (kw : List (Str × Value)) : Room k (A.under (.builtin "type.__call__" ⟨.ref C :: us, kw⟩)) :=
  ⟨r.hd, by have := r.dp; rw [make_depth]; omega, by have := r.un; rw [make_units]; omega⟩
theorem Room.depth {k : Nat} {A : Around} (r : Room k A) : A.depth < recursionLimit := by have := r.dp; omega
noncomputable def tNil : TA := fun _ H Q => Q [] H
noncomputable def tCons (ta : TE) (tr : TA) : TA := fun σ H Q => ta σ H fun x H1 => tr σ H1 fun xs H2 => Q (x :: xs) H2
section
variable {X : Cx} {e : Expr} {es : List Expr} {te : TE} {t : TA} {pos : Pos}
theorem pa_nil : PA X [] tNil := fun _ _ _ _ H Q I h => Calls.spliced_nil ⟨[], H, I, .nil, h⟩
theorem pa_cons (ha : PE X e te) (hr : PA X es t) (hs : starEach (e :: es) X.env = (false, eval e X.env) :: starEach es X.env := by rfl) : PA X (e :: es) (tCons te t) := by
  intro pos pins s σ H Q I h
  rw [hs]
  show wpAny _ _ (spliced ((false, eval e X.env) :: backTo pos (starEach es X.env))) _ _ s
  refine Calls.spliced_cons (thn (ha pins s σ H _ I h) fun u s1 ⟨x, H1, I1, r1, q1⟩ => ?_)
  exact thn (hr pos pins s1 σ H1 _ I1 q1) fun us s2 ⟨xs, H2, I2, r2, q2⟩ => ⟨x :: xs, H2, I2, .cons r1 r2, q2⟩
noncomputable def tTup (t : TA) : TE := fun σ H Q => t σ H fun xs H1 => xs.length ≤ sizeLine ∧ ∀ p, H1 p = none → Q (.ref p) (upd H1 p (.tup xs))
noncomputable def tLst (t : TA) : TE := fun σ H Q => t σ H fun xs H1 => xs.length ≤ sizeLine ∧ ∀ p, H1 p = none → Q (.ref p) (upd H1 p (.lst xs))
theorem pe_tup {x1} (h : PA X es t) : PE X (.Tuple es x1 pos) (tTup t) := by
  intro pins s σ H Q I hq
  refine wpAny_Tuple_spliced (thn (h pos pins s σ H _ I hq) fun us s1 ⟨xs, H1, I1, r, z, q⟩ => ⟨by rw [← r.length]; exact z, ?_⟩)
  have hf : H1 s1.heap.objs.size = none := I1.hok.fresh (Nat.le_refl _)
  refine ⟨.ref s1.heap.objs.size, upd H1 s1.heap.objs.size (.tup xs), I1.laid (t' := s1.toks) (fun b u e => Heap.get?_push_of_some _ e) (Nat.le_refl _) ?_, rfl, q _ hf⟩
  exact ⟨z, us, r, ⟨_, Heap.get?_push_size _ rfl, rfl, _, rfl⟩⟩
theorem pe_lst (h : PA X es t) : PE X (.List es pos) (tLst t) := by
  intro pins s σ H Q I hq
  refine wpAny_List_spliced (thn (h pos pins s σ H _ I hq) fun us s1 ⟨xs, H1, I1, r, z, q⟩ => ⟨by rw [← r.length]; exact z, ?_⟩)
  have hf : H1 s1.heap.objs.size = none := I1.hok.fresh (Nat.le_refl _)
  refine ⟨.ref s1.heap.objs.size, upd H1 s1.heap.objs.size (.lst xs), I1.laid (t' := s1.toks) (fun b u e => Heap.get?_push_of_some _ e) (Nat.le_refl _) ?_, rfl, q _ hf⟩
  exact ⟨z, us, 0, r, Heap.get?_push_size _ rfl⟩
end
noncomputable abbrev Sp := List V → Hp → VK → XK → Prop
noncomputable abbrev CXT := List Env → Hp → Shared → XK → Value → Shared → Prop
structure Env0 (P : Program) (w : World) (K : PySem.W.Frag) (mg : Str → Option Value) (base : Heap) (A : Around) (outer : List Env) (s : Shared) (H : Hp) : Prop where
  frames : A.frames = some outer
  mod : Mod K mg base
  bs : ∀ b o, base.get? b = some o → s.heap.get? b = some o ∧ H b = none
  bsz : base.objs.size ≤ s.heap.objs.size
  funs : s.heap.FunFrames base outer
  frf : ∀ b ∈ frs outer, H b = none
  hok : HOk P w H s.heap
  bare : AllBare s.gens
noncomputable def CE (outer : List Env) (P : Program) (w : World) (H : Hp) (s : Shared) (Q : VK) (u : Value) (s' : Shared) : Prop :=
  ∃ v H', s'.os = s.os ∧ AllBare s'.gens ∧ Un (frs outer) [] H H' s.heap s'.heap ∧ HOk P w H' s'.heap ∧ RelV v u ∧ Q v H'
noncomputable def CR (CX : CXT) (outer : List Env) (P : Program) (w : World) (H : Hp) (s : Shared) (Q : VK) (E : XK) (r : Result) (s' : Shared) : Prop :=
  match r with
  | .ok (.ret u) => CE outer P w H s Q u s'
  | .ok _ => False
  | .error e => CX outer H s E e s'
structure FnOk (P : Program) (w : World) (K : PySem.W.Frag) (mg : Str → Option Value) (base : Heap) (CX : CXT) (k : Nat) (f : Addr) (fd : FuncData) (ps : List Str) (sp : Sp) : Prop where
  len : ∀ vs H Q E, sp vs H Q E → vs.length = ps.length
  run : ∀ (A : Around) (outer : List Env) (s : Shared) (H : Hp) (args : Args) (us : List Value) (vs : List V) (Q : VK) (E : XK), Room k A → Env0 P w K mg base A outer s H → BindsTo s fd args (ps.zip us) → Vals vs us → sp vs H Q E →
    codeAny (model P w) A (.call (.ref f) args) (CR CX outer P w H s Q E) s
theorem FnOk.mono {P : Program} {w : World} {K : PySem.W.Frag} {mg : Str → Option Value} {base : Heap} {CX : CXT} {j k : Nat} {f : Addr} {fd : FuncData} {ps : List Str} {sp : Sp} (F : FnOk P w K mg base CX j f fd ps sp) (h : j ≤ k) :
    FnOk P w K mg base CX k f fd ps sp := ⟨F.len, fun A outer s H args us vs Q E hr => F.run A outer s H args us vs Q E (hr.mono h)⟩
theorem Env0.make {P : Program} {w : World} {K : PySem.W.Frag} {mg : Str → Option Value} {base : Heap} {A : Around} {outer : List Env} {s : Shared} {H : Hp} (e : Env0 P w K mg base A outer s H) (C : Addr) (us : List Value) (kw : List (Str × Value)) :
    Env0 P w K mg base (A.under (.builtin "type.__call__" ⟨.ref C :: us, kw⟩)) outer s H := ⟨by first | exact e.frames | (simpa [Around.under, Code.envs, Code.isFrame, pushEnvs] using e.frames), e.mod, e.bs, e.bsz, e.funs, e.frf, e.hok, e.bare⟩
section
variable {X : Cx} {pins : List (Addr × Obj)} {σ : St} {H : Hp} {s s' : Shared}
theorem Inv.env0 (I : Inv X pins σ H s) : Env0 X.prog X.w X.K X.mg X.base X.A X.stack s H :=
  ⟨I.ok.frames, I.ok.mod, I.bs, Nat.le_trans I.ok.bsz I.sz, I.stack, I.stkFree, I.hok, I.bare⟩
theorem Inv.after {Q : VK} {u : Value} (I : Inv X pins σ H s) (h : CE X.stack X.prog X.w H s Q u s') : EP X pins σ Q u s' := by
  obtain ⟨v, H', os, bare, un, hok, r, q⟩ := h
  obtain ⟨hh, g, d, t, os'⟩ := s'
  obtain rfl : os' = s.os := os
  exact ⟨v, H', I.call (h' := hh) (g' := g) (d' := d) (t' := t) (ch := []) un hok bare (fun b z => absurd z (by simp)), r, q⟩
end
noncomputable def tCall (sp : Sp) (dvs : List V) (E : XK) (t : TA) : TE := fun σ H Q => t σ H fun vs H1 => sp (vs ++ dvs) H1 Q E
noncomputable def tMeth (C : Addr) (m : Str) (sp : Sp) (dvs : List V) (E : XK) (ta : TE) (t : TA) : TE := fun σ H Q => ta σ H fun x H1 => ∃ a dx fs, x = .ref a ∧ H1 a = some (.ins C dx fs) ∧ fs.lookup m = none ∧
  t σ H1 fun vs H2 => sp (x :: (vs ++ dvs)) H2 Q E
noncomputable def tMake (C : Addr) (sp : Sp) (dvs : List V) (E : XK) (t : TA) : TE := fun σ H Q => t σ H fun vs H1 => ∀ x dx, H1 x = none → H1 dx = none → dx ≠ x →
  sp (.ref x :: (vs ++ dvs)) (upd (upd H1 dx (.own x)) x (.ins C dx [])) (fun v H2 => v = .non ∧ Q (.ref x) H2) E
noncomputable def Binds (K : PySem.W.Frag) (fd : FuncData) (ps : List Str) (ds : List Value) : Prop :=
  ∀ (s : Shared) (us : List Value), K.In s.heap → (us ++ ds).length = ps.length → BindsTo s fd ⟨us, []⟩ (ps.zip (us ++ ds))
theorem Binds.all {K : PySem.W.Frag} {fd : FuncData} {ps : List Str} (h : ∀ us : List Value, us.length = ps.length → bindArgs fd ⟨us, []⟩ = pure (ps.zip us)) : Binds K fd ps [] := fun s us _ hl => by
  rw [List.append_nil] at hl ⊢
  exact .of_eq (h us hl)
noncomputable def Passes (CX : CXT) (X : Cx) (E : XK) : Prop := ∀ (pins : List (Addr × Obj)) (σ : St) (H : Hp) (s : Shared) (e : Value) (s' : Shared), Inv X pins σ H s → CX X.stack H s E e s' → X.xe e s'
section
variable {X : Cx} {CX : CXT} {k : Nat} {f C : Addr} {fd : FuncData} {ps : List Str} {sp : Sp} {dvs : List V} {ds : List Value} {E : XK} {x m : Str} {p pos apos : Pos} {e o : Expr} {es : List Expr} {ta : TE} {t : TA}
theorem run_fn {pins : List (Addr × Obj)} {σ : St} {H : Hp} {s : Shared} {Q : VK} {us : List Value} {vs : List V} (F : FnOk X.prog X.w X.K X.mg X.base CX k f fd ps sp) (hr : Room k X.A) (hb : Binds X.K fd ps ds) (hd : Vals dvs ds) (hx : Passes CX X E)
    (I : Inv X pins σ H s) (r : Vals vs us) (h : sp (vs ++ dvs) H Q E) : wpAny (model X.prog X.w) X.A (call (.ref f) us) (EP X pins σ Q) X.xe s := by
  have r2 : Vals (vs ++ dvs) (us ++ ds) := r.append hd
  have hl : (us ++ ds).length = ps.length := by rw [← r2.length]; exact F.len _ _ _ _ h
  refine wpAny_call (codeAny_mono (F.run X.A X.stack s H ⟨us, []⟩ (us ++ ds) (vs ++ dvs) Q E hr I.env0 (hb s us I.kIn hl) r2 h) fun r s' hq => ?_)
  cases r with
  | error e => exact hx pins σ H s e s' I hq
  | ok fl =>
    cases fl with
    | ret u => exact I.after hq
    | next => exact False.elim hq
    | brk => exact False.elim hq
    | cont => exact False.elim hq
theorem pe_call (F : FnOk X.prog X.w X.K X.mg X.base CX k f fd ps sp) (hr : Room k X.A) (hg : Gl X x) (hm : X.mg x = some (.ref f)) (hk : PySem.W.keepIn X.K (.ref f) = true) (hb : Binds X.K fd ps ds) (hd : Vals dvs ds) (hx : Passes CX X E)
    (ha : PA X (e :: es) t) (hdb : (x == ("__debug__" : Str)) = false := by decide) (he : starEach (e :: es) X.env = (false, eval e X.env) :: starEach es X.env := by rfl) (hpl : (backTo pos (starEach es X.env)).any (·.1) = false := by rfl) :
    PE X (.Call (.Name x p) (e :: es) [] pos) (tCall sp dvs E t) := by
  intro pins s σ H Q I h
  refine wpAny_Call_Name_kw (ld_glob I hg hm ?_ hdb)
  refine PySem.W.callWith_K (h₀ := X.base) I.ok.mod.kin hk (thn (ha pos pins s σ H _ I h) fun us s1 ⟨vs, H1, I1, r, q⟩ => ⟨I1.kIn, ?_⟩) he hpl
  exact run_fn F hr hb hd hx I1 r q
theorem pe_meth {pl : Sem Bool} (he : PE X o ta) (c : Cls X.K C) (hm : Meth X.K C m f) (F : FnOk X.prog X.w X.K X.mg X.base CX k f fd ps sp) (hr : Room k X.A) (hb : Binds X.K fd ps ds) (hd : Vals dvs ds) (hx : Passes CX X E) (ha : PA X (e :: es) t)
    (hst : starEach (e :: es) X.env = (false, eval e X.env) :: starEach es X.env := by rfl) (hpl : (backTo pos (starEach es X.env)).any (·.1) = false := by rfl)
    (ht : eval (.Call (.Attribute o m apos) (e :: es) [] pos) X.env = (do
      let ov ← eval o X.env
      standAt apos.atName
      let (f, first) ← holding [ov] (getMethod ov m pl)
      callWith pos f first (backTo pos (starEach (e :: es) X.env)) (backToKw pos (keywordEach [] X.env))) := by rfl) :
    PE X (.Call (.Attribute o m apos) (e :: es) [] pos) (tMeth C m sp dvs E ta t) := by
  intro pins s σ H Q I h
  refine PySem.W.methodCall_KW (pl := pl) (thn (he pins s σ H _ I h) fun u s1 ⟨x, H1, I1, rx, a, dx, fs, ex, ea, l, q⟩ => ?_) ht
  subst ex
  obtain rfl : u = Value.ref a := rx
  refine getmeth_ok I1 ea c hm l ?_
  refine PySem.W.callWith_K (first := [.ref a]) (h₀ := X.base) I.ok.mod.kin hm.kp (thn (ha pos pins s1 σ H1 _ I1 q) fun us s2 ⟨vs, H2, I2, r, q2⟩ => ⟨I2.kIn, ?_⟩) hst hpl
  exact run_fn (us := .ref a :: us) (vs := .ref a :: vs) F hr hb hd hx I2 (.cons rfl r) q2
theorem pe_meth0 {pl : Sem Bool} (he : PE X o ta) (c : Cls X.K C) (hm : Meth X.K C m f) (F : FnOk X.prog X.w X.K X.mg X.base CX k f fd ps sp) (hr : Room k X.A) (hb : Binds X.K fd ps ds) (hd : Vals dvs ds) (hx : Passes CX X E)
    (ht : eval (.Call (.Attribute o m apos) [] [] pos) X.env = (do
      let ov ← eval o X.env
      standAt apos.atName
      let (f, first) ← holding [ov] (getMethod ov m pl)
      callWith pos f first (backTo pos (starEach [] X.env)) (backToKw pos (keywordEach [] X.env))) := by rfl) :
    PE X (.Call (.Attribute o m apos) [] [] pos) (tMeth C m sp dvs E ta tNil) := by
  intro pins s σ H Q I h
  refine PySem.W.methodCall_KW (pl := pl) (thn (he pins s σ H _ I h) fun u s1 ⟨x, H1, I1, rx, a, dx, fs, ex, ea, l, q⟩ => ?_) ht
  subst ex
  obtain rfl : u = Value.ref a := rx
  refine getmeth_ok I1 ea c hm l ?_
  exact PySem.W.callWith_K0 (first := [.ref a]) I1.kIn hm.kp (run_fn (us := [.ref a]) (vs := [.ref a]) F hr hb hd hx I1 (.cons rfl .nil) q)
structure Mk (K : PySem.W.Frag) (C f : Addr) : Prop where
  makes : PySem.W.makesIn K C = true
  init : PySem.W.findIn K (.ref C) "__init__" = some (some (.ref f))
  fn : PySem.W.isFn K (.ref f) = true
  kp : PySem.W.keepIn K (.ref C) = true
theorem run_make {pins : List (Addr × Obj)} {σ : St} {H : Hp} {s : Shared} {Q : VK} {us : List Value} {vs : List V} (M : Mk X.K C f) (F : FnOk X.prog X.w X.K X.mg X.base CX k f fd ps sp) (hr : Room (k + 1) X.A) (hb : Binds X.K fd ps ds) (hd : Vals dvs ds)
    (hx : Passes CX X E) (I : Inv X pins σ H s) (r : Vals vs us)
    (h : ∀ x dx, H x = none → H dx = none → dx ≠ x → sp (.ref x :: (vs ++ dvs)) (upd (upd H dx (.own x)) x (.ins C dx [])) (fun v H2 => v = .non ∧ Q (.ref x) H2) E) :
    wpAny (model X.prog X.w) X.A (call (.ref C) us) (EP X pins σ Q) X.xe s := by
  have hq := h (s.heap.objs.size + 1) s.heap.objs.size (I.hok.fresh (Nat.le_succ _)) (I.hok.fresh (Nat.le_refl _)) (Nat.ne_of_lt (Nat.lt_succ_self _))
  have I2 := Inv.made (C := C) I
  have r2 : Vals (V.ref (s.heap.objs.size + 1) :: (vs ++ dvs)) (Value.ref (s.heap.objs.size + 1) :: (us ++ ds)) := .cons rfl (r.append hd)
  have hl : (Value.ref (s.heap.objs.size + 1) :: us ++ ds).length = ps.length := by
    have e := r2.length
    rw [F.len _ _ _ _ hq] at e
    exact e.symm
  refine wpAny_call (make_map (f := f) I.kIn M.makes M.init (beq_iff_eq.mp M.fn) (codeAny_mono (F.run _ X.stack _ _ ⟨Value.ref (s.heap.objs.size + 1) :: us, []⟩ (Value.ref (s.heap.objs.size + 1) :: (us ++ ds)) _ _ E (hr.make C us [])
    (I2.env0.make C us []) (hb _ (Value.ref (s.heap.objs.size + 1) :: us) I2.kIn hl) r2 hq) fun r s' hq' => ?_))
  cases r with
  | error e => exact hx pins σ _ _ e s' I2 hq'
  | ok fl =>
    cases fl with
    | ret u =>
      obtain ⟨v, H', I3, rv, ev, q3⟩ := I2.after hq'
      subst ev
      exact ⟨rv, ⟨V.ref (s.heap.objs.size + 1), H', I3, rfl, q3⟩⟩
    | next => exact False.elim hq'
    | brk => exact False.elim hq'
    | cont => exact False.elim hq'
theorem pe_make (M : Mk X.K C f) (F : FnOk X.prog X.w X.K X.mg X.base CX k f fd ps sp) (hr : Room (k + 1) X.A) (hg : Gl X x) (hm : X.mg x = some (.ref C)) (hb : Binds X.K fd ps ds) (hd : Vals dvs ds) (hx : Passes CX X E)
    (ha : PA X (e :: es) t) (hdb : (x == ("__debug__" : Str)) = false := by decide) (he : starEach (e :: es) X.env = (false, eval e X.env) :: starEach es X.env := by rfl) (hpl : (backTo pos (starEach es X.env)).any (·.1) = false := by rfl) :
    PE X (.Call (.Name x p) (e :: es) [] pos) (tMake C sp dvs E t) := by
  intro pins s σ H Q I h
  refine wpAny_Call_Name_kw (ld_glob I hg hm ?_ hdb)
  refine PySem.W.callWith_K (h₀ := X.base) I.ok.mod.kin M.kp (thn (ha pos pins s σ H _ I h) fun us s1 ⟨vs, H1, I1, r, q⟩ => ⟨I1.kIn, ?_⟩) he hpl
  exact run_make M F hr hb hd hx I1 r q
end
section
variable {X : Cx} {CX : CXT} {k : Nat} {f C : Addr} {fd : FuncData} {ps ks : List Str} {sp : Sp} {E : XK} {x m : Str} {p pos apos kpos : Pos} {e o : Expr} {es : List Expr} {kws : List Keyword} {te ta : TE} {t tk : TA} {nm : Option Str}
variable {g : List Value → List Value → List Value} {gV : List V → List V → List V}
end
structure FnScope (N P : List Str) (sc : Scope) : Prop where
  kind : sc.kind = .function
  co : sc.isCoroutine = false
  gen : sc.isGenerator = false
  nd : N.Nodup
  pre : N.take P.length = P
  par : ∀ x ∈ P, sc.names.lookup x = some .local ∨ sc.names.lookup x = some .cell
  nofree : ∀ y ∈ sc.names, y.2 ≠ .free
theorem bindL_out {kindOf : Str → Option NameKind} {x : Str} : ∀ {binds : List (Str × Value)} {m : Str → Option Value}, (∀ v, (x, v) ∉ binds) → bindL kindOf binds m x = m x
  | [], _, _ => rfl
  | (n, v) :: r, m, h => by
    unfold bindL
    rw [bindL_out fun w hw => h w (List.mem_cons_of_mem _ hw)]
    split
    · have : x ≠ n := by rintro rfl; exact h v List.mem_cons_self
      simp [this]
    · rfl
theorem bindC_out {kindOf : Str → Option NameKind} {x : Str} : ∀ {binds : List (Str × Value)} {m : Str → Option Value}, (∀ v, (x, v) ∉ binds) → bindC kindOf binds m x = m x
  | [], _, _ => rfl
  | (n, v) :: r, m, h => by
    unfold bindC
    rw [bindC_out fun w hw => h w (List.mem_cons_of_mem _ hw)]
    split
    · rfl
    · have : x ≠ n := by rintro rfl; exact h v List.mem_cons_self
      simp [this]
theorem bindL_get {kindOf : Str → Option NameKind} {x : Str} {v : Value} : ∀ {P : List Str} {vs : List Value} {i : Nat} {m : Str → Option Value}, P.Nodup → P[i]? = some x → vs[i]? = some v → kindOf x = some .local →
    bindL kindOf (P.zip vs) m x = some v
  | [], _, _, _, _, h, _, _ => by simp at h
  | _ :: _, [], _, _, _, _, h, _ => by simp at h
  | p :: P, w :: vs, 0, m, nd, h1, h2, hk => by
    simp at h1 h2; subst h1; subst h2
    show bindL kindOf ((p, w) :: P.zip vs) m p = _
    unfold bindL
    rw [bindL_out fun v hv => (List.nodup_cons.mp nd).1 (List.of_mem_zip hv).1, if_pos hk]
    simp
  | p :: P, w :: vs, i + 1, m, nd, h1, h2, hk => by
    show bindL kindOf ((p, w) :: P.zip vs) m x = _
    unfold bindL
    exact bindL_get (i := i) (List.nodup_cons.mp nd).2 (by simpa using h1) (by simpa using h2) hk
theorem bindC_get {kindOf : Str → Option NameKind} {x : Str} {v : Value} : ∀ {P : List Str} {vs : List Value} {i : Nat} {m : Str → Option Value}, P.Nodup → P[i]? = some x → vs[i]? = some v → kindOf x ≠ some .local →
    bindC kindOf (P.zip vs) m x = some v
  | [], _, _, _, _, h, _, _ => by simp at h
  | _ :: _, [], _, _, _, _, h, _ => by simp at h
  | p :: P, w :: vs, 0, m, nd, h1, h2, hk => by
    simp at h1 h2; subst h1; subst h2
    show bindC kindOf ((p, w) :: P.zip vs) m p = _
    unfold bindC
    rw [bindC_out fun v hv => (List.nodup_cons.mp nd).1 (List.of_mem_zip hv).1, if_neg hk]
    simp
  | p :: P, w :: vs, i + 1, m, nd, h1, h2, hk => by
    show bindC kindOf ((p, w) :: P.zip vs) m x = _
    unfold bindC
    exact bindC_get (i := i) (List.nodup_cons.mp nd).2 (by simpa using h1) (by simpa using h2) hk
noncomputable def start (N : List Str) (vs : List V) : St := vs.map some ++ List.replicate (N.length - vs.length) none
noncomputable def cxOf (CX : CXT) (P : Program) (w : World) (K : PySem.W.Frag) (mg : Str → Option Value) (base : Heap) (N : List Str) (qual : Str) (scope : Scope) (f : Addr) (cd : Value) (A : Around) (outer : List Env) (s : Shared) (H : Hp) (E : XK) : Cx where
  prog := P
  w := w
  K := K
  mg := mg
  base := base
  A := A.deeper (envOfC qual scope s.heap.objs.size f cd)
  N := N
  s₀ := s
  H₀ := H
  env := envOfC qual scope s.heap.objs.size f cd
  outer := outer
  stack := envOfC qual scope s.heap.objs.size f cd :: outer
  ex := []
  calm := true
  fn := fun _ => true
  pn := []
  xe := fun e s' => wpAny (model P w) (A.deeper (envOfC qual scope s.heap.objs.size f cd)) (leaving (envOfC qual scope s.heap.objs.size f cd) e) (fun _ s'' => CX outer H s E e s'') (fun e' s'' => CX outer H s E e' s'') s'
theorem cell_has {sc : Scope} {n : Nat} {x : Str} (h : sc.names.lookup x = some .cell) : ∃ c, (cellsFrom n sc.names []).lookup x = some c := by
  have q := PySem.W.cellsFrom_some sc.names n [] (.inl h)
  exact Option.isSome_iff_exists.mp q
theorem inv_start {CX : CXT} {P : Program} {w : World} {K : PySem.W.Frag} {mg : Str → Option Value} {base : Heap} {N ps : List Str} {qual : Str} {scope : Scope} {f : Addr} {cd : Value} {A : Around} {outer : List Env} {s s1 : Shared} {H : Hp} {E : XK} {us : List Value} {vs : List V}
    (S : FnScope N ps scope) (hd : A.handled = none) (e0 : Env0 P w K mg base A outer s H) (hl : vs.length = ps.length) (r : Vals vs us)
    (x : InCallC s s.heap.objs.size (bindL (envOfC qual scope s.heap.objs.size f cd).kindOf (ps.zip us) fun _ => none) (cellsFrom (s.heap.objs.size + 1) scope.names []) (bindC (envOfC qual scope s.heap.objs.size f cd).kindOf (ps.zip us) fun _ => none) s1) :
    Inv (cxOf CX P w K mg base N qual scope f cd A outer s H E) [] (start N vs) H s1 := by
  have hpl : ps.length ≤ N.length := by have := congrArg List.length S.pre; rw [List.length_take] at this; omega
  obtain ⟨h1, tk, rfl, hk⟩ := x.done
  have noA : ∀ b : Addr, b ∉ (cxOf CX P w K mg base N qual scope f cd A outer s H E).ex := fun b z => absurd (show b ∈ ([] : List Addr) from z) (by simp)
  refine ⟨⟨e0.mod, S.kind, rfl, rfl, Nat.le_refl _, fun y z c h1 h2 => ?_, fun y hy => ?_, fun y c _ h => ?_, fun _ => hd, Around.frames_deeper e0.frames, .inr ⟨rfl, rfl⟩, fun b z => absurd z (noA b), e0.bs, e0.bsz, fun b _ _ => noA b, fun b z => absurd z (noA b), e0.funs, e0.frf⟩,
    rfl, e0.bare, Un.kept hk, ⟨_, x.toInCall.ns, fun i y v h1 h2 h3 => ?_⟩, fun y c h => ⟨_, x.cell y c h⟩, e0.hok.fresh (Nat.le_refl _), fun y c h => ?_, fun p hp => absurd (show p ∈ ([] : List (Addr × Obj)) from hp) (by simp), e0.hok.kept hk, ?_⟩
  · exact name_of_addr x.apart (PySem.mem_of_lookup h1) (PySem.mem_of_lookup h2)
  · have hy : scope.names.lookup y = some .cell ∨ scope.names.lookup y = some .free := hy
    rcases hy with hy | hy
    · exact cell_has hy
    · exact absurd rfl (S.nofree _ (PySem.mem_of_lookup hy))
  · exact Nat.le_of_lt (x.above y c (PySem.mem_of_lookup h))
  · have hi : i < vs.length := by
      unfold start at h2
      by_cases hi : i < vs.length
      · exact hi
      · rw [List.getElem?_append_right (by simpa using hi)] at h2
        rw [List.getElem?_replicate] at h2
        split at h2 <;> cases h2
    have ha : vs[i]? = some v := by
      unfold start at h2
      rw [List.getElem?_append_left (by simpa using hi), List.getElem?_map] at h2
      cases e : vs[i]? with
      | none => rw [e] at h2; cases h2
      | some a => rw [e] at h2; cases h2; rfl
    obtain ⟨u, hu, rv⟩ := r.get ha
    have hp : ps[i]? = some y := by
      rw [← S.pre, List.getElem?_take_of_lt (by omega)]; exact h1
    have ndP : ps.Nodup := by rw [← S.pre]; exact S.nd.sublist (List.take_sublist _ _)
    refine ⟨u, rv, ?_⟩
    rcases S.par y (List.mem_of_getElem? hp) with k | k
    · exact .inl ⟨k, bindL_get ndP hp hu k⟩
    · obtain ⟨c, e⟩ := cell_has (n := s.heap.objs.size + 1) k
      refine .inr ⟨.inl k, c, e, ?_⟩
      have q := x.cell y c e
      rw [bindC_get ndP hp hu (by show scope.names.lookup y ≠ _; rw [k]; decide)] at q
      exact q
  · exact e0.hok.fresh (Nat.le_of_lt (x.above y c (PySem.mem_of_lookup h)))
  · unfold start
    show _ = N.length
    rw [List.length_append, List.length_map, List.length_replicate]
    omega
theorem fn_of {CX : CXT} {P : Program} {w : World} {K : PySem.W.Frag} {mg : Str → Option Value} {base : Heap} {k : Nat} {f : Addr} {name qual : Str} {params : Arguments} {body : List Stmt} {scope : Scope} {dV kV doc pm cdv ct oc : Value} {an od : Option Addr}
    {osl : Array (Option Value)} {N ps : List Str} {sp : Sp} (lk : K.lookup f = some ⟨oc, od, .func (PySem.W.fnOf name qual params body scope dV kV doc pm an cdv ct), osl⟩) (hcd : PySem.W.codeIn K cdv qual = true) (S : FnScope N ps scope)
    (len : ∀ vs H Q E, sp vs H Q E → vs.length = ps.length)
    (hbody : ∀ (A : Around) (outer : List Env) (s : Shared) (H : Hp) (vs : List V) (Q : VK) (E : XK), Room k (A.deeper (envOfC qual scope s.heap.objs.size f cdv)) → sp vs H Q E →
      ∃ t, PSs (cxOf CX P w K mg base N qual scope f cdv A outer s H E) body t ∧ t { nx := fun _ H' => Q .non H', rt := Q } (start N vs) H) :
    FnOk P w K mg base CX (k + 1) f (PySem.W.fnOf name qual params body scope dV kV doc pm an cdv ct) ps sp := by
  refine ⟨len, fun A outer s H args us vs Q E hr e0 hb r hsp => ?_⟩
  have hl := len _ _ _ _ hsp
  have KX : K.In s.heap := e0.mod.kin.keeps fun b o e => (e0.bs b o e).1
  have lim : s.heap.NoLimit := e0.mod.nolimit.keeps fun b o e => (e0.bs b o e).1
  have hkind : ∀ y ∈ ps.zip us, scope.names.lookup y.1 = some .local ∨ (scope.names.lookup y.1 = some .cell ∧ ((cellsFrom (s.heap.objs.size + 1) scope.names []).lookup y.1).isSome = true) := fun ⟨n, v⟩ hy => by
    rcases S.par n (List.of_mem_zip hy).1 with q | q
    · exact .inl q
    · exact .inr ⟨q, PySem.W.cellsFrom_some _ _ _ (.inl q)⟩
  refine codeAny_call_function hr.depth (KX _ _ lk) rfl S.co S.gen rfl (PySem.W.codeRec_of KX hcd) (hb _ _ _ _ ?_)
  refine wpAny_newFunctionEnv_cells S.kind hkind fun env he s1 x => ?_
  subst he
  refine ⟨lim.keeps x.toInCall.keep, codeAny_func ?_⟩
  obtain ⟨t, ht, hq⟩ := hbody A outer s H vs Q E (hr.deeper _) hsp
  have I : Inv (cxOf CX P w K mg base N qual scope f cdv A outer s H E) [] (start N vs) H s1 := inv_start S hr.hd e0 hl r x
  refine wpAny_mono (ht [] s1 (start N vs) H _ I hq) (fun fl s' hs => ?_) fun e s' hs => hs
  have fin : ∀ {σ' : St} {H' : Hp} {v : V} {u : Value}, Inv (cxOf CX P w K mg base N qual scope f cdv A outer s H E) [] σ' H' s' → RelV v u → Q v H' → CE outer P w H s Q u s' :=
    fun {σ' H' v u} J rv q => ⟨v, H', J.os, J.bare, J.base, J.hok, rv, q⟩
  cases fl with
  | ret u =>
    obtain ⟨v, σ', H', J, rv, q⟩ := hs
    exact fin J rv q
  | next =>
    obtain ⟨σ', H', J, q⟩ := hs
    exact fin (v := V.non) (u := Value.none) J rfl q
  | brk =>
    obtain ⟨_, _, _, q⟩ := hs
    exact False.elim q
  | cont =>
    obtain ⟨_, _, _, q⟩ := hs
    exact False.elim q
end L2
namespace L2
open PySem PySem.Spec PyProof.Rows
section
variable {X : Cx} {x : Str} {p pos : Pos} {e : Expr} {es : List Expr} {t : TA} {id T : String} {r : List V → Hp → VK → Prop}
noncomputable def tCB (r : List V → Hp → VK → Prop) (t : TA) : TE := fun σ H Q => t σ H fun vs H1 => r vs H1 Q
theorem pe_callB (hc : CallR X (.builtin id) r) (hg : Gl X x) (hm : X.mg x = none) (hv : bootBuiltins x = some (.builtin id)) (ha : PA X (e :: es) t) (hn : x ≠ "__name__" := by decide) (hdb : (x == ("__debug__" : Str)) = false := by decide)
    (he : starEach (e :: es) X.env = (false, eval e X.env) :: starEach es X.env := by rfl) (hpl : (backTo pos (starEach es X.env)).any (·.1) = false := by rfl) : PE X (.Call (.Name x p) (e :: es) [] pos) (tCB r t) := by
  intro pins s σ H Q I h
  refine wpAny_Call_Name_kw (ld_blt I hg hm hv ?_ hn hdb)
  exact PyProof.Rows.callWith_builtin1 (thn (ha pos pins s σ H _ I h) fun us s1 ⟨vs, H1, I1, r1, q1⟩ => hc pins s1 σ H1 vs us Q I1 r1 q1) he hpl
theorem pe_callTy (hc : CallR X (.type T) r) (hg : Gl X x) (hm : X.mg x = none) (hv : bootBuiltins x = some (.type T)) (ha : PA X (e :: es) t) (hn : x ≠ "__name__" := by decide) (hdb : (x == ("__debug__" : Str)) = false := by decide)
    (he : starEach (e :: es) X.env = (false, eval e X.env) :: starEach es X.env := by rfl) (hpl : (backTo pos (starEach es X.env)).any (·.1) = false := by rfl) : PE X (.Call (.Name x p) (e :: es) [] pos) (tCB r t) := by
  intro pins s σ H Q I h
  refine wpAny_Call_Name_kw (ld_blt I hg hm hv ?_ hn hdb)
  exact PyProof.Rows.callWith_type1 (thn (ha pos pins s σ H _ I h) fun us s1 ⟨vs, H1, I1, r1, q1⟩ => hc pins s1 σ H1 vs us Q I1 r1 q1) he hpl
end
end L2
namespace HT
open PySem PyProof.Rows
section
open PySem.SeqAt
open PySem.AutoSeq1 (wpAny_loadPart')
open PySem.MeetsSeq PySem.MeetsSeq2 PySem.MeetsSeq3
end
section
variable {prog : Program} {w : World} {A : Around} {E : Value → Shared → Prop} {s : Shared}
theorem cat_tup {t b : Addr} {vs ws : List Value} {Q : Value → Shared → Prop} (ht : IsTup s.heap t vs.toArray) (hb : IsTup s.heap b ws.toArray) (hv : vs ≠ [])
    (h1 : ws = [] → Q (.ref t) s) (h2 : ws ≠ [] → Q (.ref s.heap.objs.size) { s with heap := s.heap.push { cls := .type "tuple", data := .seq (vs ++ ws).toArray } })
    (hsz : vs.length + ws.length ≤ sizeLine) : wpAny (model prog w) A (binaryOp .Add (.ref t) (.ref b)) Q E s := by
  obtain ⟨⟨cls, dd, data, sl⟩, ho, hc, n, hd⟩ := id ht
  obtain ⟨⟨cls2, dd2, data2, sl2⟩, ho2, hc2, n2, hd2⟩ := id hb
  simp only at hc hd hc2 hd2
  subst hc hd hc2 hd2
  have e : vs.toArray ++ ws.toArray = (vs ++ ws).toArray := by simp
  by_cases hw : ws = []
  · exact concat_meets ⟨_, ho, rfl⟩ ⟨_, ho2, rfl⟩ noFill_tuple_add seq_tuple_add PySem.F.slot_tuple_add PySem.F.entry_tuple_add (PySem.F.args_tuple_add_2 _ _)
      (tuple_addW1 t b vs.toArray ws.toArray n n2 dd dd2 sl sl2 (by simpa using hv) (by simp [hw])) ⟨ho, ho2, h1 hw⟩
  · refine concat_meets ⟨_, ho, rfl⟩ ⟨_, ho2, rfl⟩ noFill_tuple_add seq_tuple_add PySem.F.slot_tuple_add PySem.F.entry_tuple_add (PySem.F.args_tuple_add_2 _ _)
      (tuple_addW2 t b vs.toArray ws.toArray n n2 dd dd2 sl sl2 (by simpa using hv) (by simpa using hw) (by rw [List.size_toArray, List.size_toArray]; exact hsz)) ⟨ho, ho2, ?_⟩
    rw [e]
    exact h2 hw
noncomputable def sIx (n d : Nat) : Option Int → Nat
  | none => d
  | some v => if v < 0 then (v + (n : Int)).toNat else min v.toNat n
theorem sIx_le (n d : Nat) (hd : d ≤ n) (o : Option Int) : sIx n d o ≤ n := by
  cases o with
  | none => exact hd
  | some v =>
    show (if v < 0 then (v + (n : Int)).toNat else min v.toNat n) ≤ n
    by_cases hv : v < 0
    · rw [if_pos hv]; omega
    · rw [if_neg hv]; exact Nat.min_le_right _ _
theorem clip_eq (v : Int) (n d : Nat) : (if v < 0 then max (v + (n : Int)) 0 else min v (n : Int)) = ((sIx n d (some v) : Nat) : Int) := by
  show (if v < 0 then max (v + (n : Int)) 0 else min v (n : Int)) = (((if v < 0 then (v + (n : Int)).toNat else min v.toNat n) : Nat) : Int)
  by_cases hv : v < 0
  · simp only [if_pos hv]; omega
  · simp only [if_neg hv]; omega
theorem adjust_gen (lo hi : Option Int) (n : Nat) : Builtin.Slice.sliceAdjust lo hi 1 (n : Int) = (((sIx n 0 lo : Nat) : Int), ((sIx n n hi : Nat) : Int)) := by
  have h1 : ¬ ((1 : Int) < 0) := by omega
  unfold Builtin.Slice.sliceAdjust
  simp only [h1, if_false]
  refine Prod.ext ?_ ?_
  · cases lo with
    | none => rfl
    | some v => exact clip_eq v n 0
  · cases hi with
    | none => rfl
    | some v => exact clip_eq v n n
theorem places_gen (i j : Nat) : Builtin.Slice.slicePlaces (i : Int) (j : Int) 1 = j - i := by
  unfold Builtin.Slice.slicePlaces
  have h1 : (1 : Int) > 0 := by omega
  simp only [h1, if_true, Int.ediv_one]
  split <;> omega
theorem slicePart_ {v : Value} {o : Option Int} {Q : Option Int → Shared → Prop} (p : IsPart v o) (h : Q o s) : wpAny (model prog w) A (Builtin.Slice.slicePartIndex v) Q E s := by
  cases p with
  | none => exact slicePart_none h
  | int i t => exact slicePart_int h
theorem sliceApplied_gen {sl : Addr} {vl vu : Value} {lo hi : Option Int} {n : Nat} {Q : Int × Int × Nat → Shared → Prop} (hs : s.heap.IsSliceOf sl vl vu .none) (pl : IsPart vl lo) (pu : IsPart vu hi)
    (h : Q (((sIx n 0 lo : Nat) : Int), 1, sIx n n hi - sIx n 0 lo) s) : wpAny (model prog w) A (Builtin.Slice.sliceApplied (.ref sl) (pure (n : Int))) Q E s := by
  obtain ⟨os, hos, hcs, hds⟩ := id hs
  unfold Builtin.Slice.sliceApplied Builtin.Slice.sliceFields
  refine wpAny_bind (wpAny_bind (wpAny_field hos hds (x := vl) rfl (wpAny_bind (wpAny_field hos hds (x := vu) rfl (wpAny_bind (wpAny_field hos hds (x := .none) rfl (wpAny_pure ?_)))))))
  refine wpAny_bind (slicePart_none ?_)
  show wpAny _ _ (if ((1 : Int) == 0) = true then _ else _) _ _ s
  rw [if_neg (by decide)]
  refine wpAny_bind (slicePart_ pl (wpAny_bind (slicePart_ pu (wpAny_bind (wpAny_pure ?_)))))
  show wpAny _ _ (match Builtin.Slice.sliceAdjust lo hi 1 (n : Int) with | (lo, hi) => pure (lo, (1 : Int), Builtin.Slice.slicePlaces lo hi 1)) _ _ s
  rw [adjust_gen lo hi n]
  show wpAny _ _ (pure (((sIx n 0 lo : Nat) : Int), (1 : Int), Builtin.Slice.slicePlaces ((sIx n 0 lo : Nat) : Int) ((sIx n n hi : Nat) : Int) 1)) _ _ s
  rw [places_gen]
  exact wpAny_pure h
theorem pick_gen (xs : Array Value) (i k : Nat) : ((List.range k).filterMap fun (m : Nat) => xs[((i : Int) + (m : Int) * 1).toNat]?).toArray = ((xs.toList.drop i).take k).toArray := by
  have e : (fun (m : Nat) => xs[((i : Int) + (m : Int) * 1).toNat]?) = fun m => xs[i + m]? := by
    funext m
    have : ((i : Int) + (m : Int) * 1).toNat = i + m := by omega
    rw [this]
  rw [e]
  have := pick_run xs i k
  rw [List.filterMap_map] at this
  have e2 : ((fun x => xs[x]?) ∘ fun x => i + x) = fun m => xs[i + m]? := rfl
  rw [e2] at this
  rw [this]
theorem getItem_tuple_cut {t sl : Addr} {items : Array Value} {vl vu : Value} {lo hi : Option Int} {Q : Value → Shared → Prop} (ht : IsTup s.heap t items) (hs : s.heap.IsSliceOf sl vl vu .none) (pl : IsPart vl lo) (pu : IsPart vu hi)
    (hw : ¬ (sIx items.size 0 lo = 0 ∧ sIx items.size items.size hi = items.size))
    (h : Q (.ref s.heap.objs.size) { s with heap := s.heap.push { cls := .type "tuple", data := .seq ((items.toList.drop (sIx items.size 0 lo)).take (sIx items.size items.size hi - sIx items.size 0 lo)).toArray } })
    (hsz : items.size ≤ sizeLine) : wpAny (model prog w) A (getItem (.ref t) (.ref sl)) Q E s := by
  have htake : sizeOk (.seq ((items.toList.drop (sIx items.size 0 lo)).take (sIx items.size items.size hi - sIx items.size 0 lo)).toArray) := by
    show ((items.toList.drop (sIx items.size 0 lo)).take (sIx items.size items.size hi - sIx items.size 0 lo)).toArray.size ≤ sizeLine
    rw [List.size_toArray, List.length_take, List.length_drop, Array.length_toList]
    omega
  have hj : sIx items.size items.size hi ≤ items.size := sIx_le _ _ (Nat.le_refl _) hi
  obtain ⟨os, hos, hcs, hds⟩ := id hs
  have hTs : s.TypeIs (.ref sl) "slice" := ⟨os, hos, hcs⟩
  unfold getItem
  try with_reducible refine wpAny_holding ?_
  first | refine wpAny_bind (wpAny_pure ?_) | skip
  refine wpAny_bind (wpAny_sequenceKey ht.typeIs (by decide) ?_)
  refine wpAny_bind (wpAny_callSpecial?_slot (name := Str.ofString "__getitem__") ht.typeIs PyProof.Rows.slot_tuple_getitem
    (wpAny_call_entry PyProof.Rows.slot_tuple_getitem ht.typeIs entry_tuple_getitem ?_ (args_tuple_getitem _ _)))
  show wpAny _ _ (Builtin.Tuple.tupleItemsOf (.ref t) >>= _) _ _ s
  refine wpAny_bind (tupleItemsOf_ ht ?_)
  refine wpAny_bind (wpAny_typeOf hTs ?_)
  rw [if_pos (by decide)]
  refine wpAny_bind (sliceApplied_gen hs pl pu ?_)
  have hno : ¬ ((((sIx items.size 0 lo : Nat) : Int) == 0 && (1 : Int) == 1 && (sIx items.size items.size hi - sIx items.size 0 lo) == items.size) = true) := by
    intro q
    rw [Bool.and_eq_true, Bool.and_eq_true] at q
    have q1 : ((sIx items.size 0 lo : Nat) : Int) = 0 := eq_of_beq q.1.1
    have q2 : sIx items.size items.size hi - sIx items.size 0 lo = items.size := eq_of_beq q.2
    exact hw ⟨by omega, by omega⟩
  show wpAny _ _ (if (((sIx items.size 0 lo : Nat) : Int) == 0 && (1 : Int) == 1 && (sIx items.size items.size hi - sIx items.size 0 lo) == items.size) = true then _ else _) _ _ s
  rw [if_neg hno, pick_gen]
  first
    | exact wpAny_bind (m := Builtin.Tuple.tupleExact _) (wpAny_newObj_type (wpAny_pure ⟨_, rfl, wpAny_pure h⟩) htake)
    | exact wpAny_bind (m := Builtin.Tuple.tupleExact _) (wpAny_newObj_type (wpAny_bind (wpAny_pure (wpAny_pure ⟨_, rfl, wpAny_pure h⟩))) htake)
    | exact wpAny_bind (wpAny_bind (m := Builtin.Tuple.tupleExact _) (wpAny_newObj_type (wpAny_pure (wpAny_pure ⟨_, rfl, wpAny_pure h⟩)) htake))
    | exact wpAny_bind (wpAny_bind (m := Builtin.Tuple.tupleExact _) (wpAny_newObj_type (wpAny_pure ⟨_, rfl, wpAny_pure h⟩) htake))
end
end HT
namespace L2
open PySem PySem.Spec PyProof.Rows
noncomputable abbrev TO := St → Hp → (Option Int → Hp → Prop) → Prop
noncomputable def PO (X : Cx) (e : Option Expr) (t : TO) : Prop :=
  ∀ (pins : List (Addr × Obj)) (s : Shared) (σ : St) (H : Hp) (Q : Option Int → Hp → Prop), Inv X pins σ H s → t σ H Q →
    wpAny (model X.prog X.w) X.A (evalPart e X.env) (fun u s' => ∃ o H', Inv X pins σ H' s' ∧ IsPart u o ∧ Q o H') X.xe s
noncomputable def tNoPart : TO := fun _ H Q => Q none H
noncomputable def tPart (t : TE) : TO := fun σ H Q => t σ H fun x H1 => ∃ i, x = .int i ∧ Q (some i) H1
theorem intsAre_of {ns : List Int} : ∀ {us : List Value}, Vals (ns.map V.int) us → IntsAre us ns := by
  induction ns with
  | nil => intro us r; rw [List.map_nil] at r; cases r; exact .nil
  | cons n ns ih =>
    intro us r
    rw [List.map_cons] at r
    cases r with
    | cons r1 r2 =>
      obtain ⟨t, e⟩ := r1
      subst e
      exact .cons n t (ih r2)
section
variable {X : Cx} {e : Expr} {te : TE} {lo hi : Option Expr} {tl th : TO} {pos p2 : Pos}
theorem po_none : PO X none tNoPart := by
  intro pins s σ H Q I h
  rw [evalPart_none]
  exact wpAny_pure ⟨none, H, I, .none, h⟩
theorem po_some (h : PE X e te) : PO X (some e) (tPart te) := by
  intro pins s σ H Q I hw
  rw [evalPart_some]
  refine thn (h pins s σ H _ I hw) fun u s1 ⟨x, H1, I1, r1, q1⟩ => ?_
  obtain ⟨i, rfl, q⟩ := q1
  obtain ⟨t, rfl⟩ := r1
  exact ⟨some i, H1, I1, .int i t, q⟩
noncomputable def SlR (X : Cx) (r : V → Option Int → Option Int → Hp → VK → Prop) : Prop :=
  ∀ (pins : List (Addr × Obj)) (s : Shared) (σ : St) (H : Hp) (x : V) (v vl vu : Value) (lo hi : Option Int) (sl : Addr) (Q : VK), Inv X pins σ H s → RelV x v → s.heap.IsSliceOf sl vl vu .none → IsPart vl lo → IsPart vu hi → r x lo hi H Q →
    ∃ T id, typeLookup (.type T) "__getitem__" = pure (some (.builtin id)) ∧ s.TypeIs v T ∧ wpAny (model X.prog X.w) X.A (getItem v (.ref sl)) (EP X pins σ Q) X.xe s
noncomputable def tSl (r : V → Option Int → Option Int → Hp → VK → Prop) (te : TE) (tl th : TO) : TE := fun σ H Q => te σ H fun x H1 => tl σ H1 fun l H2 => th σ H2 fun u H3 => r x l u H3 Q
theorem pe_slice {r : V → Option Int → Option Int → Hp → VK → Prop} (hr : SlR X r) (he : PE X e te) (hl : PO X lo tl) (hu : PO X hi th) : PE X (.Subscript e (.Slice lo hi none p2) pos) (tSl r te tl th) := by
  intro pins s σ H Q I h
  refine Subscript_ (thn (he pins s σ H _ I h) fun v s1 ⟨x, H1, I1, r1, q1⟩ => ?_)
  refine wpAny_Slice (thn (hl pins s1 σ H1 _ I1 q1) fun vl s2 ⟨l, H2, I2, pl, q2⟩ => thn (hu pins s2 σ H2 _ I2 q2) fun vu s3 ⟨u, H3, I3, pu, q3⟩ => ?_)
  rw [evalPart_none]
  refine wpAny_pure ?_
  have I4 : Inv X pins σ H3 { s3 with heap := s3.heap.push { cls := .type "slice", data := .fields #[vl, vu, .none] } } := I3.kept (t' := s3.toks) fun b ob q => Heap.get?_push_of_some _ q
  obtain ⟨T, id, hT, ht, hg⟩ := hr pins { s3 with heap := s3.heap.push { cls := .type "slice", data := .fields #[vl, vu, .none] } } σ H3 x v vl vu l u s3.heap.objs.size Q I4 r1 (Heap.IsSliceOf.new ..) pl pu q3
  show wpAny (model X.prog X.w) X.A (subscriptTail e (.Slice lo hi none p2) v (.ref s3.heap.objs.size)) (EP X pins σ Q) X.xe { s3 with heap := s3.heap.push { cls := .type "slice", data := .fields #[vl, vu, .none] } }
  exact tail_any (ops := [.ref s3.heap.objs.size, v]) ht hT hg (by with_unfolding_all rfl)
noncomputable def cutV (xs : List V) (lo hi : Option Int) : List V := (xs.drop (HT.sIx xs.length 0 lo)).take (HT.sIx xs.length xs.length hi - HT.sIx xs.length 0 lo)
theorem cutV_length (xs : List V) (lo hi : Option Int) : (cutV xs lo hi).length ≤ xs.length := by
  unfold cutV
  rw [List.length_take, List.length_drop]
  omega
noncomputable def rSlT (K : PySem.W.Frag) : V → Option Int → Option Int → Hp → VK → Prop := fun x lo hi H Q => ∃ a xs, x = .ref a ∧ SqT K H a xs ∧
  ¬ (HT.sIx xs.length 0 lo = 0 ∧ HT.sIx xs.length xs.length hi = xs.length) ∧ ∀ p, H p = none → Q (.ref p) (upd H p (.tup (cutV xs lo hi)))
theorem sl_tup : SlR X (rSlT X.K) := by
  intro pins s σ H x v vl vu lo hi sl Q I rx hs pl pu h
  obtain ⟨a, xs, rfl, hx, hw, q⟩ := h
  cases rx
  obtain ⟨its, r, ht, hz⟩ := I.tuple hx
  have hlen : its.toArray.size = xs.length := by rw [List.size_toArray]; exact r.length.symm
  refine ⟨"tuple", _, PyProof.Rows.slot_tuple_getitem.lookup, ht.typeIs, ?_⟩
  refine HT.getItem_tuple_cut ht hs pl pu (by rw [hlen]; exact hw) ?_ (by rw [hlen]; exact hz)
  rw [hlen]
  refine ⟨.ref s.heap.objs.size, _, I.laid (t' := s.toks) (o := .tup (cutV xs lo hi)) (fun b ob q => Heap.get?_push_of_some _ q) (Nat.le_refl _) ?_, rfl, q _ (I.hok.fresh (Nat.le_refl _))⟩
  exact ⟨Nat.le_trans (cutV_length xs lo hi) hz, _, (r.drop (HT.sIx xs.length 0 lo)).take (HT.sIx xs.length xs.length hi - HT.sIx xs.length 0 lo), IsTup.new _ _⟩
noncomputable def rCatT (K : PySem.W.Frag) : R2 := fun x y H Q => ∃ a b xs ys, x = .ref a ∧ y = .ref b ∧ SqT K H a xs ∧ SqT K H b ys ∧ xs ≠ [] ∧ xs.length + ys.length ≤ sizeLine ∧
  (ys = [] → Q (.ref a) H) ∧ (ys ≠ [] → ∀ p, H p = none → Q (.ref p) (upd H p (.tup (xs ++ ys))))
theorem Vals.nil_iff {xs : List V} {us : List Value} (r : Vals xs us) : us = [] ↔ xs = [] := by
  cases r with
  | nil => simp
  | cons _ _ => simp
theorem op_catT : OpR X (binaryOp .Add) (rCatT X.K) := by
  intro pins s σ H x y v u Q I rx ry h
  obtain ⟨a, b, xs, ys, rfl, rfl, ha, hb, hx, hz, q1, q2⟩ := h
  cases rx
  cases ry
  obtain ⟨its, r1, p1, _⟩ := I.tuple ha
  obtain ⟨its2, r2, p2, _⟩ := I.tuple hb
  refine HT.cat_tup p1 p2 (fun z => hx (r1.nil_iff.mp z)) (fun z => ⟨.ref a, H, I, rfl, q1 (r2.nil_iff.mp z)⟩) (fun z => ?_) (by rw [← r1.length, ← r2.length]; exact hz)
  refine ⟨.ref s.heap.objs.size, _, I.laid (t' := s.toks) (o := .tup (xs ++ ys)) (fun b ob q => Heap.get?_push_of_some _ q) (Nat.le_refl _) ?_, rfl, q2 (fun w => z (r2.nil_iff.mpr w)) _ (I.hok.fresh (Nat.le_refl _))⟩
  exact ⟨by rw [List.length_append]; exact hz, _, r1.append r2, IsTup.new _ _⟩
end
end L2
namespace L2
open PySem PySem.Spec PyProof.Rows
noncomputable def ixN (n : Nat) (i : Int) : Option Nat := if 0 ≤ i then (if i < n then some i.toNat else none) else if -(n : Int) ≤ i then some (i + n).toNat else none
noncomputable def atI {α : Type} (xs : List α) (i : Int) : Option α := (ixN xs.length i).bind fun j => xs[j]?
theorem ixN_seq {n : Nat} {i : Int} {j : Nat} (h : ixN n i = some j) : seqIndex? i n = some j ∧ j < n ∧ -(n : Int) ≤ i ∧ i < n := by
  unfold ixN at h
  by_cases h0 : 0 ≤ i
  · rw [if_pos h0] at h
    by_cases h1 : i < n
    · rw [if_pos h1] at h
      have e : i.toNat = j := Option.some.inj h
      exact ⟨by rw [seqIndex_of h0 h1, e], by omega, by omega, h1⟩
    · rw [if_neg h1] at h; cases h
  · rw [if_neg h0] at h
    by_cases h1 : -(n : Int) ≤ i
    · rw [if_pos h1] at h
      have e : (i + n).toNat = j := Option.some.inj h
      exact ⟨by rw [seqIndex_neg (by omega) h1, e], by omega, h1, by omega⟩
    · rw [if_neg h1] at h; cases h
theorem atI_get {α : Type} {xs : List α} {i : Int} {v : α} (h : atI xs i = some v) : ∃ j, seqIndex? i xs.length = some j ∧ xs[j]? = some v ∧ j < xs.length ∧ -(xs.length : Int) ≤ i ∧ i < xs.length := by
  unfold atI at h
  cases e : ixN xs.length i with
  | none => rw [e] at h; cases h
  | some j =>
    rw [e] at h
    obtain ⟨h1, h2, h3, h4⟩ := ixN_seq e
    exact ⟨j, h1, h, h2, h3, h4⟩
theorem atI_nat {α : Type} {xs : List α} {j : Nat} {v : α} (h : xs[j]? = some v) : atI xs (j : Int) = some v := by
  have hj : j < xs.length := (List.getElem?_eq_some_iff.mp h).1
  have e : ixN xs.length (j : Int) = some j := by
    unfold ixN
    rw [if_pos (by omega), if_pos (by omega)]; simp
  unfold atI; rw [e]; exact h
noncomputable def PlainIx (b : Expr) : Prop := ∀ o i, subscripted b false o i = operate [o, i] (getItem o i)
noncomputable def IxR (X : Cx) (r : R2) : Prop :=
  ∀ (value slice : Expr) (pins : List (Addr × Obj)) (s : Shared) (σ : St) (H : Hp) (x y : V) (v u : Value) (Q : VK), Inv X pins σ H s → RelV x v → RelV y u → r x y H Q →
    subscripted slice false v u = operate [v, u] (getItem v u) → wpAny (model X.prog X.w) X.A (subscriptTail value slice v u) (EP X pins σ Q) X.xe s
noncomputable def MtR (X : Cx) (id : String) (r : V → List V → Hp → VK → Prop) : Prop :=
  ∀ (pins : List (Addr × Obj)) (s : Shared) (σ : St) (H : Hp) (x : V) (xs : List V) (v : Value) (us : List Value) (Q : VK), Inv X pins σ H s → RelV x v → Vals xs us → r x xs H Q →
    wpAny (model X.prog X.w) X.A (call (.builtin id) (v :: us)) (EP X pins σ Q) X.xe s
section
variable {X : Cx} {a b : Expr} {ta tb : TE} {pos : Pos}
theorem pe_ix {r : R2} (hr : IxR X r) (ha : PE X a ta) (hb : PE X b tb) (hs : PlainIx b) : PE X (.Subscript a b pos) (tOp r ta tb) := by
  intro pins s σ H Q I h
  exact Subscript_ (binT ha hb I h fun v u s2 x y H2 I2 rx ry q => hr a b pins s2 σ H2 x y v u Q I2 rx ry q (hs _ _))
noncomputable def rIxL (K : PySem.W.Frag) : R2 := fun x y H Q => ∃ p xs i v, x = .ref p ∧ y = .int i ∧ SqL K H p xs ∧ atI xs i = some v ∧ Q v H
noncomputable def rIxT (K : PySem.W.Frag) : R2 := fun x y H Q => ∃ p xs i v, x = .ref p ∧ y = .int i ∧ SqT K H p xs ∧ atI xs i = some v ∧ Q v H
noncomputable def rIxS : R2 := fun x y H Q => ∃ z i c, x = .str z ∧ y = .int i ∧ z.length ≤ sizeLine ∧ atI z.cps.toList i = some c ∧ Q (.str ⟨#[c]⟩) H
theorem ix_list : IxR X (rIxL X.K) := by
  intro value slice pins s σ H x y v u Q I rx ry h hs
  obtain ⟨p, xs, i, z, rfl, rfl, hq, he, q⟩ := h
  cases rx
  obtain ⟨t, rfl⟩ := ry
  obtain ⟨its, r, pl, hz⟩ := I.list hq
  obtain ⟨j, h1, h2, h3, h4, h5⟩ := atI_get he
  obtain ⟨w, ew, rw'⟩ := r.get h2
  have hl := r.length
  have hn := line63
  have fin : EP X pins σ Q w s := ⟨z, H, I, rw', q⟩
  by_cases h0 : 0 ≤ i
  · have hj : i.toNat = j := by
      rw [seqIndex_of h0 h5] at h1
      exact Option.some.inj h1
    exact item_listR pl.isList h0 (by omega) (by rw [hj]; simpa using ew) fin hs
  · have hj : (i + (its.toArray.size : Int)).toNat = j := by
      rw [seqIndex_neg (by omega) h4] at h1
      rw [List.size_toArray, ← hl]
      exact Option.some.inj h1
    exact subscriptTail_builtinR (x := w) pl.isList.typeIs slot_list_getitem.lookup
      (wpAny_getItem_list_neg (Q := fun r s' => r = w ∧ EP X pins σ Q r s') pl.isList (by omega) (by rw [List.size_toArray] <;> omega) (by omega) (by rw [hj]; simpa using ew) ⟨rfl, fin⟩) hs
theorem ix_tup : IxR X (rIxT X.K) := by
  intro value slice pins s σ H x y v u Q I rx ry h hs
  obtain ⟨p, xs, i, z, rfl, rfl, hq, he, q⟩ := h
  cases rx
  obtain ⟨t, rfl⟩ := ry
  obtain ⟨its, r, pl, hz⟩ := I.tuple hq
  obtain ⟨j, h1, h2, h3, h4, h5⟩ := atI_get he
  obtain ⟨w, ew, rw'⟩ := r.get h2
  have hl := r.length
  have hn := line63
  have fin : EP X pins σ Q w s := ⟨z, H, I, rw', q⟩
  exact subscriptTail_builtinR (x := w) pl.typeIs slot_tuple_getitem.lookup
    (getItem_tuple (j := j) (Q := fun r s' => r = w ∧ EP X pins σ Q r s') pl (by omega) (by omega) (by rw [List.size_toArray, ← hl]; exact h1) (by simpa using ew) ⟨rfl, fin⟩) hs
theorem ix_str : IxR X rIxS := by
  intro value slice pins s σ H x y v u Q I rx ry h hs
  obtain ⟨z, i, c, rfl, rfl, hz, he, q⟩ := h
  obtain ⟨t, rfl⟩ := rx
  obtain ⟨t', rfl⟩ := ry
  obtain ⟨j, h1, h2, h3, h4, h5⟩ := atI_get he
  have hl : z.cps.toList.length = z.length := by simp [Str.length]
  rw [hl] at h1 h4 h5
  have hn := line63
  exact tail_any (typeIs_str s z t) slot_str_getitem.lookup (getItem_str (c := c) (by
    have e1 : decide (i < -(2 ^ 63 : Int)) = false := decide_eq_false (by omega)
    have e2 : decide (i ≥ 2 ^ 63) = false := decide_eq_false (by omega)
    rw [e1, e2, Bool.or_false]) (by rw [h1]; simpa using h2) ⟨.str ⟨#[c]⟩, H, I.tok _, ⟨_, rfl⟩, q⟩) hs
theorem mapSeq_set (its : List Value) (n j : Nat) (u : Value) : Obj.mapSeq (·.setIfInBounds j u) { cls := .type "list", data := .seq its.toArray n } = { cls := .type "list", data := .seq (its.set j u).toArray n } := by
  simp [Obj.mapSeq]
theorem Inv.lst {pins : List (Addr × Obj)} {σ : St} {H : Hp} {s : Shared} {p : Addr} {xs : List V} (I : Inv X pins σ H s) (h : H p = some (.lst xs)) :
    ∃ (its : List Value) (n : Nat), Vals xs its ∧ s.heap.get? p = some { cls := .type "list", data := .seq its.toArray n } ∧ xs.length ≤ sizeLine := by
  obtain ⟨z, its, n, r, e⟩ := I.hok p _ h
  exact ⟨its, n, r, e, z⟩
theorem Inv.lstUpd {pins : List (Addr × Obj)} {σ : St} {H : Hp} {s : Shared} {p : Addr} {xs ys : List V} {its its' : List Value} {n n' : Nat} {f : Obj → Obj} (I : Inv X pins σ H s) (h : H p = some (.lst xs))
    (ho : s.heap.get? p = some { cls := .type "list", data := .seq its.toArray n }) (hf : f { cls := .type "list", data := .seq its.toArray n } = { cls := .type "list", data := .seq its'.toArray n' }) (r : Vals ys its') (hz : ys.length ≤ sizeLine) (t : Nat) :
    Inv X pins σ (upd H p (.lst ys)) { s with heap := s.heap.update p f, toks := t } := by
  have e : (s.heap.update p f).get? p = some { cls := .type "list", data := .seq its'.toArray n' } := by
    rw [Heap.get?_update_self f ho (by rw [hf] <;> rfl), hf]
  refine I.write (x := p) (e := p) (by rw [h]; trivial) (.inl rfl) (fun b u hb q => (Heap.get?_update_other _ _ (Ne.symm hb)).trans q) ⟨_, e⟩ ?_
  exact ⟨hz, its', n', r, e⟩
noncomputable def rSetL : V → V → V → Hp → (Hp → Prop) → Prop := fun o i v H Q => ∃ p xs k j, o = .ref p ∧ i = .int k ∧ H p = some (.lst xs) ∧ ixN xs.length k = some j ∧ Q (upd H p (.lst (xs.set j v)))
theorem set_list : PSet X rSetL := by
  intro pins s σ H o i v ov iv u Q I ro ri rv h
  obtain ⟨p, xs, k, j, rfl, rfl, hp, hj, q⟩ := h
  cases ro
  obtain ⟨t, rfl⟩ := ri
  obtain ⟨its, n, r, ho, hz⟩ := I.lst hp
  obtain ⟨h1, h2, h3, h4⟩ := ixN_seq hj
  have hl := r.length
  have hn := line63
  have I' : Inv X pins σ (upd H p (.lst (xs.set j v))) { s with heap := s.heap.update p (Obj.mapSeq (·.setIfInBounds j u)) } :=
    I.lstUpd hp ho (mapSeq_set its n j u) (r.set rv j) (by rw [List.length_set]; exact hz) s.toks
  by_cases h0 : 0 ≤ k
  · have hk : k.toNat = j := by
      rw [seqIndex_of h0 h4] at h1
      exact Option.some.inj h1
    exact PySem.W.ki_setAt ho h0 (by omega) (by rw [List.size_toArray, ← hl]; exact h4) (by rw [hk]; exact ⟨_, I', q⟩)
  · have hk : (k + (its.toArray.size : Int)).toNat = j := by
      rw [seqIndex_neg (by omega) h3] at h1
      rw [List.size_toArray, ← hl]
      exact Option.some.inj h1
    exact PySem.W.ki_setBack ho (by omega) (by rw [List.size_toArray, ← hl]; exact h3) (by omega) (by rw [hk]; exact ⟨_, I', q⟩)
theorem slice_bounds (lo hi : Option Int) (n : Nat) : (sliceBounds lo hi none n).1 = ((HT.sIx n 0 lo : Nat) : Int) ∧ (sliceBounds lo hi none n).2.1 = ((HT.sIx n n hi : Nat) : Int) ∧ (sliceBounds lo hi none n).2.2 = 1 := by
  refine ⟨?_, ?_, rfl⟩
  · cases lo with
    | none => simp [sliceBounds, HT.sIx]
    | some i =>
      simp only [sliceBounds, HT.sIx, Option.getD_none, show (1 : Int) > 0 by decide, if_true]
      by_cases h : i < 0
      · simp only [h, if_true] <;> omega
      · simp only [h, if_false] <;> omega
  · cases hi with
    | none => simp [sliceBounds, HT.sIx]
    | some i =>
      simp only [sliceBounds, HT.sIx, Option.getD_none, show (1 : Int) > 0 by decide, if_true]
      by_cases h : i < 0
      · simp only [h, if_true] <;> omega
      · simp only [h, if_false] <;> omega
theorem slicePick_cut (its : List Value) (lo hi : Option Int) : slicePick its.toArray lo hi none = ((its.drop (HT.sIx its.length 0 lo)).take (HT.sIx its.length its.length hi - HT.sIx its.length 0 lo)).toArray := by
  obtain ⟨h1, h2, h3⟩ := slice_bounds lo hi its.toArray.size
  unfold slicePick
  rw [h1, h2, h3]
  simp only [sliceRange_one, pick_run, List.size_toArray] <;> rfl
noncomputable def rSlL (K : PySem.W.Frag) : V → Option Int → Option Int → Hp → VK → Prop := fun x lo hi H Q => ∃ a xs, x = .ref a ∧ SqL K H a xs ∧ ∀ p, H p = none → Q (.ref p) (upd H p (.lst (cutV xs lo hi)))
theorem sl_list : SlR X (rSlL X.K) := by
  intro pins s σ H x v vl vu lo hi sl Q I rx hs pl pu h
  obtain ⟨a, xs, rfl, hx, q⟩ := h
  cases rx
  obtain ⟨its, r, ht, hz⟩ := I.list hx
  have hlen := r.length
  refine ⟨"list", _, slot_list_getitem.lookup, ht.isList.typeIs, ?_⟩
  refine wpAny_getItem_list_slice ht.isList hs pl pu .none (by simp) ?_ (by rw [List.size_toArray] <;> omega)
  rw [slicePick_cut, ← hlen]
  refine ⟨.ref s.heap.objs.size, _, I.laid (t' := s.toks) (o := .lst (cutV xs lo hi)) (fun b ob q => Heap.get?_push_of_some _ q) (Nat.le_refl _) ?_, rfl, q _ (I.hok.fresh (Nat.le_refl _))⟩
  exact ⟨Nat.le_trans (cutV_length xs lo hi) hz, _, 0, (r.drop (HT.sIx xs.length 0 lo)).take (HT.sIx xs.length xs.length hi - HT.sIx xs.length 0 lo), Heap.get?_push_size _ rfl⟩
noncomputable def flatV : V → Bool
  | .non => true
  | .bl _ => true
  | .int _ => true
  | .str _ => true
  | _ => false
noncomputable def eqV : V → V → Bool
  | .non, .non => true
  | .bl a, .bl b => a == b
  | .bl a, .int b => (if a then 1 else 0) == b
  | .int a, .bl b => a == (if b then 1 else 0)
  | .int a, .int b => a == b
  | .str a, .str b => a == b
  | _, _ => false
theorem eqAt_V {A : Around} {s : Shared} {y x : V} {u v : Value} (ry : RelV y u) (rx : RelV x v) (fy : flatV y = true) (fx : flatV x = true) : SeqAt.EqAt A s u v (eqV y x) := by
  cases y with
  | non =>
    cases ry
    cases x with
    | non => cases rx; exact SeqAt.EqAt.same _
    | bl b => cases rx; exact SeqAt.EqAt.none_bool b
    | int b => obtain ⟨t, rfl⟩ := rx; exact SeqAt.EqAt.none_int b t
    | str b => obtain ⟨t, rfl⟩ := rx; exact SeqAt.EqAt.none_str b t
    | _ => exact absurd (show false = true from fx) Bool.false_ne_true
  | bl a =>
    cases ry
    cases x with
    | non => cases rx; exact SeqAt.EqAt.bool_none a
    | bl b => cases rx; exact SeqAt.EqAt.bool_bool a b
    | int b => obtain ⟨t, rfl⟩ := rx; exact SeqAt.EqAt.bool_int a b t
    | str b => obtain ⟨t, rfl⟩ := rx; exact SeqAt.EqAt.bool_str a b t
    | _ => exact absurd (show false = true from fx) Bool.false_ne_true
  | int a =>
    obtain ⟨t', rfl⟩ := ry
    cases x with
    | non => cases rx; exact SeqAt.EqAt.int_none a t'
    | bl b => cases rx; exact SeqAt.EqAt.int_bool a t' b
    | int b => obtain ⟨t, rfl⟩ := rx; exact SeqAt.EqAt.int_int a t' b t
    | str b => obtain ⟨t, rfl⟩ := rx; exact SeqAt.EqAt.int_str a t' b t
    | _ => exact absurd (show false = true from fx) Bool.false_ne_true
  | str a =>
    obtain ⟨t', rfl⟩ := ry
    cases x with
    | non => cases rx; exact SeqAt.EqAt.str_none a t'
    | bl b => cases rx; exact SeqAt.EqAt.str_bool a t' b
    | int b => obtain ⟨t, rfl⟩ := rx; exact SeqAt.EqAt.str_int a t' b t
    | str b => obtain ⟨t, rfl⟩ := rx; exact SeqAt.EqAt.str_str a t' b t
    | _ => exact absurd (show false = true from fx) Bool.false_ne_true
  | _ => exact absurd (show false = true from fy) Bool.false_ne_true
noncomputable def eqU (x : V) (u : Value) : Bool := match u with
  | .none => eqV .non x
  | .bool b => eqV (.bl b) x
  | .int i _ => eqV (.int i) x
  | .str z _ => eqV (.str z) x
  | _ => false
theorem eqU_of {x y : V} {u : Value} (r : RelV y u) (f : flatV y = true) : eqU x u = eqV y x := by
  cases y with
  | non => cases r; rfl
  | bl b => cases r; rfl
  | int i => obtain ⟨t, rfl⟩ := r; rfl
  | str z => obtain ⟨t, rfl⟩ := r; rfl
  | _ => exact absurd (show false = true from f) Bool.false_ne_true
theorem any_eqU {x : V} : ∀ {xs : List V} {us : List Value}, Vals xs us → xs.all flatV = true → us.any (eqU x) = xs.any fun y => eqV y x
  | _, _, .nil, _ => rfl
  | y :: xs, u :: us, .cons r t, f => by
    rw [List.all_cons, Bool.and_eq_true] at f
    rw [List.any_cons, List.any_cons, eqU_of r f.1, any_eqU t f.2]
theorem mem_eqAt {A : Around} {s : Shared} {x : V} {v : Value} (rx : RelV x v) (fx : flatV x = true) : ∀ {xs : List V} {us : List Value}, Vals xs us → xs.all flatV = true → ∀ u ∈ us, SeqAt.EqAt A s u v (eqU x u)
  | _, _, .nil, _ => fun u hu => by cases hu
  | y :: xs, u :: us, .cons r t, f => fun u' hu => by
    rw [List.all_cons, Bool.and_eq_true] at f
    rcases List.mem_cons.mp hu with rfl | hu
    · rw [eqU_of r f.1]; exact eqAt_V r rx f.1 fx
    · exact mem_eqAt rx fx t f.2 u' hu
noncomputable def inV (x : V) (xs : List V) : Bool := xs.any fun y => eqV y x
noncomputable def rIn (K : PySem.W.Frag) (neg : Bool) : R2 := fun x y H Q => ∃ p xs, y = .ref p ∧ (SqL K H p xs ∨ SqT K H p xs) ∧ flatV x = true ∧ xs.all flatV = true ∧ Q (.bl (if neg then !inV x xs else inV x xs)) H
theorem op_in_seq : OpR X (compareOp .In) (rIn X.K false) := by
  intro pins s σ H x y v u Q I rx ry h
  obtain ⟨p, xs, rfl, hq, fx, fs, q⟩ := h
  cases ry
  rcases hq with hq | hq
  · obtain ⟨its, r, pl, hz⟩ := I.list hq
    refine SeqAt.in_listAt (eqU x) pl.isList (fun w hw => mem_eqAt rx fx r fs w (by simpa using hw)) ⟨.bl _, H, I, rfl, ?_⟩
    rw [show its.toArray.any (eqU x) = its.any (eqU x) by simp, any_eqU r fs]
    exact q
  · obtain ⟨its, r, pl, hz⟩ := I.tuple hq
    refine SeqAt.in_tupleAt (eqU x) pl (fun w hw => mem_eqAt rx fx r fs w (by simpa using hw)) ⟨.bl _, H, I, rfl, ?_⟩
    rw [show its.toArray.any (eqU x) = its.any (eqU x) by simp, any_eqU r fs]
    exact q
theorem op_notIn_seq : OpR X (compareOp .NotIn) (rIn X.K true) := by
  intro pins s σ H x y v u Q I rx ry h
  obtain ⟨p, xs, rfl, hq, fx, fs, q⟩ := h
  cases ry
  rcases hq with hq | hq
  · obtain ⟨its, r, pl, hz⟩ := I.list hq
    refine SeqAt.notIn_listAt (eqU x) pl.isList (fun w hw => mem_eqAt rx fx r fs w (by simpa using hw)) ⟨.bl _, H, I, rfl, ?_⟩
    rw [show its.toArray.any (eqU x) = its.any (eqU x) by simp, any_eqU r fs]
    exact q
  · obtain ⟨its, r, pl, hz⟩ := I.tuple hq
    refine SeqAt.notIn_tupleAt (eqU x) pl (fun w hw => mem_eqAt rx fx r fs w (by simpa using hw)) ⟨.bl _, H, I, rfl, ?_⟩
    rw [show its.toArray.any (eqU x) = its.any (eqU x) by simp, any_eqU r fs]
    exact q
theorem call_len_seq : CallR X (.builtin "len") (fun xs H Q => ∃ p ys, xs = [.ref p] ∧ (SqL X.K H p ys ∨ SqT X.K H p ys) ∧ Q (.int ys.length) H) := by
  intro pins s σ H xs us Q I r h
  obtain ⟨p, ys, rfl, hq, q⟩ := h
  obtain ⟨u, rfl, rx⟩ := vals1 r
  cases rx
  have hn := line63
  rcases hq with hq | hq
  · obtain ⟨its, r', pl, hz⟩ := I.list hq
    have hlen := r'.length
    exact Calls.call_len_list pl.isList (by simp only [List.size_toArray] <;> omega) ⟨.int ys.length, H, I.tok _, ⟨s.toks + 1, by rw [List.size_toArray, hlen]⟩, q⟩
  · obtain ⟨its, r', pl, hz⟩ := I.tuple hq
    have hlen := r'.length
    exact len_tuple pl (by simp only [List.size_toArray] <;> omega) ⟨.int ys.length, H, I.tok _, ⟨s.toks + 1, by rw [List.size_toArray, hlen]⟩, q⟩
theorem call_len_str : CallR X (.builtin "len") (fun xs H Q => ∃ z, xs = [.str z] ∧ z.length ≤ sizeLine ∧ Q (.int z.length) H) := by
  intro pins s σ H xs us Q I r h
  obtain ⟨z, rfl, hz, q⟩ := h
  obtain ⟨u, rfl, t, rfl⟩ := vals1 r
  have hn := line63
  exact len_str (by omega) ⟨.int z.length, H, I.tok _, ⟨_, rfl⟩, q⟩
theorem call_list_of : CallR X (.type "list") (fun xs H Q => ∃ p ys, xs = [.ref p] ∧ (SqL X.K H p ys ∨ SqT X.K H p ys) ∧ ∀ l, H l = none → Q (.ref l) (upd H l (.lst ys))) := by
  intro pins s σ H xs us Q I r h
  obtain ⟨p, ys, rfl, hq, q⟩ := h
  obtain ⟨u, rfl, rx⟩ := vals1 r
  cases rx
  have fin : ∀ (its : List Value), Vals ys its → ys.length ≤ sizeLine → ∀ (h' : Heap) (c' : Nat), (∀ b o', s.heap.get? b = some o' → h'.get? b = some o') →
      h'.get? s.heap.objs.size = some { cls := .type "list", dict := none, data := .seq its.toArray c', slots := #[] } → EP X pins σ Q (.ref s.heap.objs.size) { s with heap := h' } := fun its r' hz h' c' kp e =>
    ⟨.ref s.heap.objs.size, _, I.laid (t' := s.toks) kp (Nat.le_refl _) (show ObjOk X.prog X.w _ h' _ (.lst ys) from ⟨hz, its, c', r', e⟩), rfl, q _ (I.hok.fresh (Nat.le_refl _))⟩
  rcases hq with hq | hq
  · obtain ⟨its, r', pl, hz⟩ := I.list hq
    have hlen := r'.length
    obtain ⟨o, ho, hc, n, hd⟩ := pl.isList
    exact call_list_seq p (.inl rfl) ho hc hd (fun h' c' kp e => fin its r' hz h' c' kp e) (by simp only [List.size_toArray] <;> omega)
  · obtain ⟨its, r', pl, hz⟩ := I.tuple hq
    have hlen := r'.length
    obtain ⟨o, ho, hc, n, hd⟩ := pl
    exact call_list_seq p (.inr rfl) ho hc hd (fun h' c' kp e => fin its r' hz h' c' kp e) (by simp only [List.size_toArray] <;> omega)
theorem call_tuple_of : CallR X (.type "tuple") (fun xs H Q => ∃ p ys, xs = [.ref p] ∧ ((SqL X.K H p ys ∧ ∀ l, H l = none → Q (.ref l) (upd H l (.tup ys))) ∨ (SqT X.K H p ys ∧ Q (.ref p) H))) := by
  intro pins s σ H xs us Q I r h
  obtain ⟨p, ys, rfl, h⟩ := h
  obtain ⟨u, rfl, rx⟩ := vals1 r
  cases rx
  rcases h with ⟨hq, q⟩ | ⟨hq, q⟩
  · obtain ⟨its, r', pl, hz⟩ := I.list hq
    have hlen := r'.length
    refine call_tuple_list pl.isList (fun h' kp => ?_) (by simp only [List.size_toArray] <;> omega)
    have I1 : Inv X pins σ H { s with heap := h' } := I.kept (t' := s.toks) kp
    have I2 : Inv X pins σ (upd H h'.objs.size (.tup ys)) { s with heap := h'.push { cls := .type "tuple", data := .seq its.toArray } } :=
      I1.laid (t' := s.toks) (fun b o e => Heap.get?_push_of_some _ e) (Nat.le_refl _) (show ObjOk X.prog X.w _ _ _ (.tup ys) from ⟨hz, its, r', IsTup.new _ _⟩)
    exact ⟨.ref h'.objs.size, _, I2, rfl, q _ (I1.hok.fresh (Nat.le_refl _))⟩
  · obtain ⟨its, r', pl, hz⟩ := I.tuple hq
    exact call_tuple_same pl ⟨.ref p, H, I, rfl, q⟩
noncomputable def tyV (K : PySem.W.Frag) (T : String) (x : V) (H : Hp) : Prop := match x with
  | .str _ => T = "str"
  | .int _ => T = "int"
  | .ref p => (T = "list" ∧ ∃ xs, SqL K H p xs) ∨ (T = "tuple" ∧ ∃ o, K.lookup p = some o ∧ o.cls = .type "tuple" ∧ o.dict = none) ∨
      (T = "dict" ∧ ((∃ kvs, H p = some (.dK kvs)) ∨ ∃ kvs, H p = some (.dT kvs))) ∨ (T = "set" ∧ ∃ S n, H p = some (.set S n))
  | _ => False
theorem tyV_is {pins : List (Addr × Obj)} {σ : St} {H : Hp} {s : Shared} {T : String} {x : V} {v : Value} (I : Inv X pins σ H s) (r : RelV x v) (ty : tyV X.K T x H) :
    s.TypeIs v T ∧ ∀ a, v = .ref a → ∃ ob, s.heap.get? a = some ob ∧ ob.dict = none := by
  cases x with
  | str z =>
    obtain ⟨t, rfl⟩ := r
    cases (show T = "str" from ty)
    exact ⟨typeIs_str s z t, fun _ e => nomatch e⟩
  | int i =>
    obtain ⟨t, rfl⟩ := r
    cases (show T = "int" from ty)
    exact ⟨typeIs_int s i t, fun _ e => nomatch e⟩
  | ref p =>
    cases r
    rcases ty with ⟨rfl, xs, hq⟩ | ⟨rfl, o, hk, hc, hd⟩ | ⟨rfl, hk⟩ | ⟨rfl, S, n, hk⟩
    · obtain ⟨its, _, pl, _⟩ := I.list hq
      refine ⟨pl.isList.typeIs, fun a e => ?_⟩
      cases e
      obtain ⟨o, n, e, c, hd, _⟩ := pl
      exact ⟨o, e, hd⟩
    · refine ⟨⟨o, I.kIn p o hk, hc⟩, fun a e => ?_⟩
      cases e
      exact ⟨o, I.kIn _ o hk, hd⟩
    · have z : ∃ o, s.heap.get? p = some o ∧ o.ExactDict := by
        rcases hk with ⟨kvs, hk⟩ | ⟨kvs, hk⟩
        · obtain ⟨_, _, _, _, o, _, _, e, ex, _⟩ := I.hok p _ hk
          exact ⟨o, e, ex⟩
        · obtain ⟨_, _, _, _, o, _, _, e, ex, _⟩ := I.hok p _ hk
          exact ⟨o, e, ex⟩
      obtain ⟨o, e, ex⟩ := z
      refine ⟨⟨o, e, ex.1⟩, fun a e2 => ?_⟩
      cases e2
      exact ⟨o, e, ex.2.1⟩
    · obtain ⟨o, _, _, _, e, ex, _⟩ := I.hok p _ hk
      refine ⟨⟨o, e, ex.1⟩, fun a e2 => ?_⟩
      cases e2
      exact ⟨o, e, ex.2.1⟩
  | _ => exact False.elim ty
noncomputable def tBM0 (K : PySem.W.Frag) (T : String) (r : V → List V → Hp → VK → Prop) (to : TE) : TE := fun σ H Q => to σ H fun x H1 => tyV K T x H1 ∧ r x [] H1 Q
noncomputable def tBM (K : PySem.W.Frag) (T : String) (r : V → List V → Hp → VK → Prop) (to : TE) (t : TA) : TE := fun σ H Q => to σ H fun x H1 => tyV K T x H1 ∧ t σ H1 fun xs H2 => r x xs H2 Q
variable {o e : Expr} {es : List Expr} {to : TE} {t : TA} {name : Str} {apos cpos : Pos} {T id : String} {r : V → List V → Hp → VK → Prop}
theorem pe_bm0 (pa : PlainAttrs T) (slot : Slot T name id) (hty : typeOf (.builtin id) = pure (.type "method_descriptor")) (hm : MtR X id r) (ho : PE X o to)
    (hbase : attributeBase o name X.env (eval o X.env) = eval o X.env := by rfl) (hline : (apos.endLine == cpos.line) = true := by rfl) : PE X (.Call (.Attribute o name apos) [] [] cpos) (tBM0 X.K T r to) := by
  intro pins s σ H Q I h
  refine wpAny_Call_method0_late hbase hline (thn (ho pins s σ H _ I h) fun v s1 ⟨x, H1, I1, r1, ty, q1⟩ => ?_)
  obtain ⟨h1, h2⟩ := tyV_is I1 r1 ty
  exact ⟨T, id, pa, slot, hty, h1, h2, Calls.callWith_builtin rfl (PySem.evalArgs_none (hm pins s1 σ H1 x [] v [] Q I1 r1 .nil q1))⟩
theorem pe_bm (pa : PlainAttrs T) (slot : Slot T name id) (hty : typeOf (.builtin id) = pure (.type "method_descriptor")) (hm : MtR X id r) (ho : PE X o to) (ha : PA X (e :: es) t)
    (hbase : attributeBase o name X.env (eval o X.env) = eval o X.env := by rfl)
    (hfew : ((backTo cpos (starEach (e :: es) X.env)).all (fun x => !x.1) && (backToKw cpos (keywordEach [] X.env)).all (fun x => x.1.isSome)
      && decide ((e :: es).length + ([] : List Keyword).length + (if ([] : List Keyword).isEmpty then 0 else 1) < 30)) = true := by rfl)
    (hline : (apos.endLine == cpos.line) = true := by rfl) (hs : starEach (e :: es) X.env = (false, eval e X.env) :: starEach es X.env := by rfl) (hplain : (backTo cpos (starEach es X.env)).any (·.1) = false := by rfl) :
    PE X (.Call (.Attribute o name apos) (e :: es) [] cpos) (tBM X.K T r to t) := by
  intro pins s σ H Q I h
  refine wpAny_Call_method_late hbase hfew hline rfl (thn (ho pins s σ H _ I h) fun v s1 ⟨x, H1, I1, r1, ty, q1⟩ => ?_)
  obtain ⟨h1, h2⟩ := tyV_is I1 r1 ty
  refine ⟨T, id, pa, slot, hty, h1, h2, ?_⟩
  have hA := ha cpos pins s1 σ H1 _ I1 q1
  rw [hs] at hA ⊢
  refine Calls.callWith_builtin (by show (false || (backTo cpos (starEach es X.env)).any (·.1)) = false; rw [hplain] <;> rfl) (Calls.evalArgs_plain ?_)
  exact thn hA fun us s2 ⟨vs, H2, I2, r2, q2⟩ => hm pins s2 σ H2 x vs v us Q I2 r1 r2 q2
/- xs.append(e), list.index on a module's tuple .. are MtR facts of 06m -/
end
end L2
namespace L2
open PySem PySem.Spec PyProof.Rows
noncomputable def MtM (X : Cx) (id : String) (r : V → List V → Hp → VK → Prop) : Prop :=
  ∀ (pins : List (Addr × Obj)) (s : Shared) (σ : St) (H : Hp) (x : V) (xs : List V) (v : Value) (us : List Value) (Q : VK), Inv X pins σ H s → RelV x v → Vals xs us → r x xs H Q →
    wpAny (model X.prog X.w) X.A (call (.builtin id) (v :: us)) (EP X pins σ Q) X.xe s
theorem Vals.one {x : V} {us : List Value} (h : Vals [x] us) : ∃ u, us = [u] ∧ RelV x u := by
  cases h with
  | cons r t => cases t; exact ⟨_, rfl, r⟩
theorem Vals.two {x y : V} {us : List Value} (h : Vals [x, y] us) : ∃ u v, us = [u, v] ∧ RelV x u ∧ RelV y v := by
  cases h with
  | cons r t => cases t with
    | cons q t => cases t; exact ⟨_, _, rfl, r, q⟩
theorem Vals.zero : ∀ {us : List Value}, Vals [] us → us = []
  | _, .nil => rfl
theorem Vals.dropLast {xs : List V} {us : List Value} (h : Vals xs us) : Vals xs.dropLast us.dropLast := by
  induction h with
  | nil => exact .nil
  | cons r t ih =>
    cases t with
    | nil => exact .nil
    | cons q t' => exact .cons r ih
theorem Vals.reverse {xs : List V} {us : List Value} (h : Vals xs us) : Vals xs.reverse us.reverse := by
  induction h with
  | nil => exact .nil
  | cons r t ih => rw [List.reverse_cons, List.reverse_cons]; exact Vals.append ih (.cons r .nil)
theorem Vals.rep {xs : List V} {us : List Value} (h : Vals xs us) : ∀ k : Nat, Vals (List.replicate k xs).flatten (List.replicate k us).flatten
  | 0 => .nil
  | k + 1 => by
    rw [List.replicate_succ, List.replicate_succ, List.flatten_cons, List.flatten_cons]
    exact Vals.append h (Vals.rep h k)
theorem erase_last {α : Type} (l : List α) : l.eraseIdx (l.length - 1) = l.dropLast := by
  induction l with
  | nil => rfl
  | cons a r ih =>
    cases r with
    | nil => rfl
    | cons b r =>
      have e : (a :: b :: r).length - 1 = ((b :: r).length - 1) + 1 := by
        have h1 : (a :: b :: r).length = r.length + 2 := rfl
        have h2 : (b :: r).length = r.length + 1 := rfl
        omega
      rw [e, List.eraseIdx_cons_succ, ih]
      all_goals rfl
theorem foldl_rep (its : List Value) : ∀ (k : Nat) (acc : List Value),
    List.foldl (fun x1 x2 => x1 ++ x2) acc.toArray (List.replicate k its.toArray) = (acc ++ (List.replicate k its).flatten).toArray
  | 0, acc => by simp
  | k + 1, acc => by
    have e : acc.toArray ++ its.toArray = (acc ++ its).toArray := by simp
    have e2 : (acc ++ its) ++ (List.replicate k its).flatten = acc ++ (List.replicate (k + 1) its).flatten := by
      rw [List.replicate_succ, List.flatten_cons, List.append_assoc]
    rw [← e2, ← foldl_rep its k (acc ++ its), ← e, List.replicate_succ, List.foldl_cons]
section
variable {X : Cx} {pins : List (Addr × Obj)} {σ : St} {H : Hp} {s : Shared} {l b : Addr} {xs ys zs : List V}
theorem Inv.lset {its its' : List Value} {n : Nat} {f : Array Value → Array Value} {t' : Nat} (I : Inv X pins σ H s) (hH : H l = some (.lst xs))
    (e : s.heap.get? l = some { cls := .type "list", data := .seq its.toArray n }) (hf : f its.toArray = its'.toArray) (hv : Vals ys its') (hz : ys.length ≤ sizeLine) :
    Inv X pins σ (upd H l (.lst ys)) { s with heap := s.heap.update l (Obj.mapSeq f), toks := t' } := by
  have q := PySem.IsL.update e f
  rw [hf] at q
  refine I.write (x := l) (e := l) (by rw [hH]; exact trivial) (.inl rfl) (fun b' u hb hu => (Heap.get?_update_other s.heap (Obj.mapSeq f) (Ne.symm hb)).trans hu) ⟨_, q⟩ ?_
  exact ⟨hz, its', _, hv, q⟩
theorem Inv.lnew {its : List Value} {t' : Nat} (I : Inv X pins σ H s) (hv : Vals ys its) (hz : ys.length ≤ sizeLine) :
    Inv X pins σ (upd H s.heap.objs.size (.lst ys)) { s with heap := s.heap.push { cls := .type "list", data := .seq its.toArray }, toks := t' } :=
  I.laid (fun _ _ q => Heap.get?_push_of_some _ q) (Nat.le_refl _) ⟨hz, its, 0, hv, Heap.get?_push_size _ rfl⟩
theorem Inv.fresh (I : Inv X pins σ H s) : H s.heap.objs.size = none := I.hok.fresh (Nat.le_refl _)
theorem Inv.lstM (I : Inv X pins σ H s) (hH : H l = some (.lst xs)) : xs.length ≤ sizeLine ∧ ∃ (its : List Value) (n : Nat), Vals xs its ∧ xs.length = its.length ∧ s.heap.get? l = some { cls := .type "list", data := .seq its.toArray n } := by
  obtain ⟨z, its, n, r, e⟩ := I.hok l _ hH
  exact ⟨z, its, n, r, r.length, e⟩
theorem notLongL {n : Nat} (h : n ≤ sizeLine) : Builtin.List.listTooLong n = false := by
  unfold Builtin.List.listTooLong
  exact decide_eq_false (by omega)
end
section
variable {X : Cx}
noncomputable def rAppend : V → List V → Hp → VK → Prop := fun x vs H Q => ∃ l xs y, x = .ref l ∧ vs = [y] ∧ H l = some (.lst xs) ∧ xs.length < sizeLine ∧ Q .non (upd H l (.lst (xs ++ [y])))
theorem mt_append : MtM X "list.append" rAppend := by
  intro pins s σ H x vs v us Q I rx rv h
  obtain ⟨l, xs, y, rfl, rfl, hH, hz, q⟩ := h
  cases rx
  obtain ⟨u, rfl, ru⟩ := rv.one
  obtain ⟨z, its, n, r, hl, e⟩ := I.lstM hH
  refine call_meets F.slot_list_append ⟨_, e, rfl⟩ F.entry_list_append (F.args_list_append_2 _ _) (PySem.list_append l its.toArray n u (by rw [List.size_toArray]; omega)) ⟨e, ?_⟩
  refine ⟨.non, _, I.lset (its' := its ++ [u]) hH e (by simp) (r.append (.cons ru .nil)) ?_, rfl, q⟩
  rw [List.length_append, List.length_singleton]
  omega
noncomputable def rExtend : V → List V → Hp → VK → Prop := fun x vs H Q => ∃ l b xs zs, x = .ref l ∧ vs = [.ref b] ∧ H l = some (.lst xs) ∧ H b = some (.lst zs) ∧ xs.length + zs.length ≤ sizeLine ∧ Q .non (upd H l (.lst (xs ++ zs)))
theorem mt_extend : MtM X "list.extend" rExtend := by
  intro pins s σ H x vs v us Q I rx rv h
  obtain ⟨l, b, xs, zs, rfl, rfl, hH, hB, hz, q⟩ := h
  cases rx
  obtain ⟨u, rfl, ru⟩ := rv.one
  cases ru
  obtain ⟨z, its, n, r, hl, e⟩ := I.lstM hH
  obtain ⟨z2, its2, n2, r2, hl2, e2⟩ := I.lstM hB
  have hsz : its.toArray.size + its2.toArray.size ≤ sizeLine := by rw [List.size_toArray, List.size_toArray]; omega
  have hlong : ¬ (!its.toArray.isEmpty && Builtin.List.listTooLong (its.toArray.size + its2.toArray.size)) = true := by
    rw [notLongL hsz, Bool.and_false]
    exact Bool.false_ne_true
  refine call_meets F.slot_list_extend ⟨_, e, rfl⟩ F.entry_list_extend (F.args_list_extend_2 _ _)
    (AutoSeq1.list_extend_list_list_0 l its.toArray n b its2.toArray n2 hlong (by rw [List.size_toArray]; omega) (by omega)) ⟨e, e2, ?_⟩
  refine ⟨.non, _, I.lset (its' := its ++ its2) hH e (by simp) (r.append r2) ?_, rfl, q⟩
  rw [List.length_append]
  omega
noncomputable def rPop : V → List V → Hp → VK → Prop := fun x vs H Q => ∃ l xs y, x = .ref l ∧ vs = [] ∧ H l = some (.lst xs) ∧ xs[xs.length - 1]? = some y ∧ Q y (upd H l (.lst xs.dropLast))
theorem mt_pop : MtM X "list.pop" rPop := by
  intro pins s σ H x vs v us Q I rx rv h
  obtain ⟨l, xs, y, rfl, rfl, hH, hy, q⟩ := h
  cases rx
  have hus := rv.zero
  subst hus
  obtain ⟨z, its, n, r, hl, e⟩ := I.lstM hH
  obtain ⟨u, hu, ru⟩ := r.get hy
  have hy' : its.toArray[its.toArray.size - 1]? = some u := by
    show its.toArray[its.length - 1]? = some u
    rw [← Array.getElem?_toList, ← hl]
    exact hu
  refine call_meets F.slot_list_pop ⟨_, e, rfl⟩ F.entry_list_pop (F.args_list_pop_1 _) (MeetsSeq.list_pop_last l its.toArray n u hy' (by rw [List.size_toArray]; omega)) ⟨e, ?_⟩
  refine ⟨y, _, I.lset (its' := its.dropLast) hH e ?_ r.dropLast ?_, ru, q⟩
  · show its.toArray.eraseIdxIfInBounds (its.toArray.size - 1) = its.dropLast.toArray
    rw [List.size_toArray, List.eraseIdxIfInBounds_toArray, erase_last]
  · rw [List.length_dropLast]
    omega
noncomputable def rRep : R2 := fun x y H Q => ∃ l k xs, x = .ref l ∧ y = .int k ∧ H l = some (.lst xs) ∧ -(2 ^ 63) ≤ k ∧ k < 2 ^ 63 ∧ xs.length * k.toNat ≤ sizeLine ∧
  ∀ p, H p = none → Q (.ref p) (upd H p (.lst (List.replicate k.toNat xs).flatten))
theorem len_rep {α : Type} (xs : List α) (k : Nat) : (List.replicate k xs).flatten.length = k * xs.length := by
  induction k with
  | zero => simp
  | succ k ih => rw [List.replicate_succ, List.flatten_cons, List.length_append, ih, Nat.succ_mul, Nat.add_comm]
theorem op_rep : OpR X (binaryOp .Mult) rRep := by
  intro pins s σ H x y v u Q I rx ry h
  obtain ⟨l, k, xs, rfl, rfl, hH, h1, h2, hz, q⟩ := h
  cases rx
  obtain ⟨t, rfl⟩ := ry
  obtain ⟨z, its, n, r, hl, e⟩ := I.lstM hH
  have hlen : its.toArray.size * k.toNat ≤ sizeLine := by rw [List.size_toArray, ← hl]; exact hz
  have hcap : ¬ its.toArray.size * k.toNat > (2 ^ 63 - 1) / 8 := by
    have : (sizeLine : Nat) ≤ (2 ^ 63 - 1) / 8 := by decide
    omega
  have hfit : ¬ (!Builtin.List.listFitsIndex k) = true := by
    rw [fitsIndex_both h1 h2]
    exact Bool.false_ne_true
  have hlong : ¬ Builtin.List.listTooLong (its.toArray.size * k.toNat) = true := by
    rw [notLongL hlen]
    exact Bool.false_ne_true
  have hnew : List.foldl (fun x1 x2 => x1 ++ x2) #[] (List.replicate (if its.toArray.isEmpty = true then 0 else k.toNat) its.toArray) = (List.replicate k.toNat its).flatten.toArray := by
    have f0 : ∀ m : Nat, List.foldl (fun x1 x2 => x1 ++ x2) #[] (List.replicate m its.toArray) = (List.replicate m its).flatten.toArray := fun m => by
      have := foldl_rep its m []
      rw [List.nil_append] at this
      exact this
    rw [f0]
    cases its with
    | nil => simp
    | cons a r' => rw [if_neg (by simp)]
  refine wpAny_binaryOp_repeat_ref (T := "list") (U := "int") (by decide) ⟨_, e, rfl⟩ (fun s' => typeIs_int s' k t) noFill_list_mul F.fills_int_mul F.slot_int_rmul repeat_list F.slot_int_index.lookup
    (call_meets F.slot_int_rmul (typeIs_int s k t) F.entry_int_rmul (F.args_int_rmul_2 _ _) (int___rmul___int_list k t l its.toArray n)
      ⟨e, rfl, ⟨_, e, rfl⟩, call_meets F.slot_list_mul ⟨_, e, rfl⟩ F.entry_list_mul (F.args_list_mul_2 _ _) (AutoListH.list___mul___list_int_3 l its.toArray n k t hfit hcap hlong) ⟨e, ?_⟩⟩)
  rw [hnew]
  exact ⟨.ref _, _, I.lnew (t' := s.toks) (r.rep k.toNat) (by rw [len_rep, Nat.mul_comm]; exact hz), rfl, q _ I.fresh⟩
end
section
variable {prog : Program} {w : World} {A : Around} {E : Value → Shared → Prop} {s : Shared}
end
section
variable {X : Cx}
end
end L2
namespace Att
open PySem PySem.W PySem.Calls PyProof.Rows
theorem ints_of_wellAll {P : Params} {h : Heap} : ∀ (ns : List Int) (vs : List Value), WellAll P h vs (ns.map WData.int) → IntsAre vs ns := by
  intro ns
  induction ns with
  | nil =>
    intro vs w
    rw [List.map_nil] at w
    cases w
    exact .nil
  | cons n ns ih =>
    intro vs w
    rw [List.map_cons] at w
    cases w with
    | cons a b =>
      cases a
      exact .cons _ _ (ih _ b)
theorem script_of {l : OpenLaw} {n : Nat} (hn : l.most = some n) {P : Params} {h : Heap} {args : List WData} {vals : List Value}
    (hpre : l.row.toRowW.claim.pre args = true) (hwl : WellAll P h vals args) :
    ∃ a vs ns, vals = [Value.ref a] ∧ args = [WData.list (ns.map WData.int)] ∧ h.get? a = some { cls := .type "list", data := .seq vs.toArray } ∧ IntsAre vs ns ∧ ns.length ≤ n := by
  have hsh : WShape.hasAll [] args [.list .int] = true := (pre_splitW hpre).1
  have hc : l.pre.holds [] { args := args } = true := (pre_splitW hpre).2
  obtain ⟨d, r, rfl, h1, h2⟩ := hasAllW_cons hsh
  obtain rfl := hasAllW_nil h2
  obtain ⟨xs, rfl, h3⟩ := hasW_list h1
  obtain ⟨ns, rfl⟩ := items_int h3
  have hlen : ns.length ≤ n := by
    unfold OpenLaw.pre at hc
    have h4 : (WTm.not (.lt (.lit (.int (n : Int))) (.len (.arg 0)))).holds [] { args := [.list (ns.map .int)] } = true := by
      have h4 := (holds_andW hc).1
      rw [hn] at h4
      exact h4
    have h5 := condW_of h4 (w_not (w_lt w_lit (w_len_list (w_arg rfl))))
    rw [List.length_map] at h5
    refine Nat.le_of_not_lt fun q => ?_
    have q' : (n : Int) < ((ns.length : Nat) : Int) := by omega
    first
      | (rw [decide_eq_true q'] at h5; exact absurd h5 (by decide))
      | (simp at h5; omega)
  cases hwl with
  | cons w1 w2 =>
    cases w2
    cases w1 with
    | list ho hall => exact ⟨_, _, ns, rfl, rfl, ho, ints_of_wellAll ns _ hall, hlen⟩
theorem post_true (l : OpenLaw) (args : List WData) : l.row.toRowW.claim.post args (.bool true) args = true :=
  postW_of (r := l.row.toRowW) (X := (true == true))
    (show WShape.has [] (.bool true) .bool = true by first | rfl | decide | simp [WShape.has, WShape.arms, WShape.armsAll])
    (show (WTm.eq .res (.lit (.bool true))).value [] { args := args, res := some (.bool true), after := args } = some (.bool (true == true)) from w_eq_bool (w_res rfl) w_lit) rfl
theorem attach_call {l : OpenLaw} {n : Nat} {q : Program} {loose : List Str} {XP : (Str → Option Value) → Heap → Prop} {YP : World → Heap → Prop} {d : DefRec}
    (hn : l.most = some n) (hdf : d.params.defaults = [])
    (call : ∀ (w : World) (s₀ s₁ : Shared) (mg mb : Str → Option Value) (fa : Addr) (o : Obj) (pm cd doc : Value) (a : Addr) (vs : List Value) (ns : List Int),
      Ground q loose [] XP w s₀ mg mb s₁.heap → YP w s₁.heap →
      s₁.heap.get? fa = some o → o.data = .func (docDef d.name d.params d.body d.scope pm cd doc) → s₁.heap.CodeRec cd d.name → mg d.name = some (.ref fa) →
      s₁.heap.get? a = some { cls := .type "list", data := .seq vs.toArray } → IntsAre vs ns → ns.length ≤ n → s₁.gens = #[] →
      codeAny (model l.prog w) callerA (.call (.ref fa) ⟨[.ref a], []⟩) (fun r s' => r = .ok (.ret (.bool true)) ∧ OldK s₁.heap s'.heap ∧ s'.os = s₁.os ∧ AllBare s'.gens) s₁) :
    WalkO q loose XP YP l.row.toRowW d [] (fun f vs => PySem.call f vs) := by
  intro w s₀ s₁ mg mb G Y fa o pm cd doc dV kV ho hd hcd hD hmg hg args vals as hpre hlay hrd hwl hlo
  obtain rfl : dV = .none := Dflts.none hD hdf
  obtain rfl : kV = .none := Dflts.noKw hD
  obtain ⟨a, vs, ns, rfl, rfl, hobj, hints, hlen⟩ := script_of hn hpre hwl
  refine enter_call (codeAny_mono (call w s₀ s₁ mg mb fa o pm cd doc a vs ns G Y ho (fd_plain hd) hcd hmg hobj hints hlen hg) fun r s' hq => ?_)
  obtain ⟨rfl, h2, h3, h4⟩ := hq
  exact ⟨.inl ⟨.bool true, .bool true, [], rfl, fun _ => rfl, .bool true, post_true l _, fun _ => ⟨List.Pairwise.nil, fun _ hm => (nomatch hm)⟩⟩, h2, h3, h4⟩
section
variable {prog : Program} {w : World} {A : Around} {E : Value → Shared → Prop} {s : Shared} {K : Frag}
theorem make_obj {R : Result → Shared → Prop} {C fI : Addr} {rest : List Value} {kw : List (Str × Value)}
    (X : K.In s.heap) (hm : makesIn K C = true) (hi : findIn K (.ref C) "__init__" = some (some (.ref fI))) (hf : isFn K (.ref fI) = true)
    (h : codeAny (model prog w) (A.under (.builtin "type.__call__" ⟨.ref C :: rest, kw⟩)) (.call (.ref fI) ⟨.ref (s.heap.objs.size + 1) :: rest, kw⟩) (InitBack (s.heap.objs.size + 1) R)
      { s with heap := (s.heap.push emptyDict).push (instObj C s.heap.objs.size) }) : codeAny (model prog w) A (.call (.ref C) ⟨rest, kw⟩) R s := by
  obtain ⟨hh, g, d, t, os⟩ := s
  exact make_core (makes_of X hm) (looks_findIn X hi) (fun self => bind_fn X self (beq_iff_eq.mp hf)) (.inl rfl) h
theorem get_field {x C : Addr} {ox : Obj} {es : List DictEntry} {n : Nat} {name : Str} {expr : Bool} {v : Value} {Q : Value → Shared → Prop}
    (X : K.In s.heap) (I : PySem.W.InstAt s.heap x ox C (some (dictOf es n))) (hg : plainGet K C name = true) (hh : hasDictIn K C = true) (ha : findIn K (.ref C) name = some none)
    (hl : getL name es = some (some v)) (hv : handedIn v = true) (h : Q v { s with toks := s.toks + 1 }) : wpAny (model prog w) A (getAttr (.ref x) name expr) Q E s :=
  get_value X I (plainGet_of hg).1 (findObj_own hh ha rfl hl) hv h
end
end Att
namespace L2
open PySem PySem.Spec PyProof.Rows
theorem vals_ints : ∀ {vs : List Value} {ns : List Int}, IntsAre vs ns → Vals (ns.map V.int) vs
  | _, _, .nil => .nil
  | _, _, .cons n t h => .cons ⟨t, rfl⟩ (vals_ints h)
noncomputable def Only (H : Hp) : Prop := ∀ b, H b = none ∨ ∃ o xs, H b = some (.frz o (.lst xs))
theorem law_call {P : Program} {w : World} {K : PySem.W.Frag} {mg mb : Str → Option Value} {CX : CXT} {k : Nat} {fa a : Addr} {fd : FuncData} {x : Str} {sp : Sp} {s₁ : Shared} {vs : List Value} {ns : List Int}
    (KX : K.In s₁.heap) (hns : s₁.heap.Ns mainGlobals mg) (hb : s₁.heap.Ns builtinsNs mb) (hbb : ∀ x : Str, x ≠ "__name__" → mb x = bootBuiltins x) (hlim : s₁.heap.NoLimit) (hg : s₁.gens = #[])
    (ha : s₁.heap.get? a = some { cls := .type "list", data := .seq vs.toArray }) (hi : IntsAre vs ns) (hl : ns.length ≤ sizeLine) (hr : Room k callerA)
    (F : ∀ base : Heap, K.In base → base.Ns mainGlobals mg → FnOk P w K mg base CX k fa fd [x] sp) (hbind : ∀ (s : Shared) (u : Value), BindsTo s fd ⟨[u], []⟩ [(x, u)])
    (hsp : ∀ H : Hp, Only H → SqL K H a (ns.map V.int) → sp [.ref a] H (fun v _ => v = .bl true) fun _ _ _ => False)
    (hCX : ∀ H e s', CX [] H s₁ (fun _ _ _ => False) e s' → False) :
    codeAny (model P w) callerA (.call (.ref fa) ⟨[.ref a], []⟩) (fun r s' => r = .ok (.ret (.bool true)) ∧ OldK s₁.heap s'.heap ∧ s'.os = s₁.os ∧ AllBare s'.gens) s₁ := by
  have rv := vals_ints hi
  have lenV := hi.length
  -- from an abstract heap in which nothing but the script may be tracked
  have core : ∀ H : Hp, Only H → SqL K H a (ns.map V.int) → HOk P w H s₁.heap → (∀ b, H b ≠ none → b = a) → (H a ≠ none → K.lookup a = none) →
      codeAny (model P w) callerA (.call (.ref fa) ⟨[.ref a], []⟩) (fun r s' => r = .ok (.ret (.bool true)) ∧ OldK s₁.heap s'.heap ∧ s'.os = s₁.os ∧ AllBare s'.gens) s₁ := by
    intro H hO hS hok hA hK
    have base_of : ∀ {b : Addr} {o : Obj}, s₁.heap.get? b = some o → H b = none → (hidT s₁.heap H).get? b = some o := fun e n => hidT_get e n
    have noA : ∀ {b : Addr} {o : Obj} {es : Array DictEntry} {ep : Nat}, s₁.heap.get? b = some o → o.data = .dict es ep → H b = none := fun {b o es ep} e d => by
      cases q : H b with
      | none => rfl
      | some u =>
        have e' : b = a := hA b (by rw [q]; simp)
        subst e'
        rw [ha] at e; cases e
        have d' : Data.seq vs.toArray _ = Data.dict es ep := d
        cases d'
    have nsK : ∀ {b : Addr} {m : Str → Option Value}, s₁.heap.Ns b m → (hidT s₁.heap H).Ns b m := fun {b m} ⟨o, es, ep, e, d, r⟩ => ⟨o, es, ep, base_of e (noA e d), d, r⟩
    have hKb : K.In (hidT s₁.heap H) := fun b o e => base_of (KX b o e) (by
      cases q : H b with
      | none => rfl
      | some u =>
        have e' : b = a := hA b (by rw [q]; simp)
        subst e'
        rw [hK (by rw [q]; simp)] at e; cases e)
    have hM : Mod K mg (hidT s₁.heap H) := ⟨hKb, nsK hns, ⟨mb, nsK hb, hbb⟩, let ⟨mc, h1, h2⟩ := hlim; ⟨mc, nsK h1, h2⟩⟩
    have e0 : Env0 P w K mg (hidT s₁.heap H) callerA [] s₁ H := ⟨rfl, hM, fun b o e => of_hidT e, Nat.le_of_eq (hidT_size _ _), trivial, fun b hb => absurd (show b ∈ ([] : List Addr) from hb) (by simp), hok, .of_eq hg⟩
    refine codeAny_mono ((F _ hKb (nsK hns)).run callerA [] s₁ H ⟨[.ref a], []⟩ [.ref a] [.ref a] _ _ hr e0 (hbind s₁ (.ref a)) (.cons rfl .nil) (hsp H hO hS)) fun r s' h => ?_
    cases r with
    | error e => exact (hCX H e s' h).elim
    | ok fl =>
      cases fl with
      | next => exact False.elim h
      | brk => exact False.elim h
      | cont => exact False.elim h
      | ret u =>
        obtain ⟨v, H', os, bare, un, hok', r', q⟩ := h
        have q' : v = .bl true := q
        subst q'
        obtain rfl : u = Value.bool true := r'
        refine ⟨rfl, OldK.of_keep fun b o e => ?_, os, bare⟩
        cases q : H b with
        | none => exact un.keep b o e q (by intro z; exact absurd (show b ∈ ([] : List Addr) from z) (by simp)) (by simp)
        | some u =>
          rcases hO b with z | ⟨ob, xs, z⟩
          · rw [q] at z; cases z
          · have z2 := un.frzs b ob _ z
            obtain ⟨e1, _⟩ := hok b _ z
            obtain ⟨e2, _⟩ := hok' b _ z2
            rw [e] at e1; cases e1
            exact e2
  cases hk : K.lookup a with
  | some o =>
    -- the script is one of the module's own objects
    have e := KX a o hk
    rw [ha] at e
    cases e
    refine core (fun _ => none) (fun _ => .inl rfl) (.inr ⟨_, vs.toArray, _, hk, rfl, rfl, rfl, by rw [List.size_toArray, lenV]; exact hl, by simpa using rv⟩) (fun b u z => by have z' : (none : Option HO) = some u := z; cases z') (fun b z => absurd rfl z) fun z => absurd rfl z
  | none =>
    refine core (fun b => if b = a then some (.frz { cls := .type "list", data := .seq vs.toArray } (.lst (ns.map V.int))) else none) (fun b => ?_) (.inl (.inr ⟨{ cls := .type "list", data := .seq vs.toArray }, if_pos rfl⟩)) (fun b u z => ?_) (fun b z => ?_) fun _ => hk
    · by_cases hb : b = a
      · exact .inr ⟨_, _, if_pos hb⟩
      · exact .inl (if_neg hb)
    · by_cases hb : b = a
      · have z' := (if_pos hb).symm.trans z
        cases z'
        subst hb
        exact ⟨ha, by rw [List.length_map]; exact hl, vs, _, rv, ha⟩
      · have z' := (if_neg hb).symm.trans z
        cases z'
    · by_cases hb : b = a
      · exact hb
      · exact absurd (if_neg hb) z
end L2
namespace L2
open PySem PySem.Spec PyProof.Rows
theorem walk_of {l : PySem.W.OpenLaw} {n k : Nat} {q : Program} {loose : List Str} {XP : (Str → Option Value) → Heap → Prop} {YP : World → Heap → Prop} {d : DefRec} {K : Params → PySem.W.Frag} {CX : World → CXT} {sp : World → Sp} {x : Str}
    (hn : l.most = some n) (hn2 : n ≤ sizeLine) (hdf : d.params.defaults = []) (hr : Room k callerA)
    (hY : ∀ (w : World) (h : Heap), YP w h → (K w.params).In h)
    (F : ∀ (w : World) (mg : Str → Option Value) (fa : Addr) (h : Heap), (K w.params).In h → h.Ns mainGlobals mg → mg d.name = some (.ref fa) →
      ∃ fd : FuncData, (∀ (s : Shared) (u : Value), BindsTo s fd ⟨[u], []⟩ [(x, u)]) ∧
        ∀ base : Heap, (K w.params).In base → base.Ns mainGlobals mg → FnOk l.prog w (K w.params) mg base (CX w) k fa fd [x] (sp w))
    (hsp : ∀ (w : World) (H : Hp) (a : Addr) (ns : List Int), ns.length ≤ n → Only H → SqL (K w.params) H a (ns.map V.int) → sp w [.ref a] H (fun v _ => v = .bl true) fun _ _ _ => False)
    (hCX : ∀ (w : World) (H : Hp) (s : Shared) (e : Value) (s' : Shared), CX w [] H s (fun _ _ _ => False) e s' → False) :
    PySem.W.WalkO q loose XP YP l.row.toRowW d [] (fun f vs => PySem.call f vs) := by
  refine Att.attach_call hn hdf fun w s₀ s₁ mg mb fa o pm cd doc a vs ns G Y ho hd hcd hmg hobj hints hlen hg => ?_
  have KX := hY w _ Y
  obtain ⟨fd, hb, hF⟩ := F w mg fa _ KX G.T.g hmg
  exact law_call KX G.T.g G.T.b G.T.builtins G.T.nolimit hg hobj hints (Nat.le_trans hlen hn2) hr hF hb (fun H hO hS => hsp w H a ns hlen hO hS) fun H e s' => hCX w H s₁ e s'
end L2
/- THE LAST THEOREM (shape; LID, My.* are yours):
   My.Adr: a structure of the addresses that your layer names (classes, functions); My.Txt K t: a structure (Prop) of the equations over K;
   My.txt_mk : {K} {implicit addresses ..} (e1 : nsIn K mainGlobals "law" = some (some (.ref f))) (e2 : K.lookup f = some ⟨oc, od, .func (fnOf "law" "law" params body scope dV kV doc pm an cdv ct), sl⟩) (e3 : codeIn K cdv "law" = true) .. : ∃ t, My.Txt K t
set_option maxRecDepth 100000 in
set_option maxHeartbeats 0 in
theorem PySem.Challenge.cw_LID_holds : PySem.Challenge.rw_LID.Holds := by
  w_on; o_law; k_head; (case hw => w_witness2)
  k_fill
  refine L2.walk_of (l := PySem.Challenge.rw_LID) (n := 63) (k := 40) (x := "script") (CX := fun w => ..) (sp := fun _ => My.sp_law) rfl (by decide) rfl ⟨rfl, by decide, by decide⟩ (fun w h Y => PySem.W.kIn_of Y) ?F ?S ?C
  case F =>
    intro w mg fa h KX G hmg
    have T : ∃ t, My.Txt (L2.KOf KX) t := by
      dsimp only [L2.KOf]                          -- K must stand as «<heap const> w.params» for k_is
      refine' My.txt_mk ?e1 ?e2 ?e3 ..
      (case e1 => PySem.W.k_is)                    -- in the order: a name -> its address -> its object -> its parts
      (case e2 => PySem.W.k_is)
      ..
    obtain ⟨t, T⟩ := T
    have e0 := hmg.symm.trans (PySem.W.mg_of KX G T.law)
    cases e0                                       -- fa is the law's own address
    exact ⟨_, fun s u => .of_eq rfl, fun base kb nb => My.law_fn T kb nb⟩     -- if «.of_eq rfl» comes too early: refine' ⟨_, ?b, fun base kb nb => My.law_fn T kb nb⟩; exact fun s u => .of_eq rfl
  case S => exact fun w H a ns hl hO hS => ..
  case C => exact ..
(the tactic k_is has no namespace: write k_is) -/
namespace L2
open PySem PySem.Spec PyProof.Rows
noncomputable def inClass (s : Stmt) (j : Nat) : Stmt := match s with
  | .ClassDef _ _ _ body _ _ _ _ _ _ _ => body.getD j (.Pass ⟨0, 0, 0, 0⟩)
  | _ => .Pass ⟨0, 0, 0, 0⟩
noncomputable def defArgs (s : Stmt) : Arguments := match s with
  | .FunctionDef _ a _ _ _ _ _ _ _ _ => a
  | _ => { posonlyargs := [], args := [], vararg := none, kwonlyargs := [], kw_defaults := [], kwarg := none, defaults := [] }
noncomputable def defBody (s : Stmt) : List Stmt := match s with
  | .FunctionDef _ _ b _ _ _ _ _ _ _ => b
  | _ => []
noncomputable def defScope (s : Stmt) : Scope := match s with
  | .FunctionDef _ _ _ _ _ _ sc _ _ _ => sc
  | _ => { kind := .function, names := [], isGenerator := false, isCoroutine := false }
noncomputable abbrev CX0 : CXT := fun _ _ _ _ _ _ => False
noncomputable abbrev E0 : XK := fun _ _ _ => False
theorem pass0 {X : Cx} : Passes CX0 X E0 := fun _ _ _ _ _ _ _ h => h.elim
structure Fun (K : PySem.W.Frag) (x qual : Str) (st : Stmt) (f : Addr) (fd : FuncData) : Prop where
  ex : ∃ (oc : Value) (od : Option Addr) (kV doc pm : Value) (an : Option Addr) (cdv ct : Value) (osl : Array (Option Value)),
    fd = PySem.W.fnOf x qual (defArgs st) (defBody st) (defScope st) .none kV doc pm an cdv ct ∧ K.lookup f = some ⟨oc, od, .func fd, osl⟩ ∧ PySem.W.codeIn K cdv qual = true
  kp : PySem.W.keepIn K (.ref f) = true
section
variable {P : Program} {w : World} {K : PySem.W.Frag} {mg : Str → Option Value} {base : Heap}
theorem Fun.ok {x qual : Str} {st : Stmt} {f : Addr} {fd : FuncData} {N ps : List Str} {k : Nat} {sp : Sp} (F : Fun K x qual st f fd) (S : FnScope N ps (defScope st)) (len : ∀ vs H Q E, sp vs H Q E → vs.length = ps.length)
    (hbody : ∀ (cdv : Value) (A : Around) (outer : List Env) (s : Shared) (H : Hp) (vs : List V) (Q : VK) (E : XK), Room k (A.deeper (envOfC qual (defScope st) s.heap.objs.size f cdv)) → sp vs H Q E →
      ∃ t, PSs (cxOf CX0 P w K mg base N qual (defScope st) f cdv A outer s H E).nox (defBody st) t ∧ t { nx := fun _ H' => Q .non H', rt := Q } (start N vs) H) : FnOk P w K mg base CX0 (k + 1) f fd ps sp := by
  obtain ⟨oc, od, kV, doc, pm, an, cdv, ct, osl, rfl, lk, hcd⟩ := F.ex
  refine fn_of lk hcd S len fun A outer s H vs Q E hr hsp => ?_
  obtain ⟨t, h, q⟩ := hbody cdv A outer s H vs Q E hr hsp
  exact ⟨t, h.nox, q⟩
theorem Fun.binds {x qual : Str} {st : Stmt} {f : Addr} {fd : FuncData} {ps : List Str} (F : Fun K x qual st f fd)
    (h : ∀ (kV doc pm : Value) (an : Option Addr) (cdv ct : Value) (us : List Value), us.length = ps.length → bindArgs (PySem.W.fnOf x qual (defArgs st) (defBody st) (defScope st) .none kV doc pm an cdv ct) ⟨us, []⟩ = pure (ps.zip us)) : Binds K fd ps [] := by
  obtain ⟨oc, od, kV, doc, pm, an, cdv, ct, osl, rfl, lk, hcd⟩ := F.ex
  exact .all (h kV doc pm an cdv ct)
theorem fun_mk {x qual : Str} {st : Stmt} {f : Addr} {oc : Value} {od an : Option Addr} {osl : Array (Option Value)} {kV doc pm cdv ct : Value} (l : K.lookup f = some ⟨oc, od, .func (PySem.W.fnOf x qual (defArgs st) (defBody st) (defScope st) .none kV doc pm an cdv ct), osl⟩)
    (c : PySem.W.codeIn K cdv qual = true) (k : PySem.W.keepIn K (.ref f) = true) : Fun K x qual st f (PySem.W.fnOf x qual (defArgs st) (defBody st) (defScope st) .none kV doc pm an cdv ct) := ⟨⟨oc, od, kV, doc, pm, an, cdv, ct, osl, rfl, l, c⟩, k⟩
end
section
variable {X : Cx}
end
theorem iteF {A B : Prop} (h : B) : if false = true then A else B := by
  rw [if_neg Bool.false_ne_true]
  exact h
theorem iteT {A B : Prop} (h : A) : if true = true then A else B := by
  rw [if_pos rfl]
  exact h
end L2
namespace L2
open PySem PySem.Spec PyProof.Rows
theorem compLoop_own {prog : Program} {w : World} {A : Around} {R : Result → Shared → Prop} {s : Shared} {elt target iter : Expr} {ifs : List Expr} {scope : Scope} {pos : Pos} {it acc : Value} {env : Env} {N : Value → Shared → Prop}
    (hN : N = notedBy (model prog w) A env fun e s' => R (.error e) s') (J : Nat → Shared → Prop)
    (turn : ∀ n s, J n s → wpAny (model prog w) A (pyNext it) (fun r s₁ => match r with
      | none => R (.ok .next) s₁
      | some v => wpAny (model prog w) A (letOwnedTupleGo target it v) (fun _ s₀ => wpAny (model prog w) A (assign target env v) (fun _ s₂ =>
          wpAny (model prog w) A (forIn ifs true fun c r => if r = true then do let ok ← isTrue c env (eval c env); pure (ForInStep.yield ok) else pure (ForInStep.yield r)) (fun ok s₃ =>
            if ok = true then wpAny (model prog w) A (eval elt env) (fun x s₄ =>
              wpAny (model prog w) A (call (.builtin "list.append") [acc, x]) (fun _ s₅ => ∃ m, m < n ∧ J m s₅) N s₄) N s₃
            else ∃ m, m < n ∧ J m s₃) N s₂) N s₀) N s₁) N s)
    (n : Nat) (h : J n s) :
    codeAny (model prog w) A (.compLoop (.ListComp elt [⟨target, iter, ifs, 0⟩] scope pos) 0 it acc env) R s := by
  refine codeAny_loop rfl J (fun n s hI => ?_) n h
  show wpAny _ A ((compTurn (.ListComp elt [⟨target, iter, ifs, 0⟩] scope pos) 0 it acc env).onRaise (fun x => do noteFrame x env; theTreesLotGoes x)) _ _ s
  refine wpAny_noted ?_
  rw [compTurn_list]
  subst hN
  refine wpAny_bind (wpAny_standAt (wpAny_bind (wpAny_mono (turn n s hI) (fun r s₁ h₁ => ?_) fun _ _ h' => h')))
  cases r with
  | none => exact wpAny_pure h₁
  | some v =>
    refine wpAny_bind (wpAny_mono h₁ (fun _ s₀ h₀ => ?_) fun _ _ h' => h')
    refine wpAny_bind (wpAny_mono h₀ (fun _ s₂ h₂ => wpAny_bind (wpAny_mono h₂ (fun ok s₃ h₃ => ?_) fun _ _ h' => h')) fun _ _ h' => h')
    cases ok with
    | false => exact wpAny_pure ⟨rfl, h₃⟩
    | true =>
      exact wpAny_bind (wpAny_bind (wpAny_mono h₃ (fun x s₄ h₄ => wpAny_bind (wpAny_mono h₄ (fun _ s₅ h₅ => wpAny_pure (wpAny_pure ⟨rfl, h₅⟩)) fun _ _ h' => h')) fun _ _ h' => h'))
noncomputable def clOf (cells : List (Str × Addr)) : List (Str × NameKind) → List (Str × Addr) → List (Str × Addr)
  | [], acc => acc
  | (n, k) :: r, acc => clOf cells r (if k = .free then (n, (cells.lookup n).getD 0) :: acc else acc)
theorem closure_eq {env : Env} : ∀ (names : List (Str × NameKind)) (acc : List (Str × Addr)), (∀ y ∈ names, y.2 = .free → ∃ c, env.cells.lookup y.1 = some c) →
    (forIn names acc (fun (y : Str × NameKind) (cs : List (Str × Addr)) => if (y.2 == .free) = true then (do let c ← cellOf env y.1; pure (ForInStep.yield ((y.1, c) :: cs))) else pure (ForInStep.yield cs)) : Sem (List (Str × Addr))) = pure (clOf env.cells names acc)
  | [], acc, _ => rfl
  | (n, k) :: r, acc, h => by
    rw [List.forIn_cons]
    have hr : ∀ y ∈ r, y.2 = .free → ∃ c, env.cells.lookup y.1 = some c := fun y hy => h y (List.mem_cons_of_mem _ hy)
    by_cases hk : k = .free
    · subst hk
      obtain ⟨c, hc⟩ := h (n, .free) List.mem_cons_self rfl
      have e : cellOf env n = pure c := by unfold cellOf; rw [hc]
      simp only [beq_self_eq_true, if_true, e, pure_bind]
      rw [closure_eq r _ hr]
      show _ = pure (clOf env.cells r _)
      rw [if_pos rfl, hc]
      rfl
    · have hb : (k == NameKind.free) = false := by simpa using hk
      simp only [hb, Bool.false_eq_true, if_false, pure_bind]
      rw [closure_eq r _ hr]
      show _ = pure (clOf env.cells r _)
      rw [if_neg hk]
theorem closureFor_cl {scope : Scope} {env : Env} (h : ∀ y ∈ scope.names, y.2 = .free → ∃ c, env.cells.lookup y.1 = some c) : closureFor scope env = pure (clOf env.cells scope.names []) := by
  have q := closure_eq scope.names [] h
  unfold closureFor
  simp only [bind_pure]
  exact q
theorem clOf_acc {cells : List (Str × Addr)} : ∀ (names : List (Str × NameKind)) (acc : List (Str × Addr)) (y : Str) (c : Addr), (∀ z ∈ names, z.2 = .free → ∃ c, cells.lookup z.1 = some c) → (∀ c, acc.lookup y = some c → cells.lookup y = some c) → (clOf cells names acc).lookup y = some c → cells.lookup y = some c
  | [], acc, y, c, _, ha, h => ha c h
  | (n, k) :: r, acc, y, c, hn, ha, h => by
    refine clOf_acc r _ y c (fun z hz => hn z (List.mem_cons_of_mem _ hz)) (fun c' hc' => ?_) h
    by_cases hk : k = .free
    · rw [if_pos hk] at hc'
      obtain ⟨c0, e0⟩ := hn (n, k) List.mem_cons_self hk
      rw [List.lookup_cons] at hc'
      cases hx : y == n with
      | true =>
        have hy : y = n := by simpa using hx
        subst hy
        rw [hx] at hc'
        have e0' : cells.lookup y = some c0 := e0
        simp only [e0', Option.getD_some] at hc'
        rw [e0', hc']
      | false => rw [hx] at hc'; exact ha c' hc'
    · rw [if_neg hk] at hc'
      exact ha c' hc'
theorem clOf_keep {cells : List (Str × Addr)} : ∀ (names : List (Str × NameKind)) (acc : List (Str × Addr)) (y : Str), (∃ c, acc.lookup y = some c) → ∃ c, (clOf cells names acc).lookup y = some c
  | [], acc, y, h => h
  | (n, k) :: r, acc, y, h => by
    refine clOf_keep r _ y ?_
    by_cases hk : k = .free
    · rw [if_pos hk, List.lookup_cons]
      cases hx : y == n with
      | true => exact ⟨_, rfl⟩
      | false => exact h
    · rw [if_neg hk]; exact h
theorem clOf_has {cells : List (Str × Addr)} : ∀ (names : List (Str × NameKind)) (acc : List (Str × Addr)) (y : Str), (y, NameKind.free) ∈ names → ∃ c, (clOf cells names acc).lookup y = some c
  | [], acc, y, h => by simp at h
  | (n, k) :: r, acc, y, h => by
    rcases List.mem_cons.mp h with e | e
    · have e1 : n = y := (Prod.mk.inj e).1.symm
      have e2 : k = .free := (Prod.mk.inj e).2.symm
      subst e1; subst e2
      refine clOf_keep r _ n ?_
      rw [if_pos rfl, List.lookup_cons]
      simp
    · exact clOf_has r _ y e
structure CompScope (sc : Scope) (N : List Str) (scope : Scope) (M : List Str) (ix : List (Option Nat)) (j : Nat) (x : Str) : Prop where
  kind : scope.kind = .function
  names : ∀ y ∈ scope.names, y.2 = .local → scope.names.lookup y.1 = some .local
  nocell : ∀ y ∈ scope.names, y.2 ≠ .cell
  nd : M.Nodup
  tgt : M[j]? = some x
  loc : scope.names.lookup x = some .local
  own : ix[j]? = some none
  len : ix.length = M.length
  free : ∀ y ∈ scope.names, y.2 = .free → sc.names.lookup y.1 = some .cell ∨ sc.names.lookup y.1 = some .free
  capt : ∀ (k : Nat) (y : Str) (i : Nat), M[k]? = some y → ix[k]? = some (some i) → N[i]? = some y ∧ (sc.names.lookup y = some .cell ∨ sc.names.lookup y = some .free) ∧ scope.names.lookup y = some .free
noncomputable def cap (ix : List (Option Nat)) (σ : St) : St := ix.map fun o => match o with
  | some i => (σ[i]?).getD none
  | none => none
noncomputable def cxComp (X : Cx) (M : List Str) (scope : Scope) (C : Addr) (s : Shared) (H : Hp) (fp : List Addr) : Cx where
  prog := X.prog
  w := X.w
  K := X.K
  mg := X.mg
  base := X.base
  A := X.A
  N := M
  s₀ := s
  H₀ := H
  env := compEnvC scope (clOf X.env.cells scope.names []) C X.env
  outer := X.stack
  stack := X.stack
  ex := fp
  fn := fun _ => false
  calm := X.calm
  pn := []
  xe := fun _ _ => False
noncomputable def PF (X : Cx) (ifs : List Expr) (t : TT) : Prop :=
  ∀ (pins : List (Addr × Obj)) (s : Shared) (σ : St) (H : Hp) (Q : Bool → Hp → Prop), Inv X pins σ H s → t σ H Q →
    wpAny (model X.prog X.w) X.A (forIn ifs true fun c r => if r = true then do let ok ← isTrue c X.env (eval c X.env); pure (ForInStep.yield ok) else pure (ForInStep.yield r)) (TP X pins σ Q) X.xe s
noncomputable def tYes : TT := fun _ H Q => Q true H
theorem pf_nil {X : Cx} : PF X [] tYes := fun _ _ _ H _ I h => wpAny_tests_nil ⟨H, I, h⟩
theorem pf_one {X : Cx} {c : Expr} {t : TT} (h : PT X c t) : PF X [c] t := fun pins s σ H Q I q => wpAny_tests_one (h pins s σ H Q I q)
noncomputable def rlb (env : Env) (p : Str × NameKind) : Str × NameKind := if (p.2 == NameKind.free && env.scope.kind == .function && env.kindOf p.1 == some .cell) then (p.1, NameKind.cell) else (p.1, p.2)
theorem relabel_eq (scope : Scope) (env : Env) : (relabel scope env).names = scope.names.map (rlb env) := rfl
theorem rlb_fst (env : Env) (p : Str × NameKind) : (rlb env p).1 = p.1 := by unfold rlb; split <;> rfl
theorem rlb_lookup {env : Env} : ∀ (names : List (Str × NameKind)) (x : Str), (names.map (rlb env)).lookup x = ((names.lookup x).map fun k => (rlb env (x, k)).2)
  | [], x => rfl
  | (n, k) :: r, x => by
    have ih := rlb_lookup (env := env) r x
    have e1 := rlb_fst env (n, k)
    rw [List.map_cons]
    rw [show rlb env (n, k) = ((rlb env (n, k)).1, (rlb env (n, k)).2) from rfl, e1, List.lookup_cons, List.lookup_cons]
    cases hx : x == n with
    | true =>
      have : x = n := by simpa using hx
      subst this
      rfl
    | false => exact ih
theorem rlb_free {env : Env} {x : Str} {k : NameKind} (h : (rlb env (x, k)).2 = .cell ∨ (rlb env (x, k)).2 = .free) (hk : k ≠ .cell) : k = .free := by
  unfold rlb at h
  split at h
  · rename_i hc
    have := (Bool.and_eq_true_iff.mp (Bool.and_eq_true_iff.mp hc).1).1
    simpa using this
  · rcases h with h | h
    · exact absurd h hk
    · exact h
theorem rlb_of_free {env : Env} {x : Str} : (rlb env (x, .free)).2 = .cell ∨ (rlb env (x, .free)).2 = .free := by
  unfold rlb
  split
  · exact .inl rfl
  · exact .inr rfl
theorem lookup_relabel {env : Env} {names : List (Str × NameKind)} {x : Str} (h : (names.map (rlb env)).lookup x = some .cell ∨ (names.map (rlb env)).lookup x = some .free) (hc : ∀ y ∈ names, y.2 ≠ .cell) : (x, NameKind.free) ∈ names := by
  rw [rlb_lookup] at h
  cases q : names.lookup x with
  | none => rw [q] at h; simp at h
  | some k =>
    rw [q] at h
    have hm := PySem.mem_of_lookup q
    have hk : k ≠ .cell := hc _ hm
    have e : k = .free := rlb_free (env := env) (x := x) (by rcases h with h | h; exact .inl (Option.some.inj h); exact .inr (Option.some.inj h)) hk
    rw [e] at hm
    exact hm
theorem cap_own {ix : List (Option Nat)} {j : Nat} (h : ix[j]? = some none) (σ : St) : (cap ix σ)[j]? = some none := by
  unfold cap
  rw [List.getElem?_map, h]
  rfl
noncomputable def CompGo (J : It) (ix : List (Option Nat)) (j : Nat) (σ : St) (tf : TT) (te : TE) (Q : VK) (H1 : Hp) (acc : Addr) : Prop := ∃ W : Nat → Nat → Hp → Prop, (∃ m, W 0 m (upd H1 acc (.lst []))) ∧ ∀ i m H', W i m H' →
  (J.stop i H' ∧ Q (.ref acc) H') ∨ (J.go i H' ∧ ∀ x H2, J.yld i H' x H2 → tf ((cap ix σ).set j (some x)) H2 fun b H3 =>
    if b = true then te ((cap ix σ).set j (some x)) H3 fun y H4 => ∃ ys, H4 acc = some (.lst ys) ∧ ys.length < sizeLine ∧ ∃ m', m' < m ∧ W (i + 1) m' (upd H4 acc (.lst (ys ++ [y])))
    else ∃ m', m' < m ∧ W (i + 1) m' H3)
noncomputable def tComp (wi : TI) (ix : List (Option Nat)) (j : Nat) (tf : TT) (te : TE) : TE := fun σ H Q => wi σ H fun J H1 => ∀ acc, H1 acc = none → CompGo J ix j σ tf te Q H1 acc
section
variable {X : Cx} {scope : Scope} {M : List Str} {ix : List (Option Nat)} {j : Nat} {x : Str}
theorem comp_start {pins : List (Addr × Obj)} {σ : St} {H : Hp} {s : Shared} {fp : List Addr} {h1 : Heap} (S : CompScope X.env.scope X.N scope M ix j x) (I : Inv X pins σ H s)
    (hf : ∀ b ∈ fp, FpOk X pins H b) (hft : ∀ b ∈ fp, b < s.heap.objs.size) (old : ∀ b o, s.heap.get? b = some o → h1.get? b = some o)
    (hD : h1.get? s.heap.objs.size = some { cls := .type "list", data := .seq ([] : List Value).toArray 0 }) (hns : h1.Ns (s.heap.objs.size + 1) fun _ => none) :
    Inv (cxComp X M scope (s.heap.objs.size + 1) s H fp) [] (cap ix σ) (upd H s.heap.objs.size (.lst [])) { s with heap := h1 } := by
  have frees : ∀ y ∈ scope.names, y.2 = .free → ∃ c, X.env.cells.lookup y.1 = some c := fun y hy e => I.ok.has y.1 (S.free y hy e)
  have clin : ∀ y c, (clOf X.env.cells scope.names []).lookup y = some c → X.env.cells.lookup y = some c := fun y c h => clOf_acc scope.names [] y c frees (fun c hc => by simp at hc) h
  have hfr : H s.heap.objs.size = none := I.hok.fresh (Nat.le_refl _)
  have hclt : ∀ y c, (clOf X.env.cells scope.names []).lookup y = some c → c < s.heap.objs.size := fun y c h => by
    obtain ⟨v, q⟩ := I.cell y c (clin y c h)
    exact q.lt
  refine ⟨⟨I.ok.mod, S.kind, I.ok.glob, I.ok.blt, Nat.le_succ _, fun y z c e1 e2 => I.ok.inj y z c (clin y c e1) (clin z c e2), fun y hy => ?_, fun y c e _ => absurd (show false = true from e) (by simp), I.ok.hd, I.ok.frames, .inl rfl,
      fun b hb => ⟨Nat.ne_of_lt (Nat.lt_succ_of_lt (hft b hb)), fun y c e => (hf b hb).2.2.2.2.1 y c (clin y c e)⟩, I.bs, Nat.le_trans I.ok.bsz I.sz, fun b o e hb => ?_, fun b hb z => ?_, I.stack, I.stkFree⟩,
    rfl, I.bare, Un.laid old (Nat.le_refl _) hfr, ⟨fun _ => none, hns, fun k y v e1 e2 e3 => ?_⟩, fun y c e => ?_, ?_, fun y c e => ?_, fun p hp => absurd (show p ∈ ([] : List (Addr × Obj)) from hp) (by simp), ?_, ?_⟩
  · exact clOf_has scope.names [] y (lookup_relabel (env := X.env) hy S.nocell)
  · rcases (hf b hb).2.2.2.1 with z | z
    · exact I.ok.noex b o e z
    · exact absurd (Nat.lt_of_lt_of_le (Heap.lt_size e) (Nat.le_trans I.ok.bsz z)) (Nat.lt_irrefl _)
  · exact (List.mem_cons.mp (I.stkSub b z)).elim (hf b hb).2.1 (hf b hb).2.2.1
  · -- a captured name
    have hix : ∃ i, ix[k]? = some (some i) ∧ σ[i]? = some (some v) := by
      unfold cap at e2
      rw [List.getElem?_map] at e2
      cases q : ix[k]? with
      | none => rw [q] at e2; cases e2
      | some o =>
        cases o with
        | none => rw [q] at e2; cases e2
        | some i =>
          rw [q] at e2
          refine ⟨i, rfl, ?_⟩
          have e2' : some ((σ[i]?).getD none) = some (some v) := e2
          have e3' := Option.some.inj e2'
          cases q2 : σ[i]? with
          | none => rw [q2] at e3'; cases e3'
          | some z => rw [q2] at e3'; exact congrArg some e3'
    obtain ⟨i, hi, hv⟩ := hix
    obtain ⟨c1, c2, c3⟩ := S.capt k y i e1 hi
    obtain ⟨m, hn, hl⟩ := I.loc
    obtain ⟨u, r, l⟩ := hl i y v c1 hv (.inr c2)
    refine ⟨u, r, ?_⟩
    rcases l with ⟨l, _⟩ | ⟨_, c, hc, hcell⟩
    · exfalso
      have l' : X.env.scope.names.lookup y = some .local := l
      rcases c2 with c2 | c2 <;> (rw [l'] at c2; cases c2)
    · have hmem : (y, NameKind.free) ∈ scope.names := PySem.mem_of_lookup c3
      obtain ⟨c', hc'⟩ := clOf_has (cells := X.env.cells) scope.names [] y hmem
      have ecc : c' = c := Option.some.inj ((clin y c' hc').symm.trans hc)
      subst ecc
      have hk : (relabel scope X.env).names.lookup y = some .cell ∨ (relabel scope X.env).names.lookup y = some .free := by
        rw [relabel_eq, rlb_lookup, c3]
        rcases rlb_of_free (env := X.env) (x := y) with z | z
        · exact .inl (congrArg some z)
        · exact .inr (congrArg some z)
      obtain ⟨oc, ho, hd⟩ := hcell
      exact .inr ⟨hk, c', hc', oc, old c' oc ho, hd⟩
  · obtain ⟨v, oc, ho, hd⟩ := I.cell y c (clin y c e)
    exact ⟨v, oc, old c oc ho, hd⟩
  · show upd H s.heap.objs.size (.lst []) (s.heap.objs.size + 1) = none
    rw [upd_ne (Nat.succ_ne_self _)]
    exact I.hok.fresh (Nat.le_succ _)
  · show upd H s.heap.objs.size (.lst []) c = none
    rw [upd_ne (Nat.ne_of_lt (hclt y c e))]
    exact I.freeC y c (clin y c e)
  · exact I.hok.laid old (Nat.le_refl _) ⟨Nat.zero_le _, [], 0, .nil, hD⟩
  · show (cap ix σ).length = M.length
    unfold cap
    rw [List.length_map, S.len]
theorem comp_end {pins : List (Addr × Obj)} {σ σ' : St} {H H' : Hp} {s s' : Shared} {fp : List Addr} {C : Addr} (I : Inv X pins σ H s) (hC : s.heap.objs.size ≤ C) (hf : ∀ b ∈ fp, FpOk X pins H b)
    (I' : Inv (cxComp X M scope C s H fp) [] σ' H' s') {h' : Heap} (hb : Heap.SameBut C s'.heap h') : Inv X pins σ H' { s' with heap := h' } := by
  have ne : ∀ b o, s.heap.get? b = some o → b ≠ C := fun b o e => Nat.ne_of_lt (Nat.lt_of_lt_of_le (Heap.lt_size e) hC)
  have k : ∀ b o, b ≠ C → s'.heap.get? b = some o → h'.get? b = some o := fun b o hn e => hb.extBut b o hn e
  have u : Un (frs X.stack) fp H H' s.heap s'.heap := I'.base
  have hHC : H' C = none := I'.free
  have u2 : Un (frs X.stack) fp H H' s.heap h' := by
    refine ⟨fun b o e n h1 h2 => k b o (ne b o e) (u.keep b o e n h1 h2), fun b o e n h1 h2 => ?_, fun b o e n h1 => u.free b o e n h1, fun b o e h1 => ?_, u.tups, u.frzs, u.tbls⟩
    · obtain ⟨sl, q⟩ := u.slot b o e n h1 h2
      exact ⟨sl, k b _ (ne b o e) q⟩
    · obtain ⟨o', q⟩ := u.there b o e h1
      exact ⟨o', k b o' (ne b o e) q⟩
  have hok : HOk X.prog X.w H' h' := fun b o e => (I'.hok b o e).stay (fun c v hc q => k c v (fun z => by
    subst z
    rcases hc with z | z
    · rw [← z, hHC] at e; cases e
    · rw [hHC] at z; cases z) q) (fun _ q => q) fun _ _ q => q
  exact I.call' (s' := { s' with heap := h' }) I'.os u2 hok I'.bare fun b hb => ⟨(hf b hb).2.2.2.1, (hf b hb).2.1, (hf b hb).2.2.2.2.1, (hf b hb).2.2.2.2.2⟩
theorem set_weak {c : St} {j : Nat} {v : V} (h : c[j]? = some none) : ∀ (i : Nat) (z : V), c[i]? = some (some z) → (c.set j (some v))[i]? = some (some z) := fun i z e => by
  by_cases hij : j = i
  · subst hij; rw [h] at e; cases e
  · rw [List.getElem?_set_ne hij]; exact e
theorem comp_block {elt iter : Expr} {px : Pos} {ifs : List Expr} {pos : Pos} {tf : TT} {te : TE} {pins : List (Addr × Obj)} {σ : St} {H : Hp} {s : Shared} {fp : List Addr} {it : Addr} {tn : Nat → Heap → Prop} {J : It} {h1 : Heap} {tk : Nat} {Q : VK} {R : Result → Shared → Prop}
    (S : CompScope X.env.scope X.N scope M ix j x) (hc : X.calm = true) (I : Inv X pins σ H s)
    (hF : PF (cxComp X M scope (s.heap.objs.size + 1) s H fp) ifs tf) (hE : PE (cxComp X M scope (s.heap.objs.size + 1) s H fp) elt te)
    (T : Turn X.prog X.w X.K (.Name x px) J fp it tn) (st : tn 0 s.heap) (hf : ∀ b ∈ fp, FpOk X pins H b)
    (I0 : Inv (cxComp X M scope (s.heap.objs.size + 1) s H fp) [] (cap ix σ) (upd H s.heap.objs.size (.lst [])) { s with heap := h1, toks := tk }) (old : ∀ b o, s.heap.get? b = some o → h1.get? b = some o)
    (q : CompGo J ix j σ tf te Q H s.heap.objs.size)
    (hR : ∀ H' s', Inv (cxComp X M scope (s.heap.objs.size + 1) s H fp) [] (cap ix σ) H' s' → Q (.ref s.heap.objs.size) H' → R (.ok .next) s') :
    codeAny (model X.prog X.w) X.A (.compLoop (.ListComp elt [⟨.Name x px, iter, ifs, 0⟩] scope pos) 0 (.ref it) (.ref s.heap.objs.size) (compEnvC scope (clOf X.env.cells scope.names []) (s.heap.objs.size + 1) X.env)) R { s with heap := h1, toks := tk } := by
  obtain ⟨W, ⟨m0, w0⟩, turn⟩ := q
  have hD : s.heap.objs.size ∉ fp := fun z => by
    obtain ⟨o, e, _⟩ := T.obj 0 s.heap st _ z
    exact absurd (Heap.lt_size e) (Nat.lt_irrefl _)
  have hlt : ∀ b ∈ fp, b < s.heap.objs.size := fun b hb => by
    obtain ⟨o, e, _⟩ := T.obj 0 s.heap st b hb
    exact Heap.lt_size e
  have stat : ∀ {H' : Hp}, (∀ b ∈ fp, H' b = none) → ∀ b ∈ fp, FpOk (cxComp X M scope (s.heap.objs.size + 1) s H fp) [] H' b := fun hn b hb =>
    ⟨hn b hb, Nat.ne_of_lt (Nat.lt_succ_of_lt (hlt b hb)), I0.ok.exfs b hb, .inl hb, (I0.ok.exf b hb).2, fun p hp => absurd (show p ∈ ([] : List (Addr × Obj)) from hp) (by simp)⟩
  have own := cap_own S.own σ
  refine compLoop_own rfl (fun n s' => ∃ i H', Inv (cxComp X M scope (s.heap.objs.size + 1) s H fp) [] (cap ix σ) H' s' ∧ tn i s'.heap ∧ (∀ b ∈ fp, H' b = none) ∧ W i n H') ?_ m0
    ⟨0, _, I0, T.keep 0 _ _ st fun b _ o e => old b o e, fun b hb => by rw [upd_ne (Nat.ne_of_lt (hlt b hb))]; exact (hf b hb).1, w0⟩
  rintro n s3 ⟨i, H3, I3, st3, fr3, w3⟩
  rcases turn i n H3 w3 with ⟨stop, qn⟩ | ⟨go, step⟩
  · refine wpAny_mono (T.done (cxComp X M scope (s.heap.objs.size + 1) s H fp) rfl rfl rfl hc i [] s3 (cap ix σ) H3 (fun _ _ => False) I3 (stat fr3) st3 stop) (fun r s4 ⟨hr, I4⟩ => ?_) (fun _ _ z => z.elim)
    subst hr
    exact hR H3 s4 I4 qn
  · refine wpAny_mono (T.item (cxComp X M scope (s.heap.objs.size + 1) s H fp) rfl rfl rfl hc i [] s3 (cap ix σ) H3 (fun _ _ => False) I3 (stat fr3) st3 go) (fun r s4 ⟨u, hr, h4⟩ => ?_) (fun _ _ z => z.elim)
    subst hr
    refine wpAny_mono h4 (fun _ s5 ⟨y, H5, I5, r5, y5, st5, fr5⟩ => ?_) (fun _ _ z => z.elim)
    have I5' := I5.pinned (stat fr5) (T.obj _ _ st5)
    have pg : PG (cxComp X M scope (s.heap.objs.size + 1) s H fp) (.Name x px) (gName j) :=
      pg_name S.nd S.tgt (.inl (by show (relabel scope X.env).names.lookup x = some .local; exact lookup_relabel_local S.loc)) (.inr (by show (relabel scope X.env).names.lookup x = some .local; exact lookup_relabel_local S.loc))
    refine wpAny_mono (pg _ s5 (cap ix σ) H5 y u (fun σ2 H2 => σ2 = (cap ix σ).set j (some y) ∧ H2 = H5) I5' r5 ⟨rfl, rfl⟩) (fun _ s6 ⟨σ6, H6, I6, e6, eh6⟩ => ?_) (fun _ _ z => z.elim)
    subst e6; subst eh6
    have again : ∀ {H7 : Hp} {s7 : Shared}, Inv (cxComp X M scope (s.heap.objs.size + 1) s H fp) ([] ++ pinsAt fp s5.heap) ((cap ix σ).set j (some y)) H7 s7 → (∃ m', m' < n ∧ W (i + 1) m' H7) →
        ∃ m, m < n ∧ ∃ i H', Inv (cxComp X M scope (s.heap.objs.size + 1) s H fp) [] (cap ix σ) H' s7 ∧ tn i s7.heap ∧ (∀ b ∈ fp, H' b = none) ∧ W i m H' := fun {H7 s7} I7 ⟨m', hm, w7⟩ => by
      have Iw : Inv (cxComp X M scope (s.heap.objs.size + 1) s H fp) [] (cap ix σ) H7 s7 := (Inv.unpinned (pins := []) I7).weak (by simp) (set_weak own)
      refine ⟨m', hm, i + 1, H7, Iw, T.keep _ _ _ st5 fun b hb o e => (I7.pin (b, o) (List.mem_append_right _ (List.mem_append_right _ (mem_pinsAt hb e)))).1, fun b hb => ?_, w7⟩
      obtain ⟨o, e, d⟩ := T.obj _ _ st5 b hb
      exact (I7.pin (b, o) (List.mem_append_right _ (List.mem_append_right _ (mem_pinsAt hb e)))).2.1
    refine wpAny_mono (hF _ s6 _ _ _ I6 (step y _ y5)) (fun b s7 ⟨H7, I7, q7⟩ => ?_) (fun _ _ z => z.elim)
    cases b with
    | false =>
      simp only [Bool.false_eq_true, if_false] at q7 ⊢
      exact again I7 q7
    | true =>
      simp only [if_true] at q7 ⊢
      refine wpAny_mono (hE _ s7 _ H7 _ I7 q7) (fun v s8 ⟨z, H8, I8, r8, ys, hy, hz, q8⟩ => ?_) (fun _ _ z => z.elim)
      refine wpAny_mono (mt_append (X := cxComp X M scope (s.heap.objs.size + 1) s H fp) _ s8 _ H8 (.ref s.heap.objs.size) [z] (.ref s.heap.objs.size) [v] (fun _ H' => H' = upd H8 s.heap.objs.size (.lst (ys ++ [z]))) I8 rfl (.cons r8 .nil) ⟨s.heap.objs.size, ys, z, rfl, rfl, hy, hz, rfl⟩) (fun w s9 ⟨_, H9, I9, _, e9⟩ => ?_) (fun _ _ z => z.elim)
      subst e9
      exact again I9 q8
theorem pe_comp {elt iter : Expr} {px : Pos} {ifs : List Expr} {pos : Pos} {wi : TI} {tf : TT} {te : TE} (S : CompScope X.env.scope X.N scope M ix j x) (hc : X.calm = true) (hi : PI X (.Name x px) iter wi)
    (hb : ∀ C s H fp, PF (cxComp X M scope C s H fp) ifs tf ∧ PE (cxComp X M scope C s H fp) elt te) (hs : ∀ x, foldedSetIterable iter X.env x = pure x := by intro _; rfl) :
    PE X (.ListComp elt [⟨.Name x px, iter, ifs, 0⟩] scope pos) (tComp wi ix j tf te) := by
  intro pins s σ H Q I h
  rw [eval_ListComp]
  refine wpAny_comprehension_free (use := none) rfl hs (closureFor_cl fun y hy e => I.ok.has y.1 (S.free y hy e)) S.kind S.names (wpAny_mono (hi pins s σ H _ I h) (fun xv s₁ h₁ => wpAny_mono h₁ (fun it s₂ h₂ => ?_) fun _ _ e => e) fun _ _ e => e)
  obtain ⟨it, fp, tn, J, H2, rfl, I2, T, st2, f2, q⟩ := h₂
  refine wpAny_newObj_type (wpAny_newFunctionEnv S.nocell (by intro y hy; simp at hy) (fun h₁ hns₁ hsb₁ => ?_) S.kind)
  dsimp only at hns₁ hsb₁ ⊢
  have hC : (s₂.heap.push { cls := .type "list", dict := none, data := .seq ([] : List Value).toArray }).objs.size = s₂.heap.objs.size + 1 := Heap.size_push ..
  rw [hC] at hns₁ hsb₁ ⊢
  have below : ∀ b, b < s₂.heap.objs.size → b ≠ s₂.heap.objs.size + 1 := fun b hb => Nat.ne_of_lt (Nat.lt_succ_of_lt hb)
  have old : ∀ b o, s₂.heap.get? b = some o → h₁.get? b = some o := fun b o e => hsb₁.extBut b o (below b (Heap.lt_size e)) (Heap.get?_push_of_some _ (Heap.get?_push_of_some _ e))
  have hD : h₁.get? s₂.heap.objs.size = some { cls := .type "list", data := .seq ([] : List Value).toArray 0 } := hsb₁.extBut _ _ (Nat.ne_of_lt (Nat.lt_succ_self _)) (Heap.get?_push_of_some _ (Heap.get?_push_size _ rfl))
  have ns : h₁.Ns (s₂.heap.objs.size + 1) fun _ => none := hns₁
  have hft : ∀ b ∈ fp, b < s₂.heap.objs.size := fun b hb => by
    obtain ⟨o, e, _⟩ := T.obj 0 s₂.heap st2 b hb
    exact Heap.lt_size e
  have I0 := (comp_start (h1 := h₁) S I2 f2 hft old hD ns).tok s₂.toks
  have hfr : H2 s₂.heap.objs.size = none := I2.hok.fresh (Nat.le_refl _)
  have loop : codeAny (model X.prog X.w) X.A (.compLoop (.ListComp elt [⟨.Name x px, iter, ifs, 0⟩] scope pos) 0 (.ref it) (.ref s₂.heap.objs.size) (compEnvC scope (clOf X.env.cells scope.names []) (s₂.heap.objs.size + 1) X.env))
      (compPost (model X.prog X.w) X.A X.xe none (EP X pins σ Q) (.ref s₂.heap.objs.size) (s₂.heap.objs.size + 1)) { s₂ with heap := h₁, toks := s₂.toks } := by
    refine comp_block (Q := Q) S hc I2 (hb _ _ _ _).1 (hb _ _ _ _).2 T st2 f2 I0 old (q _ hfr) fun H' s' I' qq => ?_
    obtain ⟨m, hn, _⟩ := I'.loc
    exact ⟨m, hn, fun h' hb' => ⟨.ref s₂.heap.objs.size, H', comp_end I2 (Nat.le_succ _) f2 I' hb', rfl, qq⟩⟩
  exact codeAny_compStart_list loop (T.self _ 0 _ _ _ (T.keep 0 _ _ st2 fun b _ o e => old b o e) loop)
end
end L2
namespace L2
open PySem PySem.Spec PyProof.Rows
section
variable {X : Cx}
noncomputable def Its (z : Str) : It := ⟨fun i _ => i < z.cps.size, fun i H x H' => H' = H ∧ ∃ c, z.cps[i]? = some c ∧ x = .str ⟨#[c]⟩, fun i _ => z.cps.size ≤ i⟩
theorem turn_str {P : Program} {w : World} {K : PySem.W.Frag} {x : Str} {px : Pos} (it : Addr) (z : Str) (t : Tok) (ty : String) (hty : ty = "str_ascii_iterator" ∨ ty = "str_iterator") :
    Turn P w K (.Name x px) (Its z) [it] it (fun i h => h.IsStrIter it ty z t i ∧ i ≤ z.cps.size) where
  mem := by simp
  obj := fun i h st b hb => by
    have e : b = it := by simpa using hb
    subst e
    obtain ⟨⟨o, e, c, d⟩, _⟩ := st
    exact ⟨o, e, fun v z => by rw [d] at z; cases z⟩
  keep := fun i h h' st k => by
    obtain ⟨⟨o, e, c, d⟩, z⟩ := st
    exact ⟨⟨o, k it (by simp) o e, c, d⟩, z⟩
  item := by
    intro X hP hw hK hc i pins s σ H E I hf st hg
    subst hP hw hK
    obtain ⟨f0, f1, f2, f3, f4, f5⟩ := hf it (by simp)
    have hi : i < z.cps.size := hg
    have fin : ∀ h' : Heap, h'.IsStrIter it ty z t (i + 1) → Heap.SameBut it s.heap h' → ∃ u, some (Value.str ⟨#[z.cps[i]]⟩ s.toks) = some u ∧
        wpAny (model X.prog X.w) X.A (letOwnedTupleGo (.Name x px) (.ref it) u) (fun _ s2 => ∃ x H', Inv X pins σ H' s2 ∧ RelV x u ∧ (Its z).yld i H x H' ∧ (s2.heap.IsStrIter it ty z t (i + 1) ∧ i + 1 ≤ z.cps.size) ∧ ∀ b ∈ [it], H' b = none) E { s with heap := h', toks := s.toks + 1 } := fun h' st' sb => by
      have I1 : Inv X pins σ H { s with heap := h', toks := s.toks + 1 } := I.turned (fun b o hb e => sb.extBut b o hb e) f0 f1 f3 f4 f5
      exact ⟨_, rfl, wpAny_pure ⟨.str ⟨#[z.cps[i]]⟩, H, I1, ⟨_, rfl⟩, ⟨rfl, _, by simp [hi], rfl⟩, ⟨st', hi⟩, fun b hb => (hf b hb).1⟩⟩
    rcases hty with rfl | rfl
    · exact wpAny_pyNext_ascii_item st.1 (c := z.cps[i]) (by simp [hi]) fin
    · exact wpAny_pyNext_wide_item st.1 (c := z.cps[i]) (by simp [hi]) fin
  done := by
    intro X hP hw hK hc i pins s σ H E I hf st hg
    subst hP hw hK
    obtain ⟨f0, f1, f2, f3, f4, f5⟩ := hf it (by simp)
    have hi : z.cps.size ≤ i := hg
    rcases hty with rfl | rfl
    · exact wpAny_pyNext_ascii_end (I.ok.hd hc) st.1 (by simpa using hi) fun h' eb => ⟨rfl, I.turned (t' := s.toks) (fun b o hb e => eb b o hb e) f0 f1 f3 f4 f5⟩
    · exact wpAny_pyNext_wide_end (I.ok.hd hc) st.1 (by simpa using hi) fun h' eb => ⟨rfl, I.turned (t' := s.toks) (fun b o hb e => eb b o hb e) f0 f1 f3 f4 f5⟩
  self := fun _ _ _ _ _ st h => by
    rcases hty with rfl | rfl
    · exact wpAny_pyIter_striter_ascii st.1 h
    · exact wpAny_pyIter_striter_wide st.1 h
noncomputable def rSlS : V → Option Int → Option Int → Hp → VK → Prop := fun x lo hi H Q => ∃ z, x = .str z ∧ z.length ≤ sizeLine ∧ Q (.str (Txt.slice z lo hi)) H
theorem sl_str : SlR X rSlS := by
  intro pins s σ H x v vl vu lo hi sl Q I rx hs pl pu h
  obtain ⟨z, rfl, hz, q⟩ := h
  obtain ⟨t, rfl⟩ := rx
  obtain ⟨l, el1, el2⟩ : ∃ l : Option (Int × Tok), vl = partValue l ∧ l.map (·.1) = lo := by
    cases pl with
    | none => exact ⟨none, rfl, rfl⟩
    | int i u => exact ⟨some (i, u), rfl, rfl⟩
  obtain ⟨u, eu1, eu2⟩ : ∃ u : Option (Int × Tok), vu = partValue u ∧ u.map (·.1) = hi := by
    cases pu with
    | none => exact ⟨none, rfl, rfl⟩
    | int i u => exact ⟨some (i, u), rfl, rfl⟩
  subst el1 eu1 el2 eu2
  refine ⟨"str", _, F.slot_str_getitem.lookup, typeIs_str _ _ _, ?_⟩
  refine wpAny_getItem_str_slice (l := l) (u := u) (st := none) hs rfl ?_
  exact post_val_or_str ⟨Nat.le_trans (Txt.slice_le z _ _) hz, fun t' k => ⟨.str (Txt.slice z (l.map (·.1)) (u.map (·.1))), H, I.tok k, ⟨_, rfl⟩, q⟩⟩
theorem strsAre_of : ∀ {ys : List Str} {us : List Value}, Vals (ys.map V.str) us → StrsAre us ys
  | [], us, h => by
    cases us with
    | nil => exact .nil
    | cons _ _ => cases h
  | y :: ys, us, h => by
    cases us with
    | nil => cases h
    | cons u us =>
      cases h with
      | cons r t =>
        obtain ⟨k, rfl⟩ := (show ∃ k, u = Value.str y k from r)
        exact .cons y k (strsAre_of t)
noncomputable def rJoin (K : PySem.W.Frag) : V → List V → Hp → VK → Prop := fun x vs H Q => ∃ z p ys, x = .str z ∧ vs = [.ref p] ∧ SqL K H p (ys.map V.str) ∧ (ys.map (·.length)).sum + ys.length * z.length ≤ 16777216 ∧ Q (.str (Txt.join z ys)) H
theorem mt_join : MtR X "str.join" (rJoin X.K) := by
  intro pins s σ H x xs v us Q I rx rs h
  obtain ⟨z, p, ys, rfl, rfl, hq, hz, q⟩ := h
  obtain ⟨t, rfl⟩ := rx
  obtain ⟨u, rfl, ru⟩ := rs.one
  cases ru
  obtain ⟨its, r, pl, _⟩ := I.list hq
  exact join_list pl.isList (by simpa using strsAre_of r) hz fun t' k => ⟨.str (Txt.join z ys), H, I.tok k, ⟨_, rfl⟩, q⟩
theorem truth_bl {prog : Program} {w : World} {A : Around} {bs : List Bool} {us : List Value} (h : Vals (bs.map V.bl) us) : TruthOf prog w A (fun i v => us.toArray[i]? = some v) (fun i => (bs[i]?).getD true) := fun i v s Q E hv hq => by
  have hv' : us[i]? = some v := by simpa using hv
  have hi : i < us.length := (List.getElem?_eq_some_iff.mp hv').1
  have hl := h.length
  rw [List.length_map] at hl
  have hb : bs[i]? = some bs[i] := by simp
  obtain ⟨u, hu, ru⟩ := h.get (i := i) (x := .bl bs[i]) (by rw [List.getElem?_map, hb]; rfl)
  rw [hv'] at hu
  cases hu
  cases ru
  refine wpAny_truthy_bool ?_
  have hq' : Q ((bs[i]?).getD true) s := hq
  rw [hb] at hq'
  exact hq'
theorem all_range (bs : List Bool) : (List.range bs.length).all (fun i => (bs[i]?).getD true) = bs.all id := by
  rw [Bool.eq_iff_iff, List.all_eq_true, List.all_eq_true]
  constructor
  · intro h b hb
    obtain ⟨i, hi, rfl⟩ := List.mem_iff_getElem.mp hb
    have q := h i (by simpa using hi)
    simpa [hi] using q
  · intro h i hi
    have hi' : i < bs.length := by simpa using hi
    have q := h bs[i] (List.getElem_mem hi')
    simpa [hi'] using q
theorem list_iter1 {A : Around} {p : Addr} {its : List Value} {pins : List (Addr × Obj)} {σ : St} {H : Hp} {s : Shared} (I : Inv X pins σ H s) (pl : PlainL s.heap p its.toArray) (hh : A.handled = none) (Q : Value → Shared → Prop) (E : Value → Shared → Prop)
    (h : ∀ J : Addr, H J = none → Walks X.prog X.w A J [J, p] [J] its.length (fun i v => its.toArray[i]? = some v) (fun i h => h.IsListIter J p i ∧ h.IsList p its.toArray) → ∀ s2 : Shared, s2.heap.IsListIter J p 0 ∧ s2.heap.IsList p its.toArray →
      (∀ h' tk, (∀ b o, b ∉ [J] → s2.heap.get? b = some o → h'.get? b = some o) → Inv X pins σ H { s2 with heap := h', toks := tk }) → Q (.ref J) s2) : wpAny (model X.prog X.w) A (pyIter (.ref p)) Q E s := by
  refine wpAny_pyIter_list pl.isList ?_
  have hne : p ≠ s.heap.objs.size := Nat.ne_of_lt (by obtain ⟨o, e, _⟩ := pl.isList; exact Heap.lt_size e)
  have hn : H s.heap.objs.size = none := I.hok.fresh (Nat.le_refl _)
  have W := Walks.list (prog := X.prog) (w := X.w) hh s.heap.objs.size p hne its.toArray
  rw [List.size_toArray] at W
  refine h s.heap.objs.size hn W _ ⟨⟨_, Heap.get?_push_size _ rfl, rfl, rfl⟩, ?_⟩ fun h' tk hk => ?_
  · obtain ⟨o, e, r⟩ := pl.isList
    exact ⟨o, Heap.get?_push_of_some _ e, r⟩
  · exact I.kept (t' := tk) fun b o e => hk b o (by
      intro z
      have : b = s.heap.objs.size := by simpa using z
      subst this
      exact absurd (Heap.lt_size e) (Nat.lt_irrefl _)) (Heap.get?_push_of_some _ e)
theorem call_all (hc : X.calm = true) : CallR X (.builtin "all") (fun xs H Q => ∃ (p : Addr) (bs : List Bool), xs = [.ref p] ∧ SqL X.K H p (bs.map V.bl) ∧ Q (.bl (bs.all id)) H) := by
  intro pins s σ H xs us Q I rs h
  obtain ⟨p, bs, rfl, hq, q⟩ := h
  obtain ⟨u, rfl, ru⟩ := rs.one
  cases ru
  obtain ⟨its, r, pl, _⟩ := I.list hq
  have hl : bs.length = its.length := by have := r.length; rwa [List.length_map] at this
  refine call_all_walk (list_iter1 I pl (show X.A.in1.handled = none from I.ok.hd hc) _ _ fun J hJ W s2 st k => ⟨J, _, _, _, _, _, _, rfl, W, st, truth_bl r, fun h' tk hk => ⟨.bl (bs.all id), H, k h' tk hk, ?_, q⟩⟩)
  rw [← hl, all_range]
  rfl
theorem call_isinst : CallR X (.builtin "isinstance") (fun xs H Q => ∃ x t T b, xs = [x, .ty T] ∧ TyOf X.K H x t ∧ PySem.W.kitOne X.K t (.type T) = some b ∧ Q (.bl b) H) := by
  intro pins s σ H xs us Q I rs h
  obtain ⟨x, t, T, b, rfl, ty, e, q⟩ := h
  obtain ⟨u, v, rfl, ru, rv⟩ := rs.two
  cases rv
  exact isinst_ok I ru ty e fun tk => ⟨.bl b, H, I.tok tk, rfl, q⟩
noncomputable def rCatS (K : PySem.W.Frag) : R2 := fun x y H Q => ∃ l b xs zs, x = .ref l ∧ y = .ref b ∧ SqL K H l xs ∧ SqL K H b zs ∧ xs.length + zs.length ≤ sizeLine ∧ ∀ p, H p = none → Q (.ref p) (upd H p (.lst (xs ++ zs)))
theorem op_catS : OpR X (binaryOp .Add) (rCatS X.K) := by
  intro pins s σ H x y v u Q I rx ry h
  obtain ⟨l, b, xs, zs, rfl, rfl, hH, hB, hz, q⟩ := h
  cases rx
  cases ry
  obtain ⟨its, r, pl, _⟩ := I.list hH
  obtain ⟨its2, r2, pl2, _⟩ := I.list hB
  have l1 := r.length
  have l2 := r2.length
  obtain ⟨⟨cls, dd, data, sl⟩, n, ho, hc, hd0, hd⟩ := pl
  obtain ⟨⟨cls2, dd2, data2, sl2⟩, n2, ho2, hc2, hd02, hd2⟩ := pl2
  simp only at hc hd hc2 hd2
  subst hc hd hc2 hd2
  refine concat_meets ⟨_, ho, rfl⟩ ⟨_, ho2, rfl⟩ noFill_list_add seq_list_add PySem.F.slot_list_add PySem.F.entry_list_add (PySem.F.args_list_add_2 _ _)
    (list_addW l b its.toArray its2.toArray n n2 dd dd2 sl sl2 (by rw [List.size_toArray, List.size_toArray]; omega)) ⟨ho, ho2, ?_⟩
  have ea : its.toArray ++ its2.toArray = (its ++ its2).toArray := by simp
  rw [ea]
  exact ⟨.ref _, _, I.lnew (t' := s.toks) (r.append r2) (by rw [List.length_append]; omega), rfl, q _ I.fresh⟩
theorem op_le_str : OpR X (compareOp .LtE) (fun x y H Q => ∃ i j, x = .str i ∧ y = .str j ∧ Q (.bl (!(decide (j.cps.toList < i.cps.toList)))) H) := by
  intro pins s σ H x y v u Q I rx ry h
  obtain ⟨i, j, rfl, rfl, q⟩ := h
  obtain ⟨t, rfl⟩ := rx
  obtain ⟨t', rfl⟩ := ry
  exact P.le_str (fin_bl I q rfl)
noncomputable def CDivB (i j : Int) : Prop := 0 < j ∧ j ≤ 10 ^ 30
theorem op_fdivB : OpR X (binaryOp .FloorDiv) (rI CDivB fun i j => .int (i / j)) := opI fun i j _ _ _ _ _ hc q => by
  have h0 : j ≠ 0 := by have := hc.1; omega
  refine floordiv_int h0 ?_ (.inl (PyProof.noPylong_of_log2 ?_))
  · rw [Int.fdiv_eq_ediv_of_nonneg _ (Int.le_of_lt hc.1)]; exact q
  · have h1 : j.natAbs ≠ 0 := by omega
    have h2 : j.natAbs < 2 ^ 100 := by
      have h3 := hc.2
      have h4 := hc.1
      have e : (10 : Int) ^ 30 < 2 ^ 100 := by decide
      have h5 : ((j.natAbs : Nat) : Int) = j := by omega
      omega
    have := (Nat.log2_lt h1).mpr h2
    omega
end
end L2
namespace L2
open PySem PySem.Spec PyProof.Rows
section
variable {P : Program} {w : World} {H : Hp} {h h' : Heap} {a : Addr} {o : HO}
theorem ObjOk.stands (x : ObjOk P w H h a o) : ∃ u, h.get? a = some u := by
  cases o with
  | lst xs => obtain ⟨_, _, _, _, e⟩ := x; exact ⟨_, e⟩
  | tup xs => obtain ⟨_, _, _, p⟩ := x; obtain ⟨u, e, _⟩ := p; exact ⟨u, e⟩
  | dK kvs => obtain ⟨_, _, _, _, u, _, _, e, _⟩ := x; exact ⟨u, e⟩
  | dT kvs => obtain ⟨_, _, _, _, u, _, _, e, _⟩ := x; exact ⟨u, e⟩
  | set S n => obtain ⟨u, _, _, _, e, _⟩ := x; exact ⟨u, e⟩
  | ins C dx fs => obtain ⟨_, _, _, e, _⟩ := x; exact ⟨_, e⟩
  | own y => exact x
  | xd fs => obtain ⟨_, ⟨u, _, _, e, _⟩, _⟩ := x; exact ⟨u, e⟩
  | rng lo hi => obtain ⟨_, _, _, e⟩ := x; exact ⟨_, e⟩
  | frz ob u => obtain ⟨e, _⟩ := x; exact ⟨ob, e⟩
  | tbl ps => exact ⟨_, x⟩
  | met f y => exact ⟨_, x⟩
  | ext φ => exact x.2.1
theorem HOk.none_of (x : HOk P w H h) (e : h.get? a = none) : H a = none := by
  cases q : H a with
  | none => rfl
  | some u =>
    obtain ⟨o, z⟩ := (x a u q).stands
    rw [e] at z; cases z
theorem HOk.laidN (x : HOk P w H h) (k : ∀ b u, h.get? b = some u → h'.get? b = some u) (hn : H a = none) (new : ObjOk P w (upd H a o) h' a o) : HOk P w (upd H a o) h' := fun b u e => by
  by_cases hb : b = a
  · subst hb; rw [upd_same] at e; cases e; exact new
  · rw [upd_ne hb] at e
    exact (x b u e).stay (fun c v _ q => k c v q) (fun c q => by rw [upd_ne (ne_of_none q hn)]; exact q) fun c xs q => by rw [upd_ne (ne_of_none q hn)]; exact q
theorem Un.laidN {fs ex : List Addr} (k : ∀ b u, h.get? b = some u → h'.get? b = some u) (hp : h.get? a = none) (hn : H a = none) : Un fs ex H (upd H a o) h h' where
  keep := fun b u q _ _ _ => k b u q
  slot := fun b u q _ _ _ => ⟨u.slots, k b u q⟩
  free := fun b u q n _ => by rw [upd_ne (fun z => by subst z; rw [hp] at q; cases q)]; exact n
  there := fun b u q _ => ⟨u, k b u q⟩
  tups := fun b xs q => by rw [upd_ne (ne_of_none q hn)]; exact q
  frzs := fun b u xs q => by rw [upd_ne (ne_of_none q hn)]; exact q
  tbls := fun b ps q => ⟨#[], by rw [upd_ne (ne_of_none q hn), q]; simp⟩
end
section
variable {X : Cx}
noncomputable def XAt (e C : Addr) (h : Heap) : Prop := ∃ ob, h.get? e = some ob ∧ ob.cls = .ref C
noncomputable def excO (e C : Addr) : HO := .ext (XAt e C)
noncomputable abbrev bmV : List Value := [.type "ValueError", .type "Exception", .type "BaseException", .type "object"]
theorem exc_parts {K : PySem.W.Frag} {h : Heap} {C : Addr} {bmB : List Value} {newId : String} (XK : K.In h) (q : PySem.W.excIn K C bmB newId = true) :
    ∃ bm ns nm qn bs hd sn sub ab col dd k0 k1 k2 k3 k5, ∃ mN : Str → Option Value, h.get? C = some (excClassObj nm qn C ns bs bm hd sn sub ab col dd k0 k1 k2 k3 k5 newId) ∧ h.Ns ns mN ∧ mN "__init__" = none ∧ OwnTail h bmB bm := by
  unfold PySem.W.excIn at q
  split at q
  · rename_i dd cd sl ho
    split at q
    · rename_i C' bm k0 k1 k2 k3 n k5 hm hs
      simp only [Bool.and_eq_true, beq_iff_eq, Bool.not_eq_true'] at q
      obtain ⟨⟨⟨⟨⟨e1, e2⟩, hdel⟩, ht⟩, hok⟩, hni⟩ := q
      subst e1 e2
      obtain ⟨nm, bs, mro, ns, qn, hd, sn, sub, ab, col, del⟩ := cd
      dsimp only at hm hdel hok hni
      subst hm hdel
      have hsl : sl = #[k0, k1, k2, k3, some (.builtin n), k5] := by
        obtain ⟨l⟩ := sl
        have hs' : l = [k0, k1, k2, k3, some (.builtin n), k5] := hs
        rw [hs']
      subst hsl
      exact ⟨bm, ns, nm, qn, bs, hd, sn, sub, ab, col, dd, k0, k1, k2, k3, k5, _, XK _ _ ho, .of_isNs (PySem.W.isNs_of_in XK hok), PySem.W.nsMap_none_of_in XK hok hni, PySem.W.tail_of_in XK ht⟩
    · cases q
  · cases q
theorem xat_type {M : Model} {e C : Addr} {h : Heap} (p : XAt e C h) : PySem.W.Looks M h (typeOf (.ref e)) (.ref C) := by
  obtain ⟨ob, h1, h2⟩ := p
  exact h2 ▸ (PySem.W.Looks.ld h1).andThen .now
open Builtin Builtin.ObjectAttr Builtin.Getset_descriptor in
theorem cls_get {K : PySem.W.Frag} {prog : Program} {w : World} {A : Around} {R : Result → Shared → Prop} {s : Shared} {e C : Addr} {tp : Value} (XK : K.In s.heap) (p : XAt e C s.heap) (hm : PySem.W.mroIn K C (.type "object") = some true)
    (z : R (.ok (.ret (.ref C))) s) : codeAny (model prog w) A (.call (.builtin "getset_descriptor.__get__") ⟨[.builtin "object.__class__", .ref e, tp], []⟩) R s := by
  obtain ⟨h0, g0, d0, t0, o0⟩ := s
  have T0 := xat_type (M := model prog w) p
  have T1 := PySem.W.looks_mroIn (M := model prog w) XK hm
  refine codeAny_call_builtin PySem.W.KF.slot_gs.plain PySem.W.KF.entry_gs (PySem.W.KF.slot_gs.check _ _ _ _ _ _ _ _ PySem.W.KF.type_class (PySem.W.KF.args_gs _ _ _) ?_)
  unfold Builtin.«getset_descriptor.__get__»
  unfold descrGet
  rw [PySem.W.dga_obj]
  refine wpAny_bind (wpAny_pure ?_)
  unfold descrGetter; unfold descrCheckInstance
  unfold descrNameAndClass; unfold isInstance
  simp only [PySem.W.KF.owner_class]
  repeat lk
  refine ⟨Code.quiet_builtin _ (by decide +kernel), codeAny_builtin PySem.W.KF.entry_class ?_⟩
  unfold Builtin.«object.__class__»; unfold shownTypeOf
  repeat lk
  exact z
theorem exc_class {K : PySem.W.Frag} {prog : Program} {w : World} {A : Around} {E : Value → Shared → Prop} {Q : Option Value → Shared → Prop} {s : Shared} {e C : Addr}
    (pg : PySem.W.findIn K (.ref C) "__getattribute__" = some (some (.builtin "BaseException.__getattribute__"))) (pt : PySem.W.findIn K (.ref C) "__getattr__" = some none)
    (hf : ∀ M : Model, PySem.W.Looks M s.heap (Builtin.ObjectAttr.find (.ref e) (.ref C) "__class__") (.bind (.builtin "getset_descriptor.__get__") (.builtin "object.__class__")))
    (hm : PySem.W.mroIn K C (.type "object") = some true) (hb : PySem.W.mroIn K C (.type "BaseException") = some true)
    (XK : K.In s.heap) (p : XAt e C s.heap) (k : Q (some (.ref C)) { s with toks := s.toks + 1 }) : wpAny (model prog w) A (getAttr? (.ref e) "__class__") Q E s := by
  obtain ⟨h, g, d, t, os⟩ := s
  have L0 := xat_type (M := model prog w) p
  have L1 := PySem.W.looks_findIn (M := model prog w) XK pg
  have L2 := PySem.W.looks_findIn (M := model prog w) XK pt
  have L3 := hf (model prog w)
  have L4 := PySem.W.looks_mroIn (M := model prog w) XK hb
  have hx2 : (Value.builtin "BaseException.__getattribute__" == Value.builtin "object.__getattribute__") = false := by decide +kernel
  have f3 := F.excAttr_ValueError.ga.bind (.ref e)
  unfold getAttr? getAttrBy? getAttrBy
  refine wpAny_bind (wpAny_mkText (wpAny_bind (wpAny_attempt (wpAny_holding (wpAny_bind (L0.at (wpAny_bind (L1.at ?_))))))))
  show wpAny _ _ (if (onTheHeap (.ref C) && Value.builtin "BaseException.__getattribute__" == Value.builtin "object.__getattribute__") = true then _ else _) _ _ _
  rw [hx2, Bool.and_false, if_neg Bool.false_ne_true]
  unfold getAttrByItsOwn
  refine wpAny_bind ?_
  show wpAny _ _ (typeLookup (.ref C) "__getattr__") _ _ _
  refine L2.at ?_
  refine wpAny_bind (wpAny_attempt (wpAny_holding ?_))
  show wpAny _ _ (boundAndCalled _ _ _) _ _ _
  unfold boundAndCalled
  rw [f3]
  refine wpAny_bind (wpAny_pure ?_)
  refine wpAny_call (codeAny_call_builtin F.excAttr_ValueError.ga.plain F.entry_bexc_ga ?_)
  have hk : builtinKind "BaseException.__getattribute__" = some .slot := by decide +kernel
  have hsplit : splitId "BaseException.__getattribute__" = some ("BaseException", "__getattribute__") := by decide +kernel
  have ha := F.args_bexc_ga (.ref e) (.str "__class__" t)
  simp only [checkBuiltinCall, hk, hsplit]
  refine wpAny_bind ?_
  unfold isInstance
  refine wpAny_bind (L0.at (L4.at ?_))
  rw [if_neg (by decide)]
  refine wpAny_of_eq ha ?_
  show wpAny _ _ (Builtin.«object.__getattribute__» ⟨[.ref e, .str "__class__" t], []⟩) _ _ _
  unfold Builtin.«object.__getattribute__»
  refine wpAny_bind (wpAny_of_eq (a := (Value.ref e, [Value.str "__class__" t])) rfl ?_)
  refine wpAny_bind (wpAny_pure ?_)
  refine wpAny_bind (L0.at (wpAny_bind (L3.at ?_)))
  show wpAny _ _ (holding [Value.builtin "object.__class__"] (call (.builtin "getset_descriptor.__get__") [.builtin "object.__class__", .ref e, .ref C]) >>= ret) _ _ _
  refine wpAny_bind (wpAny_holding (wpAny_call (cls_get XK p hm ?_)))
  exact wpAny_pure (PySem.W.handed_on rfl (wpAny_pure k))
structure ExcK (K : PySem.W.Frag) (C : Addr) : Prop where
  pg : PySem.W.findIn K (.ref C) "__getattribute__" = some (some (.builtin "BaseException.__getattribute__"))
  pt : PySem.W.findIn K (.ref C) "__getattr__" = some none
  hb : PySem.W.mroIn K C (.type "BaseException") = some true
  ci : (PySem.W.clsIn K C).isSome = true
  ha : PySem.W.findIn K (.ref C) "__class__" = some (some (.builtin "object.__class__"))
  hn : PySem.W.specialIn K (.builtin "object.__class__") "__get__" = some (some (.builtin "getset_descriptor.__get__"))
  htk : PySem.W.takesIn K (.builtin "object.__class__") = some true
  hm : PySem.W.mroIn K C (.type "object") = some true
theorem kitx_exc {K : PySem.W.Frag} {e C : Addr} (Z : ExcK K C) : PySem.W.KitX K (.ref e) (.ref C) (XAt e C) where
  ty := fun _ _ _ p => xat_type p
  it := fun _ _ XK _ => by
    obtain ⟨cd, hc⟩ := Option.isSome_iff_exists.mp Z.ci
    unfold PySem.W.clsIn at hc
    split at hc
    · rename_i ho
      intro A' Q' E' s' k q
      unfold isType loadHead
      exact wpAny_bind (wpAny_loadPart (k _ _ (XK _ _ ho)) (wpAny_pure q))
    · cases hc
  ne := fun h tp dd its n sl XK htp => by
    obtain ⟨cd, hc⟩ := Option.isSome_iff_exists.mp Z.ci
    refine Bool.eq_false_iff.mpr fun q => ?_
    have ee : C = tp := Value.ref.inj (beq_iff_eq.mp q)
    subst ee
    unfold PySem.W.clsIn at hc
    split at hc
    · rename_i ho
      have z := (XK _ _ ho).symm.trans htp
      cases z
    · cases hc
  ca := fun {prog w A E Q s} XK p k => exc_class Z.pg Z.pt (fun M => (PySem.W.looks_findIn XK Z.ha).andThen ((PySem.W.looks_specialIn XK Z.hn).andThen ((show PySem.W.Looks M s.heap (Builtin.ObjectAttr.dataDescriptor? (some (.builtin "object.__class__")) (some (.builtin "getset_descriptor.__get__"))) (some (_, _)) from (PySem.W.looks_takesIn XK Z.htk).andThen .now).andThen (PySem.W.Looks.tag .now)))) Z.hm Z.hb XK p k
noncomputable def vVal : V → Option Value
  | .ref a => some (.ref a)
  | .ty n => some (.type n)
  | _ => none
theorem call_isinstX : CallR X (.builtin "isinstance") (fun xs H Q => ∃ e C c cv b, xs = [.ref e, c] ∧ H e = some (excO e C) ∧ ExcK X.K C ∧ vVal c = some cv ∧ PySem.W.kitOne X.K (.ref C) cv = some b ∧ Q (.bl b) H) := by
  intro pins s σ H xs us Q I rs h
  obtain ⟨e, C, c, cv, b, rfl, he, Z, hv, hk, q⟩ := h
  obtain ⟨u, v, rfl, ru, rv⟩ := rs.two
  cases ru
  have ev : v = cv := by
    cases c <;> first
      | (cases hv; exact rv)
      | (exact absurd hv (by simp [vVal]))
  subst ev
  have p : XAt e C s.heap := (I.hok e _ he).1
  exact PySem.W.kia_one (kitx_exc Z) I.kIn p hk (fun z => nomatch z) fun tk => ⟨.bl b, H, I.tok tk, rfl, q⟩
end
end L2
namespace L2
open PySem PySem.Spec PyProof.Rows
noncomputable def compOkB (sc : Scope) (N : List Str) (scope : Scope) (M : List Str) (ix : List (Option Nat)) (j : Nat) (x : Str) : Bool :=
  scope.kind == .function
  && scope.names.all (fun y => if y.2 == .local then scope.names.lookup y.1 == some .local else true)
  && scope.names.all (fun y => y.2 != .cell)
  && decide M.Nodup
  && M[j]? == some x
  && scope.names.lookup x == some .local
  && ix[j]? == some none
  && ix.length == M.length
  && scope.names.all (fun y => if y.2 == .free then (sc.names.lookup y.1 == some .cell || sc.names.lookup y.1 == some .free) else true)
  && (List.range M.length).all (fun k => match M[k]?, ix[k]? with
    | some y, some (some i) => N[i]? == some y && (sc.names.lookup y == some .cell || sc.names.lookup y == some .free) && scope.names.lookup y == some .free
    | _, _ => true)
theorem compS {sc : Scope} {N : List Str} {scope : Scope} {M : List Str} {ix : List (Option Nat)} {j : Nat} {x : Str} (h : compOkB sc N scope M ix j x = true) : CompScope sc N scope M ix j x := by
  unfold compOkB at h
  simp only [Bool.and_eq_true] at h
  obtain ⟨⟨⟨⟨⟨⟨⟨⟨⟨h1, h2⟩, h3⟩, h4⟩, h5⟩, h6⟩, h7⟩, h8⟩, h9⟩, h10⟩ := h
  refine ⟨beq_iff_eq.mp h1, fun y hy e => ?_, fun y hy e => ?_, of_decide_eq_true h4, beq_iff_eq.mp h5, beq_iff_eq.mp h6, beq_iff_eq.mp h7, beq_iff_eq.mp h8, fun y hy e => ?_, fun k y i e1 e2 => ?_⟩
  · have q := List.all_eq_true.mp h2 y hy
    rw [e] at q
    exact beq_iff_eq.mp q
  · have q := List.all_eq_true.mp h3 y hy
    rw [e] at q
    cases q
  · have q := List.all_eq_true.mp h9 y hy
    rw [e] at q
    rcases Bool.or_eq_true_iff.mp q with z | z
    · exact .inl (beq_iff_eq.mp z)
    · exact .inr (beq_iff_eq.mp z)
  · have hk : k < M.length := (List.getElem?_eq_some_iff.mp e1).1
    have q := List.all_eq_true.mp h10 k (List.mem_range.mpr hk)
    rw [e1, e2] at q
    simp only [Bool.and_eq_true, Bool.or_eq_true] at q
    obtain ⟨⟨q1, q2⟩, q3⟩ := q
    refine ⟨beq_iff_eq.mp q1, ?_, beq_iff_eq.mp q3⟩
    rcases q2 with z | z
    · exact .inl (beq_iff_eq.mp z)
    · exact .inr (beq_iff_eq.mp z)
end L2
namespace L2
open PySem PySem.Spec PyProof.Rows
section
variable {X : Cx} {a b c e : Expr} {es : List Expr} {ta tb tc te : TE} {t : TA} {pos p : Pos} {x : Str}
end
end L2
namespace L2
open PySem PySem.Spec PyProof.Rows
section
variable {X : Cx} {scope : Scope} {M : List Str} {ix : List (Option Nat)} {j : Nat} {x : Str}
theorem ps_comp {elt iter : Expr} {px py pos spos : Pos} {ifs : List Expr} {wi : TI} {tf : TT} {te : TE} {i : Nat} {y : Str} (hN : X.N.Nodup) (hi : X.N[i]? = some y) (hy : X.env.scope.names.lookup y = some .local)
    (S : CompScope X.env.scope X.N scope M ix j x) (hc : X.calm = true) (hit : PI X (.Name x px) iter wi)
    (hb : ∀ C s H fp, PF (cxComp X M scope C s H fp) ifs tf ∧ PE (cxComp X M scope C s H fp) elt te)
    (hsw : swapsWith (.ListComp elt [⟨.Name x px, iter, ifs, 0⟩] scope pos) (some (.Name y py)) spos.line X.env = pure true := by rfl) (hs : ∀ x, foldedSetIterable iter X.env x = pure x := by intro _; rfl) :
    PS X (.Assign [.Name y py] (.ListComp elt [⟨.Name x px, iter, ifs, 0⟩] scope pos) spos) (tAsg (tComp wi ix j tf te) (gName i)) := by
  intro pins s σ H D I h
  rw [exec_Assign_Name_used _ _ _ _ hsw]
  refine wpAny_bind (wpAny_standAt (wpAny_bind ?_))
  show wpAny _ X.A (do let _ ← comprehension (.ListComp elt [⟨.Name x px, iter, ifs, 0⟩] scope pos) scope X.env _ (newList []) false (eval iter X.env) (some (assign (.Name y py) X.env))) _ _ s
  refine wpAny_bind (wpAny_mono (wpAny_comprehension_free (use := some (assign (.Name y py) X.env)) (Q := fun _ s' => SP X pins D .next s') rfl hs (closureFor_cl fun y hy e => I.ok.has y.1 (S.free y hy e)) S.kind S.names
    (wpAny_mono (hit pins s σ H _ I h) (fun xv s₁ h₁ => wpAny_mono h₁ (fun it s₂ h₂ => ?_) fun _ _ e => e) fun _ _ e => e)) (fun _ s' hq => wpAny_pure (wpAny_pure hq)) fun _ _ e => e)
  obtain ⟨it, fp, tn, J, H2, rfl, I2, T, st2, f2, q⟩ := h₂
  refine wpAny_newObj_type (wpAny_newFunctionEnv S.nocell (by intro y hy; simp at hy) (fun h₁ hns₁ hsb₁ => ?_) S.kind)
  dsimp only at hns₁ hsb₁ ⊢
  have hC : (s₂.heap.push { cls := .type "list", dict := none, data := .seq ([] : List Value).toArray }).objs.size = s₂.heap.objs.size + 1 := Heap.size_push ..
  rw [hC] at hns₁ hsb₁ ⊢
  have below : ∀ b, b < s₂.heap.objs.size → b ≠ s₂.heap.objs.size + 1 := fun b hb => Nat.ne_of_lt (Nat.lt_succ_of_lt hb)
  have old : ∀ b o, s₂.heap.get? b = some o → h₁.get? b = some o := fun b o e => hsb₁.extBut b o (below b (Heap.lt_size e)) (Heap.get?_push_of_some _ (Heap.get?_push_of_some _ e))
  have hD : h₁.get? s₂.heap.objs.size = some { cls := .type "list", data := .seq ([] : List Value).toArray 0 } := hsb₁.extBut _ _ (Nat.ne_of_lt (Nat.lt_succ_self _)) (Heap.get?_push_of_some _ (Heap.get?_push_size _ rfl))
  have hft : ∀ b ∈ fp, b < s₂.heap.objs.size := fun b hb => by
    obtain ⟨o, e, _⟩ := T.obj 0 s₂.heap st2 b hb
    exact Heap.lt_size e
  have I0 := (comp_start (h1 := h₁) S I2 f2 hft old hD hns₁).tok s₂.toks
  have hfr : H2 s₂.heap.objs.size = none := I2.hok.fresh (Nat.le_refl _)
  have loop : codeAny (model X.prog X.w) X.A (.compLoop (.ListComp elt [⟨.Name x px, iter, ifs, 0⟩] scope pos) 0 (.ref it) (.ref s₂.heap.objs.size) (compEnvC scope (clOf X.env.cells scope.names []) (s₂.heap.objs.size + 1) X.env))
      (compPost (model X.prog X.w) X.A X.xe (some (assign (.Name y py) X.env)) (fun _ s' => SP X pins D .next s') (.ref s₂.heap.objs.size) (s₂.heap.objs.size + 1)) { s₂ with heap := h₁, toks := s₂.toks } := by
    refine comp_block (Q := fun v H' => gName i v σ H' D.nx) S hc I2 (hb _ _ _ _).1 (hb _ _ _ _).2 T st2 f2 I0 old (q _ hfr) fun H' s' I' qq => ?_
    show wpAny _ X.A (assign (.Name y py) X.env (.ref s₂.heap.objs.size)) _ _ s'
    have J1 : Inv X pins σ H' s' := comp_end (h' := s'.heap) I2 (Nat.le_succ _) f2 I' (.refl ..)
    obtain ⟨m, hn, _⟩ := I'.loc
    obtain ⟨oC, es, ep, hoC, hd, hrest⟩ := id hn
    have nL : s₂.heap.objs.size + 1 ≠ X.env.locals := Nat.ne_of_gt (Nat.lt_succ_of_lt I2.lt)
    have nF : s₂.heap.objs.size + 1 ∉ X.fs := I2.nofs (Nat.le_succ _)
    have hHC : H' (s₂.heap.objs.size + 1) = none := I'.free
    have J2 : Inv X (pins ++ [(s₂.heap.objs.size + 1, oC)]) σ H' s' := J1.pins_of fun p hp => (List.mem_append.mp hp).elim (fun z => J1.pin p (List.mem_append_right _ z)) fun z => by
      have e : p = (s₂.heap.objs.size + 1, oC) := List.mem_singleton.mp z
      subst e
      exact ⟨hoC, hHC, nL, nF, fun v z => by rw [hd] at z; cases z⟩
    refine wpAny_assign_Name (store_ok (v := .ref s₂.heap.objs.size) J2 hN hi (.inl hy) rfl (fun s'' J3 => ?_) (.inr hy))
    have hoC2 : s''.heap.get? (s₂.heap.objs.size + 1) = some oC := (J3.pin (s₂.heap.objs.size + 1, oC) (List.mem_append_right _ (List.mem_append_right _ (List.mem_singleton.mpr rfl)))).1
    refine ⟨m, ⟨oC, es, ep, hoC2, hd, hrest⟩, fun h' hb' => ?_⟩
    have J4 : Inv X pins (σ.set i (some (.ref s₂.heap.objs.size))) H' s'' := J3.unpinned
    refine ⟨_, H', J4.turned (t' := s''.toks) (it := s₂.heap.objs.size + 1) (fun b o hne e => hb'.extBut b o hne e) hHC nL (.inr (Nat.le_trans I2.sz (Nat.le_succ _))) (fun z c e1 e2 => ?_) (fun p hp e2 => ?_), qq⟩
    · obtain ⟨v, qc⟩ := I2.cell z c e1
      have := qc.lt
      rw [e2] at this
      exact absurd (Nat.lt_of_succ_lt this) (Nat.lt_irrefl _)
    · have := Heap.lt_size (I2.pin p hp).1
      rw [e2] at this
      exact absurd (Nat.lt_of_succ_lt this) (Nat.lt_irrefl _)
  exact codeAny_compStart_list loop (T.self _ 0 _ _ _ (T.keep 0 _ _ st2 fun b _ o e => old b o e) loop)
end
end L2
namespace HT
open PySem PyProof.Rows
section
variable {prog : Program} {w : World} {A : Around} {E : Value → Shared → Prop} {s : Shared}
theorem adjust_rev (n : Nat) : Builtin.Slice.sliceAdjust none none (-1) (n : Int) = ((n : Int) - 1, -1) := rfl
theorem places_rev (n : Nat) : Builtin.Slice.slicePlaces ((n : Int) - 1) (-1) (-1) = n := by
  unfold Builtin.Slice.slicePlaces
  rw [if_neg (by decide)]
  by_cases h : ((n : Int) - 1 > -1)
  · rw [if_pos h, show (-(-1 : Int)) = 1 from rfl, Int.ediv_one]
    omega
  · rw [if_neg h]
    omega
theorem sliceApplied_rev {sl : Addr} {t : Tok} {n : Nat} {Q : Int × Int × Nat → Shared → Prop} (hs : s.heap.IsSliceOf sl .none .none (.int (-1) t)) (h : Q ((n : Int) - 1, -1, n) s) :
    wpAny (model prog w) A (Builtin.Slice.sliceApplied (.ref sl) (pure (n : Int))) Q E s := by
  obtain ⟨os, hos, hcs, hds⟩ := id hs
  unfold Builtin.Slice.sliceApplied Builtin.Slice.sliceFields
  refine wpAny_bind (wpAny_bind (wpAny_field hos hds (x := .none) rfl (wpAny_bind (wpAny_field hos hds (x := .none) rfl (wpAny_bind (wpAny_field hos hds (x := .int (-1) t) rfl (wpAny_pure ?_)))))))
  refine wpAny_bind (slicePart_ (.int (-1) t) ?_)
  show wpAny _ _ (if ((-1 : Int) == 0) = true then _ else _) _ _ s
  rw [if_neg (by decide)]
  refine wpAny_bind (slicePart_ .none (wpAny_bind (slicePart_ .none (wpAny_bind (wpAny_pure ?_)))))
  show wpAny _ _ (match Builtin.Slice.sliceAdjust none none (-1) (n : Int) with | (lo, hi) => pure (lo, (-1 : Int), Builtin.Slice.slicePlaces lo hi (-1))) _ _ s
  rw [adjust_rev n]
  show wpAny _ _ (pure ((n : Int) - 1, (-1 : Int), Builtin.Slice.slicePlaces ((n : Int) - 1) (-1) (-1))) _ _ s
  rw [places_rev]
  exact wpAny_pure h
theorem pick_rev (xs : Array Value) : ((List.range xs.size).filterMap fun (m : Nat) => xs[(((xs.size : Nat) : Int) - 1 + (m : Int) * (-1)).toNat]?).toArray = xs.toList.reverse.toArray := by
  congr 1
  have e : ∀ k, k ≤ xs.size → ((List.range k).filterMap fun (m : Nat) => xs[(((xs.size : Nat) : Int) - 1 + (m : Int) * (-1)).toNat]?) = xs.toList.reverse.take k := by
    intro k
    induction k with
    | zero => intro _; rfl
    | succ k ih =>
      intro hk
      have hlt : xs.size - 1 - k < xs.size := by omega
      have e1 : (((xs.size : Nat) : Int) - 1 + (k : Int) * (-1)).toNat = xs.size - 1 - k := by omega
      rw [List.range_succ, List.filterMap_append, ih (by omega), List.take_add_one]
      congr 1
      have hl : k < xs.toList.reverse.length := by simp; omega
      have g : xs.toList.reverse[k]? = some xs[xs.size - 1 - k] := by
        rw [List.getElem?_reverse (by simpa using (show k < xs.size by omega))]
        simp [hlt]
      rw [g]
      have gg : xs[(((xs.size : Nat) : Int) - 1 + (k : Int) * (-1)).toNat]? = some xs[xs.size - 1 - k] := by rw [e1]; simp [hlt]
      rw [List.filterMap_cons, gg]
      rfl
  have := e xs.size (Nat.le_refl _)
  rw [this, List.take_of_length_le (by simp)]
theorem getItem_tuple_rev {t sl : Addr} {items : Array Value} {k : Tok} {Q : Value → Shared → Prop} (ht : IsTup s.heap t items) (hs : s.heap.IsSliceOf sl .none .none (.int (-1) k))
    (h : Q (.ref s.heap.objs.size) { s with heap := s.heap.push { cls := .type "tuple", data := .seq items.toList.reverse.toArray } })
    (hsz : items.size ≤ sizeLine) : wpAny (model prog w) A (getItem (.ref t) (.ref sl)) Q E s := by
  have hsize : sizeOk (.seq items.toList.reverse.toArray) := by
    show items.toList.reverse.toArray.size ≤ sizeLine
    rw [List.size_toArray, List.length_reverse, Array.length_toList]
    exact hsz
  obtain ⟨os, hos, hcs, hds⟩ := id hs
  have hTs : s.TypeIs (.ref sl) "slice" := ⟨os, hos, hcs⟩
  unfold getItem
  try with_reducible refine wpAny_holding ?_
  first | refine wpAny_bind (wpAny_pure ?_) | skip
  refine wpAny_bind (wpAny_sequenceKey ht.typeIs (by decide) ?_)
  refine wpAny_bind (wpAny_callSpecial?_slot (name := Str.ofString "__getitem__") ht.typeIs PyProof.Rows.slot_tuple_getitem
    (wpAny_call_entry PyProof.Rows.slot_tuple_getitem ht.typeIs entry_tuple_getitem ?_ (args_tuple_getitem _ _)))
  show wpAny _ _ (Builtin.Tuple.tupleItemsOf (.ref t) >>= _) _ _ s
  refine wpAny_bind (tupleItemsOf_ ht ?_)
  refine wpAny_bind (wpAny_typeOf hTs ?_)
  rw [if_pos (by decide)]
  refine wpAny_bind (sliceApplied_rev hs ?_)
  show wpAny _ _ (if ((((items.size : Nat) : Int) - 1) == 0 && (-1 : Int) == 1 && items.size == items.size) = true then _ else _) _ _ s
  rw [if_neg (by intro q; rw [Bool.and_eq_true, Bool.and_eq_true] at q; exact absurd q.1.2 (by decide)), pick_rev]
  first
    | exact wpAny_bind (m := Builtin.Tuple.tupleExact _) (wpAny_newObj_type (wpAny_pure ⟨_, rfl, wpAny_pure h⟩) hsize)
    | exact wpAny_bind (m := Builtin.Tuple.tupleExact _) (wpAny_newObj_type (wpAny_bind (wpAny_pure (wpAny_pure ⟨_, rfl, wpAny_pure h⟩))) hsize)
    | exact wpAny_bind (wpAny_bind (m := Builtin.Tuple.tupleExact _) (wpAny_newObj_type (wpAny_pure (wpAny_pure ⟨_, rfl, wpAny_pure h⟩)) hsize))
    | exact wpAny_bind (wpAny_bind (m := Builtin.Tuple.tupleExact _) (wpAny_newObj_type (wpAny_pure ⟨_, rfl, wpAny_pure h⟩) hsize))
end
end HT
namespace L2
open PySem PySem.Spec PyProof.Rows
section
variable {X : Cx}
end
end L2
namespace PySem
open Sem (wp)
open Builtin Builtin.List Builtin.Tuple
namespace AutoSeq1
set_option maxRecDepth 8000 in
theorem extend_tup (l : Addr) (items : Array Value) (n : Nat) (b : Addr) (items2 : Array Value) (n2 : Nat) (dd : Option Addr) (sl : Array (Option Value)) (c0 : ¬(!items.isEmpty && Builtin.List.listTooLong (items.size + items2.size)) = true) (c1 : items.size ≤ sizeLine) (c2 : items.size + items2.size ≤ sizeLine + 1) :
    Meets (Builtin.«list.extend» ⟨[.ref l, .ref b], []⟩) (fun _ R s => s.heap.get? l = some { cls := .type "list", dict := none, data := .seq items n, slots := #[] } ∧ s.heap.get? b = some ⟨.type "tuple", dd, .seq items2 n2, sl⟩ ∧ R (.ok (.ret Value.none)) { s with heap := s.heap.update l (Obj.mapSeq fun x => x ++ items2) }) :=
  .of_wp fun prog w A R s h => by
    obtain ⟨hp, g, d, tk, os⟩ := s
    obtain ⟨hl, hb, h⟩ := h
    have f1 := idx_int
    have f2 := sub_tuple_tuple
    have f3 := sub_list_list
    have f4 := sub_tuple_list
    have f5 := sub_list_tuple
    have big : (items ++ items2).size ≤ sizeLine + 1 := by rw [Array.size_append]; exact c2
    wp_walk using (wpAny_updateSeq hl rfl (hz := c1) (_hz' := big)), wpAny_loadPart' hl, wpAny_loadPart' hb
    exact ⟨_, rfl, h⟩
end AutoSeq1
end PySem
namespace L2
open PySem PySem.Spec PyProof.Rows
section
variable {X : Cx}
noncomputable def rExtendT (K : PySem.W.Frag) : V → List V → Hp → VK → Prop := fun x vs H Q => ∃ l b xs zs, x = .ref l ∧ vs = [.ref b] ∧ H l = some (.lst xs) ∧ SqT K H b zs ∧ xs.length + zs.length ≤ sizeLine ∧ Q .non (upd H l (.lst (xs ++ zs)))
theorem mt_extendT : MtM X "list.extend" (rExtendT X.K) := by
  intro pins s σ H x vs v us Q I rx rv h
  obtain ⟨l, b, xs, zs, rfl, rfl, hH, hB, hz, q⟩ := h
  cases rx
  obtain ⟨u, rfl, ru⟩ := rv.one
  cases ru
  obtain ⟨z, its, n, r, hl, e⟩ := I.lstM hH
  obtain ⟨its2, r2, tp, hz2⟩ := I.tuple hB
  have hl2 := r2.length
  obtain ⟨⟨cls, dd, data, sl⟩, ho, hc, n2, hd⟩ := tp
  simp only at hc hd
  subst hc hd
  have hsz : its.toArray.size + its2.toArray.size ≤ sizeLine := by rw [List.size_toArray, List.size_toArray]; omega
  have hlong : ¬ (!its.toArray.isEmpty && Builtin.List.listTooLong (its.toArray.size + its2.toArray.size)) = true := by
    rw [notLongL hsz, Bool.and_false]
    exact Bool.false_ne_true
  refine call_meets F.slot_list_extend ⟨_, e, rfl⟩ F.entry_list_extend (F.args_list_extend_2 _ _) (AutoSeq1.extend_tup l its.toArray n b its2.toArray n2 dd sl hlong (by rw [List.size_toArray]; omega) (by omega)) ⟨e, ho, ?_⟩
  refine ⟨.non, _, I.lset (t' := s.toks) (its' := its ++ its2) hH e (by simp) (r.append r2) ?_, rfl, q⟩
  rw [List.length_append]
  omega
end
end L2
namespace L2
open PySem PySem.Spec PyProof.Rows
section
variable {κ : Type} [DecidableEq κ]
end
section
variable {P : Program} {w : World} {H : Hp} {h : Heap} {a : Addr}
end
section
variable {X : Cx} {pins : List (Addr × Obj)} {σ : St} {H : Hp} {s : Shared} {a : Addr} {y v : V} {u r : Value} {o : Option V} {A : Around} {E : Value → Shared → Prop}
end
section
variable {X : Cx} {pins : List (Addr × Obj)} {σ : St} {H : Hp} {s : Shared} {a : Addr} {kvs : List (Key × V)} {k : Key} {u : Value} {A : Around} {E : Value → Shared → Prop}
end
section
variable {X : Cx} {o i e value : Expr} {pos pos' tpos : Pos} {td ty tv : TE}
end
section
variable {X : Cx} {pos : Pos}
end
section
variable {X : Cx} {pins : List (Addr × Obj)} {σ : St} {H : Hp} {s : Shared} {a : Addr} {y d : V} {u r : Value} {o : Option V} {A : Around} {E : Value → Shared → Prop}
end
section
variable {X : Cx} {o e f : Expr} {apos cpos : Pos} {td ty tx : TE}
end
section
variable {X : Cx} {pins : List (Addr × Obj)} {σ : St} {H : Hp} {s : Shared} {a : Addr} {kvs : List (Key × V)} {A : Around} {E : Value → Shared → Prop}
end
section
variable {X : Cx} {pins : List (Addr × Obj)} {σ : St} {H : Hp} {s : Shared} {a : Addr} {y : V} {u : Value} {A : Around} {E : Value → Shared → Prop}
end
end L2
namespace L2
open PySem
section
variable {X : Cx}
end
section
variable {κ : Type} [DecidableEq κ]
end
end L2
namespace L3
open PySem L2
inductive PV where
  | non | bl (b : Bool) | int (i : Int) | str (x : Str) | tup (xs : List PV) | ref (a : Addr) | ty (n : String) | ro (xs : List PV)
inductive MO where
  | lst (xs : List PV) | rl (xs : List PV) | dK (kvs : List (Key × PV)) | rng (lo hi : Int) | ins (C dx : Addr) (fs : List (Str × PV)) | exc (C : Addr)
noncomputable abbrev Gp := Addr → Option MO
noncomputable def up (G : Gp) (a : Addr) (o : MO) : Gp := fun b => if b = a then some o else G b
theorem up_same {G : Gp} {a : Addr} {o : MO} : up G a o a = some o := by unfold up; rw [if_pos rfl]
theorem up_ne {G : Gp} {a b : Addr} {o : MO} (h : b ≠ a) : up G a o b = G b := by unfold up; rw [if_neg h]
theorem up_up {G : Gp} {a : Addr} {o u : MO} : up (up G a o) a u = up G a u := by
  funext b; unfold up; split <;> rfl
theorem up_self {G : Gp} {a : Addr} {o : MO} (h : G a = some o) : up G a o = G := by
  funext b; unfold up; split
  · rename_i e; rw [e, h]
  · rfl
noncomputable def FzL (K : PySem.W.Frag) (H : Hp) (a : Addr) (xs : List V) : Prop :=
  (∃ o, H a = some (.frz o (.lst xs))) ∨ ∃ (o : Obj) (its : Array Value) (n : Nat), K.lookup a = some o ∧ o.cls = .type "list" ∧ o.dict = none ∧ o.data = .seq its n ∧ its.size ≤ sizeLine ∧ Vals xs its.toList
theorem FzL.sq {K : PySem.W.Frag} {H : Hp} {a : Addr} {xs : List V} (h : FzL K H a xs) : SqL K H a xs := by
  rcases h with ⟨o, h⟩ | h
  · exact .inl (.inr ⟨o, h⟩)
  · exact .inr h
mutual
noncomputable def Dv (K : PySem.W.Frag) (H : Hp) : PV → V → Prop
  | .non, v => v = .non
  | .bl b, v => v = .bl b
  | .int i, v => v = .int i
  | .str x, v => v = .str x
  | .tup ps, v => ∃ a vs, v = .ref a ∧ SqT K H a vs ∧ Dvs K H ps vs
  | .ref a, v => v = .ref a
  | .ty n, v => v = .ty n
  | .ro ps, v => ∃ a vs, v = .ref a ∧ FzL K H a vs ∧ Dvs K H ps vs
noncomputable def Dvs (K : PySem.W.Frag) (H : Hp) : List PV → List V → Prop
  | [], vs => vs = []
  | p :: ps, vs => ∃ v r, vs = v :: r ∧ Dv K H p v ∧ Dvs K H ps r
end
noncomputable def Keep (K : PySem.W.Frag) (H H' : Hp) : Prop := (∀ a xs, SqT K H a xs → SqT K H' a xs) ∧ ∀ a o u, H a = some (.frz o u) → H' a = some (.frz o u)
section
variable {K : PySem.W.Frag} {H H' H1 H2 : Hp}
theorem Keep.refl : Keep K H H := ⟨fun _ _ h => h, fun _ _ _ h => h⟩
theorem Keep.trans (a : Keep K H H1) (b : Keep K H1 H2) : Keep K H H2 := ⟨fun c xs h => b.1 c xs (a.1 c xs h), fun c o u h => b.2 c o u (a.2 c o u h)⟩
theorem keep_mut {p : Addr} {o : HO} (h : ∀ xs, ¬ Rd H p (.tup xs)) (hf : ∀ o u, H p ≠ some (.frz o u)) : Keep K H (upd H p o) := ⟨fun a xs q => by
  rcases q with q | q
  · have ne : a ≠ p := fun z => by subst z; exact h xs q
    refine .inl ?_
    rcases q with q | ⟨o', q⟩
    · exact .inl (by rw [upd_ne ne]; exact q)
    · exact .inr ⟨o', by rw [upd_ne ne]; exact q⟩
  · exact .inr q, fun a o' u q => by
  have ne : a ≠ p := fun z => by subst z; exact hf o' u q
  rw [upd_ne ne]; exact q⟩
theorem FzL.keep {a : Addr} {xs : List V} (k : Keep K H H') (h : FzL K H a xs) : FzL K H' a xs := by
  rcases h with ⟨o, h⟩ | h
  · exact .inl ⟨o, k.2 _ _ _ h⟩
  · exact .inr h
theorem keep_new {p : Addr} {o : HO} (h : H p = none) : Keep K H (upd H p o) := keep_mut (fun xs q => by
  rcases q with q | ⟨o', q⟩ <;> (rw [h] at q; cases q)) fun o u q => by rw [h] at q; cases q
theorem keep_lst {p : Addr} {o : HO} {ys : List V} (h : H p = some (.lst ys)) : Keep K H (upd H p o) := keep_mut (fun xs q => by
  rcases q with q | ⟨o', q⟩ <;> (rw [h] at q; cases q)) fun o u q => by rw [h] at q; cases q
mutual
theorem Dv.keep (k : Keep K H H') : ∀ (p : PV) {v : V}, Dv K H p v → Dv K H' p v
  | .non, _, h => h
  | .bl _, _, h => h
  | .int _, _, h => h
  | .str _, _, h => h
  | .tup ps, _, h => by
    obtain ⟨a, vs, e, q, r⟩ := h
    exact ⟨a, vs, e, k.1 a vs q, Dvs.keep k ps r⟩
  | .ref _, _, h => h
  | .ty _, _, h => h
  | .ro ps, _, h => by
    obtain ⟨a, vs, e, q, r⟩ := h
    exact ⟨a, vs, e, q.keep k, Dvs.keep k ps r⟩
theorem Dvs.keep (k : Keep K H H') : ∀ (ps : List PV) {vs : List V}, Dvs K H ps vs → Dvs K H' ps vs
  | [], _, h => h
  | p :: ps, _, h => by
    obtain ⟨v, r, e, q, z⟩ := h
    exact ⟨v, r, e, Dv.keep k p q, Dvs.keep k ps z⟩
end
theorem Dvs.length : ∀ {ps : List PV} {vs : List V}, Dvs K H ps vs → vs.length = ps.length
  | [], _, h => by rw [show _ = [] from h]; rfl
  | p :: ps, _, h => by
    obtain ⟨v, r, rfl, _, z⟩ := h
    rw [List.length_cons, List.length_cons, Dvs.length z]
theorem Dvs.get : ∀ {ps : List PV} {vs : List V} {i : Nat} {v : V}, Dvs K H ps vs → vs[i]? = some v → ∃ p, ps[i]? = some p ∧ Dv K H p v
  | [], _, i, v, h, e => by rw [show _ = [] from h] at e; simp at e
  | p :: ps, _, 0, v, h, e => by
    obtain ⟨v', r, rfl, q, z⟩ := h
    have : v' = v := by simpa using e
    subst this
    exact ⟨p, rfl, q⟩
  | p :: ps, _, i + 1, v, h, e => by
    obtain ⟨v', r, rfl, q, z⟩ := h
    obtain ⟨p', e1, q1⟩ := Dvs.get (i := i) z (by simpa using e)
    exact ⟨p', by simpa using e1, q1⟩
theorem Dvs.at : ∀ {ps : List PV} {vs : List V} {i : Nat} {p : PV}, Dvs K H ps vs → ps[i]? = some p → ∃ v, vs[i]? = some v ∧ Dv K H p v := fun {ps vs i p} h e => by
  have hl := h.length
  have hi : i < vs.length := by rw [hl]; exact (List.getElem?_eq_some_iff.mp e).1
  obtain ⟨p', e', q⟩ := h.get (List.getElem?_eq_getElem hi)
  rw [e] at e'; cases e'
  exact ⟨_, List.getElem?_eq_getElem hi, q⟩
theorem Dvs.append : ∀ {ps qs : List PV} {vs us : List V}, Dvs K H ps vs → Dvs K H qs us → Dvs K H (ps ++ qs) (vs ++ us)
  | [], _, _, _, h, g => by rw [show _ = [] from h]; exact g
  | p :: ps, _, _, _, h, g => by
    obtain ⟨v, r, rfl, q, z⟩ := h
    exact ⟨v, r ++ _, rfl, q, Dvs.append z g⟩
theorem Dvs.nil : Dvs K H [] [] := rfl
theorem Dvs.cons {p : PV} {ps : List PV} {v : V} {vs : List V} (a : Dv K H p v) (b : Dvs K H ps vs) : Dvs K H (p :: ps) (v :: vs) := ⟨v, vs, rfl, a, b⟩
theorem Dvs.take : ∀ {ps : List PV} {vs : List V} (n : Nat), Dvs K H ps vs → Dvs K H (ps.take n) (vs.take n)
  | _, _, 0, _ => rfl
  | [], _, n + 1, h => by rw [show _ = [] from h]; rfl
  | p :: ps, _, n + 1, h => by
    obtain ⟨v, r, rfl, q, z⟩ := h
    exact ⟨v, _, rfl, q, Dvs.take n z⟩
theorem Dvs.drop : ∀ {ps : List PV} {vs : List V} (n : Nat), Dvs K H ps vs → Dvs K H (ps.drop n) (vs.drop n)
  | _, _, 0, h => h
  | [], _, n + 1, h => by rw [show _ = [] from h]; rfl
  | p :: ps, _, n + 1, h => by
    obtain ⟨v, r, rfl, q, z⟩ := h
    exact Dvs.drop n z
theorem Dvs.reverse : ∀ {ps : List PV} {vs : List V}, Dvs K H ps vs → Dvs K H ps.reverse vs.reverse
  | [], _, h => by rw [show _ = [] from h]; rfl
  | p :: ps, _, h => by
    obtain ⟨v, r, rfl, q, z⟩ := h
    rw [List.reverse_cons, List.reverse_cons]
    exact (Dvs.reverse z).append (.cons q .nil)
theorem Dvs.set {p : PV} {v : V} (a : Dv K H p v) : ∀ {ps : List PV} {vs : List V} (i : Nat), Dvs K H ps vs → Dvs K H (ps.set i p) (vs.set i v)
  | [], _, _, h => by rw [show _ = [] from h]; rfl
  | q :: ps, _, 0, h => by
    obtain ⟨v', r, rfl, _, z⟩ := h
    exact ⟨v, r, rfl, a, z⟩
  | q :: ps, _, i + 1, h => by
    obtain ⟨v', r, rfl, b, z⟩ := h
    exact ⟨v', _, rfl, b, Dvs.set a i z⟩
end
noncomputable def DKv (K : PySem.W.Frag) (H : Hp) : List (Key × PV) → List (Key × V) → Prop
  | [], vs => vs = []
  | (k, p) :: ps, vs => ∃ v r, vs = (k, v) :: r ∧ Dv K H p v ∧ DKv K H ps r
noncomputable def DFv (K : PySem.W.Frag) (H : Hp) : List (Str × PV) → List (Str × V) → Prop
  | [], vs => vs = []
  | (k, p) :: ps, vs => ∃ v r, vs = (k, v) :: r ∧ Dv K H p v ∧ DFv K H ps r
noncomputable def RepO (K : PySem.W.Frag) (H : Hp) (a : Addr) : MO → Prop
  | .lst ps => ∃ vs, H a = some (.lst vs) ∧ Dvs K H ps vs
  | .rl ps => ∃ vs, Rd H a (.lst vs) ∧ Dvs K H ps vs
  | .dK kvs => ∃ vs, H a = some (.dK vs) ∧ DKv K H kvs vs
  | .rng lo hi => H a = some (.rng lo hi)
  | .ins C dx fs => ∃ vs, H a = some (.ins C dx vs) ∧ DFv K H fs vs
  | .exc C => H a = some (excO a C)
noncomputable def Rep (K : PySem.W.Frag) (H : Hp) (G : Gp) : Prop := ∀ a o, G a = some o → RepO K H a o
section
variable {K : PySem.W.Frag} {H H' : Hp} {G G' : Gp} {p : Addr}
theorem DKv.keep (k : Keep K H H') : ∀ (ps : List (Key × PV)) {vs : List (Key × V)}, DKv K H ps vs → DKv K H' ps vs
  | [], _, h => h
  | (x, p) :: ps, _, h => by
    obtain ⟨v, r, e, q, z⟩ := h
    exact ⟨v, r, e, Dv.keep k p q, DKv.keep k ps z⟩
theorem DFv.keep (k : Keep K H H') : ∀ (ps : List (Str × PV)) {vs : List (Str × V)}, DFv K H ps vs → DFv K H' ps vs
  | [], _, h => h
  | (x, p) :: ps, _, h => by
    obtain ⟨v, r, e, q, z⟩ := h
    exact ⟨v, r, e, Dv.keep k p q, DFv.keep k ps z⟩
theorem RepO.some {o : MO} (h : RepO K H p o) : ∃ u, H p = some u := by
  cases o with
  | lst ps => obtain ⟨vs, e, _⟩ := h; exact ⟨_, e⟩
  | rl ps =>
    obtain ⟨vs, e, _⟩ := h
    rcases e with e | ⟨o, e⟩
    · exact ⟨_, e⟩
    · exact ⟨_, e⟩
  | dK ps => obtain ⟨vs, e, _⟩ := h; exact ⟨_, e⟩
  | rng lo hi => exact ⟨_, h⟩
  | ins C dx fs => obtain ⟨vs, e, _⟩ := h; exact ⟨_, e⟩
  | exc C => exact ⟨_, h⟩
theorem Rep.none (r : Rep K H G) (h : H p = none) : G p = none := by
  cases e : G p with
  | none => rfl
  | some o =>
    obtain ⟨u, z⟩ := (r p o e).some
    rw [h] at z; cases z
theorem RepO.upd {a : Addr} {o : MO} {ho : HO} (k : Keep K H (upd H p ho)) (ne : a ≠ p) (h : RepO K H a o) : RepO K (L2.upd H p ho) a o := by
  cases o with
  | lst ps => obtain ⟨vs, e, d⟩ := h; exact ⟨vs, by rw [upd_ne ne]; exact e, d.keep k⟩
  | rl ps =>
    obtain ⟨vs, e, d⟩ := h
    refine ⟨vs, ?_, d.keep k⟩
    rcases e with e | ⟨o, e⟩
    · exact .inl (by rw [upd_ne ne]; exact e)
    · exact .inr ⟨o, by rw [upd_ne ne]; exact e⟩
  | dK ps => obtain ⟨vs, e, d⟩ := h; exact ⟨vs, by rw [upd_ne ne]; exact e, d.keep k⟩
  | rng lo hi => show L2.upd H p ho a = _; rw [upd_ne ne]; exact h
  | ins C dx fs => obtain ⟨vs, e, d⟩ := h; exact ⟨vs, by rw [upd_ne ne]; exact e, DFv.keep k _ d⟩
  | exc C => show L2.upd H p ho a = _; rw [upd_ne ne]; exact h
theorem Rep.upd {ho : HO} (r : Rep K H G) (k : Keep K H (upd H p ho)) (hG : ∀ a o, G' a = some o → a ≠ p → G a = some o) (hp : ∀ o, G' p = some o → RepO K (L2.upd H p ho) p o) : Rep K (L2.upd H p ho) G' := fun a o e => by
  by_cases hb : a = p
  · subst hb; exact hp o e
  · exact (r a o (hG a o e hb)).upd k hb
theorem Rep.tup {vs : List V} (r : Rep K H G) (h : H p = Option.none) : Rep K (L2.upd H p (.tup vs)) G := r.upd (keep_new h) (fun _ _ e _ => e) fun o e => by rw [r.none h] at e; cases e
theorem Rep.new {vs : List V} {ps : List PV} (r : Rep K H G) (h : H p = Option.none) (d : Dvs K H ps vs) : Rep K (L2.upd H p (.lst vs)) (up G p (.lst ps)) := by
  refine r.upd (keep_new h) (fun a o e ne => by rw [up_ne ne] at e; exact e) fun o e => ?_
  rw [up_same] at e; cases e
  exact ⟨vs, upd_same, d.keep (keep_new h)⟩
theorem Rep.newR {lo hi : Int} (r : Rep K H G) (h : H p = Option.none) : Rep K (L2.upd H p (.rng lo hi)) (up G p (.rng lo hi)) := by
  refine r.upd (keep_new h) (fun a o e ne => by rw [up_ne ne] at e; exact e) fun o e => ?_
  rw [up_same] at e; cases e
  exact upd_same
theorem Rep.put {vs vs0 : List V} {ps : List PV} (r : Rep K H G) (h : H p = Option.some (.lst vs0)) (d : Dvs K H ps vs) : Rep K (L2.upd H p (.lst vs)) (up G p (.lst ps)) := by
  refine r.upd (keep_lst h) (fun a o e ne => by rw [up_ne ne] at e; exact e) fun o e => ?_
  rw [up_same] at e; cases e
  exact ⟨vs, upd_same, d.keep (keep_lst h)⟩
theorem Rep.sub (r : Rep K H G) (h : ∀ a o, G' a = Option.some o → G a = Option.some o) : Rep K H G' := fun a o e => r a o (h a o e)
theorem Rep.lst {ps : List PV} {a : Addr} (r : Rep K H G) (h : G a = Option.some (.lst ps)) : ∃ vs, H a = Option.some (.lst vs) ∧ Dvs K H ps vs := r a _ h
end
noncomputable abbrev St2 := List (Option PV)
noncomputable abbrev K2 := PV → Gp → Prop
noncomputable abbrev E2 := St2 → Gp → K2 → Prop
noncomputable abbrev T2 := St2 → Gp → (Bool → Gp → Prop) → Prop
noncomputable abbrev A2 := St2 → Gp → (List PV → Gp → Prop) → Prop
structure D2 where
  nx : St2 → Gp → Prop
  rt : K2
  bk : St2 → Gp → Prop := fun _ _ => False
  ct : St2 → Gp → Prop := fun _ _ => False
noncomputable abbrev S2 := D2 → St2 → Gp → Prop
@[reducible] noncomputable def gt : St2 → Nat → Option PV
  | [], _ => none
  | x :: _, 0 => x
  | _ :: r, n + 1 => gt r n
@[reducible] noncomputable def st : St2 → Nat → Option PV → St2
  | [], _, _ => []
  | _ :: r, 0, v => v :: r
  | x :: r, n + 1, v => x :: st r n v
theorem gt_eq : ∀ (τ : St2) (i : Nat), gt τ i = (τ[i]?).getD none
  | [], i => by simp [gt]
  | x :: _, 0 => by simp [gt]
  | _ :: r, n + 1 => by simp [gt, gt_eq r n]
theorem gt_some {τ : St2} {i : Nat} {p : PV} (h : gt τ i = some p) : τ[i]? = some (some p) := by
  rw [gt_eq] at h
  cases e : τ[i]? with
  | none => rw [e] at h; cases h
  | some z => rw [e] at h; exact congrArg some h
theorem st_set : ∀ (τ : St2) (i : Nat) (v : Option PV), st τ i v = τ.set i v
  | [], _, _ => rfl
  | _ :: _, 0, _ => rfl
  | x :: r, n + 1, v => by simp [st, st_set r n v]
noncomputable def RSt (K : PySem.W.Frag) (H : Hp) (σ : St) (τ : St2) : Prop := τ.length = σ.length ∧ ∀ (i : Nat) p, τ[i]? = some (some p) → ∃ v, σ[i]? = some (some v) ∧ Dv K H p v
theorem RSt.keep {K : PySem.W.Frag} {H H' : Hp} {σ : St} {τ : St2} (r : RSt K H σ τ) (k : Keep K H H') : RSt K H' σ τ := ⟨r.1, fun i p e => let ⟨v, a, b⟩ := r.2 i p e; ⟨v, a, b.keep k⟩⟩
theorem RSt.set0 {K : PySem.W.Frag} {H : Hp} {σ : St} {τ : St2} {p : PV} {v : V} (r : RSt K H σ τ) (d : Dv K H p v) (i : Nat) : RSt K H (σ.set i (some v)) (τ.set i (some p)) := by
  refine ⟨by simp [r.1], fun j q e => ?_⟩
  by_cases hj : i = j
  · subst hj
    have hi : i < τ.length := by
      have := (List.getElem?_eq_some_iff.mp e).1
      simpa using this
    rw [List.getElem?_set_self hi] at e
    cases e
    exact ⟨v, by rw [List.getElem?_set_self (by rw [← r.1]; exact hi)], d⟩
  · rw [List.getElem?_set_ne hj] at e ⊢
    exact r.2 j q e
theorem RSt.set {K : PySem.W.Frag} {H : Hp} {σ : St} {τ : St2} {p : PV} {v : V} (r : RSt K H σ τ) (d : Dv K H p v) (i : Nat) : RSt K H (σ.set i (some v)) (st τ i (some p)) := by
  rw [st_set]; exact r.set0 d i
noncomputable def Cl (K : PySem.W.Frag) (H : Hp) (Q2 : K2) (Q : VK) : Prop := ∀ p G v H', Q2 p G → Dv K H' p v → Rep K H' G → Keep K H H' → Q v H'
noncomputable def ClT (K : PySem.W.Frag) (H : Hp) (Q2 : Bool → Gp → Prop) (Q : Bool → Hp → Prop) : Prop := ∀ b G H', Q2 b G → Rep K H' G → Keep K H H' → Q b H'
noncomputable def ClS (K : PySem.W.Frag) (H : Hp) (Q2 : St2 → Gp → Prop) (Q : St → Hp → Prop) : Prop := ∀ τ G σ H', Q2 τ G → RSt K H' σ τ → Rep K H' G → Keep K H H' → Q σ H'
theorem Cl.keep {K : PySem.W.Frag} {H H' : Hp} {Q2 : K2} {Q : VK} (c : Cl K H Q2 Q) (k : Keep K H H') : Cl K H' Q2 Q := fun p G v H2 q d r k2 => c p G v H2 q d r (k.trans k2)
theorem ClT.keep {K : PySem.W.Frag} {H H' : Hp} {Q2 : Bool → Gp → Prop} {Q : Bool → Hp → Prop} (c : ClT K H Q2 Q) (k : Keep K H H') : ClT K H' Q2 Q := fun p G H2 q r k2 => c p G H2 q r (k.trans k2)
theorem ClS.keep {K : PySem.W.Frag} {H H' : Hp} {Q2 : St2 → Gp → Prop} {Q : St → Hp → Prop} (c : ClS K H Q2 Q) (k : Keep K H H') : ClS K H' Q2 Q := fun p G v H2 q d r k2 => c p G v H2 q d r (k.trans k2)
noncomputable def lowE (K : PySem.W.Frag) (t : E2) : TE := fun σ H Q => ∃ τ G Q2, RSt K H σ τ ∧ Rep K H G ∧ t τ G Q2 ∧ Cl K H Q2 Q
noncomputable def lowT (K : PySem.W.Frag) (t : T2) : TT := fun σ H Q => ∃ τ G Q2, RSt K H σ τ ∧ Rep K H G ∧ t τ G Q2 ∧ ClT K H Q2 Q
noncomputable def lowA (K : PySem.W.Frag) (t : A2) : TA := fun σ H Q => ∃ τ G Q2, RSt K H σ τ ∧ Rep K H G ∧ t τ G Q2 ∧ ∀ ps G' vs H', Q2 ps G' → Dvs K H' ps vs → Rep K H' G' → Keep K H H' → Q vs H'
structure ClD (K : PySem.W.Frag) (H : Hp) (D2 : D2) (D : Ends) : Prop where
  nx : ClS K H D2.nx D.nx
  rt : Cl K H D2.rt D.rt
  bk : ClS K H D2.bk D.bk
  ct : ClS K H D2.ct D.ct
theorem ClD.keep {K : PySem.W.Frag} {H H' : Hp} {Q2 : L3.D2} {Q : Ends} (c : ClD K H Q2 Q) (k : Keep K H H') : ClD K H' Q2 Q := ⟨c.nx.keep k, c.rt.keep k, c.bk.keep k, c.ct.keep k⟩
noncomputable def lowS (K : PySem.W.Frag) (t : S2) : TS := fun D σ H => ∃ τ G D2, RSt K H σ τ ∧ Rep K H G ∧ t D2 τ G ∧ ClD K H D2 D
structure JE (X : Cx) (e : Expr) (t : E2) : Prop where
  h : PE X e (lowE X.K t)
structure JT (X : Cx) (e : Expr) (t : T2) : Prop where
  h : PT X e (lowT X.K t)
structure JW (X : Cx) (e : Expr) (t : T2) : Prop where
  h : PW X e (lowT X.K t)
structure JA (X : Cx) (es : List Expr) (t : A2) : Prop where
  h : PA X es (lowA X.K t)
structure JS (X : Cx) (st : Stmt) (t : S2) : Prop where
  h : PS X st (lowS X.K t)
structure JB (X : Cx) (st : List Stmt) (t : S2) : Prop where
  h : PSs X st (lowS X.K t)
section
variable {X : Cx} {e : Expr}
theorem JE.of {t : E2} {u : TE} (h : PE X e u) (w : ∀ σ H Q, lowE X.K t σ H Q → u σ H Q) : JE X e t := ⟨fun pins s σ H Q I q => h pins s σ H Q I (w σ H Q q)⟩
theorem JT.of {t : T2} {u : TT} (h : PT X e u) (w : ∀ σ H Q, lowT X.K t σ H Q → u σ H Q) : JT X e t := ⟨fun pins s σ H Q I q => h pins s σ H Q I (w σ H Q q)⟩
theorem JW.of {t : T2} {u : TT} (h : PW X e u) (w : ∀ σ H Q, lowT X.K t σ H Q → u σ H Q) : JW X e t := ⟨fun wh pins s σ H Q I q => h wh pins s σ H Q I (w σ H Q q)⟩
theorem JA.of {es : List Expr} {t : A2} {u : TA} (h : PA X es u) (w : ∀ σ H Q, lowA X.K t σ H Q → u σ H Q) : JA X es t := ⟨fun pos pins s σ H Q I q => h pos pins s σ H Q I (w σ H Q q)⟩
theorem JS.of {st : Stmt} {t : S2} {u : TS} (h : PS X st u) (w : ∀ D σ H, lowS X.K t D σ H → u D σ H) : JS X st t := ⟨fun pins s σ H D I q => h pins s σ H D I (w D σ H q)⟩
theorem JB.of {st : List Stmt} {t : S2} {u : TS} (h : PSs X st u) (w : ∀ D σ H, lowS X.K t D σ H → u D σ H) : JB X st t := ⟨fun pins s σ H D I q => h pins s σ H D I (w D σ H q)⟩
end
noncomputable def way2 (b : Bool) (A B : Prop) : Prop := match b with
  | true => A
  | false => B
theorem ifT {c : Bool} {A B : Prop} (e : c = true) (h : A) : way2 c A B := by subst e; exact h
theorem ifF {c : Bool} {A B : Prop} (e : c = false) (h : B) : way2 c A B := by subst e; exact h
theorem ifB {c : Bool} {A B : Prop} (h : c = true → A) (h2 : c = false → B) : way2 c A B := by cases c with | true => exact h rfl | false => exact h2 rfl
noncomputable abbrev eV (i : Nat) : E2 := fun τ G Q => match gt τ i with
  | some p => Q p G
  | none => False
noncomputable abbrev eC (p : PV) : E2 := fun _ G Q => Q p G
noncomputable abbrev aNil : A2 := fun _ G Q => Q [] G
noncomputable abbrev aCons (t : E2) (u : A2) : A2 := fun τ G Q => t τ G fun p G1 => u τ G1 fun ps G2 => Q (p :: ps) G2
noncomputable abbrev eTup (t : A2) : E2 := fun τ G Q => t τ G fun ps G1 => ps.length ≤ 1000 ∧ Q (.tup ps) G1
noncomputable abbrev eLst (t : A2) : E2 := fun τ G Q => t τ G fun ps G1 => ps.length ≤ 1000 ∧ ∀ p, G1 p = none → Q (.ref p) (up G1 p (.lst ps))
noncomputable abbrev B2 := PV → PV → Gp → K2 → Prop
noncomputable def lowB (K : PySem.W.Frag) (r : B2) : R2 := fun x y H Q => ∃ p q G Q2, Dv K H p x ∧ Dv K H q y ∧ Rep K H G ∧ r p q G Q2 ∧ Cl K H Q2 Q
noncomputable abbrev eOp (r : B2) (ta tb : E2) : E2 := fun τ G Q => ta τ G fun x G1 => tb τ G1 fun y G2 => r x y G2 Q
noncomputable abbrev U2 := PV → Gp → K2 → Prop
noncomputable def lowU (K : PySem.W.Frag) (r : U2) : V → Hp → VK → Prop := fun x H Q => ∃ p G Q2, Dv K H p x ∧ Rep K H G ∧ r p G Q2 ∧ Cl K H Q2 Q
noncomputable abbrev eUn (r : U2) (ta : E2) : E2 := fun τ G Q => ta τ G fun x G1 => r x G1 Q
noncomputable abbrev C2 := List PV → Gp → K2 → Prop
noncomputable def lowC (K : PySem.W.Frag) (r : C2) : List V → Hp → VK → Prop := fun xs H Q => ∃ ps G Q2, Dvs K H ps xs ∧ Rep K H G ∧ r ps G Q2 ∧ Cl K H Q2 Q
noncomputable abbrev eCl (r : C2) (t : A2) : E2 := fun τ G Q => t τ G fun ps G1 => r ps G1 Q
noncomputable abbrev M2 := PV → List PV → Gp → K2 → Prop
noncomputable def lowM (K : PySem.W.Frag) (r : M2) : V → List V → Hp → VK → Prop := fun x xs H Q => ∃ p ps G Q2, Dv K H p x ∧ Dvs K H ps xs ∧ Rep K H G ∧ r p ps G Q2 ∧ Cl K H Q2 Q
noncomputable abbrev tBl (t : E2) : T2 := fun τ G Q => t τ G fun x G1 => match x with
  | .bl b => Q b G1
  | _ => False
noncomputable abbrev tNo (t : T2) : T2 := fun τ G Q => t τ G fun b G1 => Q (!b) G1
noncomputable abbrev tOr2 (t u : T2) : T2 := fun τ G Q => t τ G fun b G1 => way2 b (Q true G1) (u τ G1 Q)
noncomputable abbrev tAnd2 (t u : T2) : T2 := fun τ G Q => t τ G fun b G1 => way2 b (u τ G1 Q) (Q false G1)
noncomputable abbrev eNo (t : E2) : E2 := fun τ G Q => t τ G fun x G1 => match x with
  | .bl b => Q (.bl (!b)) G1
  | _ => False
noncomputable abbrev eOr2 (t u : E2) : E2 := fun τ G Q => t τ G fun x G1 => match x with
  | .bl b => way2 b (Q (.bl true) G1) (u τ G1 Q)
  | _ => False
noncomputable abbrev eAnd2 (t u : E2) : E2 := fun τ G Q => t τ G fun x G1 => match x with
  | .bl b => way2 b (u τ G1 Q) (Q (.bl false) G1)
  | _ => False
noncomputable abbrev eIf2 (c : T2) (t u : E2) : E2 := fun τ G Q => c τ G fun b G1 => way2 b (t τ G1 Q) (u τ G1 Q)
section
variable {X : Cx} {a b c e : Expr} {es : List Expr} {ta tb : E2} {t : A2} {tA tB : T2} {pos p : Pos} {x : Str}
theorem jv (i : Nat) (hN : X.N[i]? = some x := by rfl) (hv : Vis X.env.scope x := by first | exact Or.inl rfl | exact Or.inr (Or.inl rfl) | exact Or.inr (Or.inr rfl)) (hd : (x == ("__debug__" : Str)) = false := by decide)
    (hcd : (x == ("__classdict__" : Str)) = false := by decide) : JE X (.Name x pos) (eV i) := .of (pe_var hN hv hd hcd) fun σ H Q ⟨τ, G, Q2, rs, rp, h, cl⟩ => by
  unfold eV at h
  split at h
  · rename_i p e
    obtain ⟨v, ev, d⟩ := rs.2 i p (gt_some e)
    exact ⟨v, ev, cl _ _ _ _ h d rp .refl⟩
  · exact h.elim
theorem JE.const {p : PV} {v : V} (h : PE X e (tC v)) (d : ∀ H, Dv X.K H p v) : JE X e (eC p) := .of h fun σ H Q ⟨τ, G, Q2, rs, rp, q, cl⟩ => cl _ _ _ _ q (d H) rp .refl
theorem j_int {i : Int} {j : Nat} : JE X (.Constant (.int i) j pos) (eC (.int i)) := .const pe_int fun _ => rfl
theorem j_bl {v : Bool} {j : Nat} : JE X (.Constant (.bool v) j pos) (eC (.bl v)) := .const pe_bl fun _ => rfl
theorem j_non {j : Nat} : JE X (.Constant .none j pos) (eC .non) := .const pe_non fun _ => rfl
theorem j_str {z : Str} {j : Nat} : JE X (.Constant (.str z) j pos) (eC (.str z)) := .const pe_str fun _ => rfl
theorem j_glob {v : V} {q : PV} {u : Value} (hm : X.mg x = some u) (r : RelV v u) (d : ∀ H, Dv X.K H q v) (hg : Gl X x := by rfl) (hd : (x == ("__debug__" : Str)) = false := by decide) : JE X (.Name x pos) (eC q) := .const (pe_glob hg hm r hd) d
theorem j_ty {T : String} (hm : X.mg x = none) (hv : bootBuiltins x = some (.type T)) (hg : Gl X x := by rfl) (hn : x ≠ "__name__" := by decide) (hd : (x == ("__debug__" : Str)) = false := by decide) : JE X (.Name x pos) (eC (.ty T)) :=
  .const (pe_bltn (v := .ty T) hg hm hv rfl hn hd) fun _ => rfl
theorem ja_nil : JA X [] aNil := .of pa_nil fun σ H Q ⟨τ, G, Q2, rs, rp, q, cl⟩ => cl _ _ _ _ q .nil rp .refl
theorem ja_cons (ha : JE X e ta) (hr : JA X es t) (hs : starEach (e :: es) X.env = (false, eval e X.env) :: starEach es X.env := by rfl) : JA X (e :: es) (aCons ta t) := .of (pa_cons ha.h hr.h hs) fun σ H Q ⟨τ, G, Q2, rs, rp, q, cl⟩ => by
  refine ⟨τ, G, _, rs, rp, q, fun p G1 v H1 q1 d1 r1 k1 => ?_⟩
  exact ⟨τ, G1, _, rs.keep k1, r1, q1, fun ps G2 vs H2 q2 d2 r2 k2 => cl _ _ _ _ q2 (.cons (d1.keep k2) d2) r2 (k1.trans k2)⟩
theorem j_tup {x1 : Nat} (h : JA X es t) : JE X (.Tuple es x1 pos) (eTup t) := .of (pe_tup h.h) fun σ H Q ⟨τ, G, Q2, rs, rp, q, cl⟩ => by
  refine ⟨τ, G, _, rs, rp, q, fun ps G1 vs H1 q1 d1 r1 k1 => ?_⟩
  obtain ⟨hl, q1⟩ := q1
  refine ⟨by rw [d1.length]; exact Nat.le_trans hl (by decide), fun a ha => ?_⟩
  have kn : Keep X.K H1 (upd H1 a (.tup vs)) := keep_new ha
  exact cl _ _ _ _ q1 ⟨a, vs, rfl, .of upd_same, d1.keep kn⟩ (r1.tup ha) (k1.trans kn)
theorem j_lst (h : JA X es t) : JE X (.List es pos) (eLst t) := .of (pe_lst h.h) fun σ H Q ⟨τ, G, Q2, rs, rp, q, cl⟩ => by
  refine ⟨τ, G, _, rs, rp, q, fun ps G1 vs H1 q1 d1 r1 k1 => ?_⟩
  obtain ⟨hl, q1⟩ := q1
  refine ⟨by rw [d1.length]; exact Nat.le_trans hl (by decide), fun a ha => ?_⟩
  have kn : Keep X.K H1 (upd H1 a (.lst vs)) := keep_new ha
  exact cl _ _ _ _ (q1 a (r1.none ha)) rfl (r1.new ha d1) (k1.trans kn)
theorem low_op {r : B2} {σ : St} {H : Hp} {Q : VK} (q : lowE X.K (eOp r ta tb) σ H Q) : tOp (lowB X.K r) (lowE X.K ta) (lowE X.K tb) σ H Q := by
  obtain ⟨τ, G, Q2, rs, rp, q, cl⟩ := q
  refine ⟨τ, G, _, rs, rp, q, fun p G1 v H1 q1 d1 r1 k1 => ⟨τ, G1, _, rs.keep k1, r1, q1, fun p2 G2 v2 H2 q2 d2 r2 k2 => ?_⟩⟩
  exact ⟨p, p2, G2, Q2, d1.keep k2, d2, r2, q2, cl.keep (k1.trans k2)⟩
theorem j_op {op : Operator} {r : B2} (ho : OpR X (binaryOp op) (lowB X.K r)) (ha : JE X a ta) (hb : JE X b tb) : JE X (.BinOp a op b pos) (eOp r ta tb) := .of (pe_op ho ha.h hb.h) fun σ H Q q => low_op q
theorem j_cmp {op : CmpOp} {r : B2} (ho : OpR X (compareOp op) (lowB X.K r)) (ha : JE X a ta) (hb : JE X b tb) (hm : behindInMarks op b = false) : JE X (.Compare a [op] [b] pos) (eOp r ta tb) := .of (pe_cmpR ho ha.h hb.h hm) fun σ H Q q => low_op q
theorem low_tBl {u : TE} (w : ∀ σ H Q, lowE X.K ta σ H Q → u σ H Q) {σ : St} {H : Hp} {Q : Bool → Hp → Prop} (q : lowT X.K (tBl ta) σ H Q) : tTest u σ H Q := by
  obtain ⟨τ, G, Q2, rs, rp, q, cl⟩ := q
  refine w _ _ _ ⟨τ, G, _, rs, rp, q, fun p G1 v H1 q1 d1 r1 k1 => ?_⟩
  cases p with
  | bl b =>
    obtain rfl : v = .bl b := d1
    exact ⟨b, rfl, cl _ _ _ q1 r1 k1⟩
  | _ => exact False.elim q1
theorem jt_cmp {op : CmpOp} {r : B2} (ho : OpR X (compareOp op) (lowB X.K r)) (ha : JE X a ta) (hb : JE X b tb) (hm : behindInMarks op b = false) : JT X (.Compare a [op] [b] pos) (tBl (eOp r ta tb)) := .of (pt_cmpR ho ha.h hb.h hm) fun σ H Q q => low_tBl (fun _ _ _ z => low_op z) q
theorem jt_val (h : JE X e ta) (he : ∀ whole, isTrue e X.env whole = (do let v ← whole; standAt e.pos; holding [v] (truthy v)) := by intro _; rfl) : JT X e (tBl ta) := .of (pt_val h.h he) fun σ H Q q => low_tBl (fun _ _ _ z => z) q
theorem jt_not (ha : JT X a tA) : JT X (.UnaryOp .Not a pos) (tNo tA) := .of (pt_not ha.h) fun σ H Q ⟨τ, G, Q2, rs, rp, q, cl⟩ => ⟨τ, G, _, rs, rp, q, fun b G1 H1 q1 r1 k1 => cl _ _ _ q1 r1 k1⟩
theorem jw_or1 (ha : JT X a tA) : JW X (.BoolOp .Or [a] pos) tA := ⟨pw_or1 ha.h⟩
theorem jw_and1 (ha : JT X a tA) : JW X (.BoolOp .And [a] pos) tA := ⟨pw_and1 ha.h⟩
theorem jw_or {rest : List Expr} (ha : JT X a tA) (hb : JW X (.BoolOp .Or (b :: rest) pos) tB) : JW X (.BoolOp .Or (a :: b :: rest) pos) (tOr2 tA tB) := .of (pw_or ha.h hb.h) fun σ H Q ⟨τ, G, Q2, rs, rp, q, cl⟩ => by
  refine ⟨τ, G, _, rs, rp, q, fun b G1 H1 q1 r1 k1 => ?_⟩
  cases b with
  | true => exact iteT (cl _ _ _ q1 r1 k1)
  | false => exact iteF ⟨τ, G1, Q2, rs.keep k1, r1, q1, cl.keep k1⟩
theorem jw_and {rest : List Expr} (ha : JT X a tA) (hb : JW X (.BoolOp .And (b :: rest) pos) tB) : JW X (.BoolOp .And (a :: b :: rest) pos) (tAnd2 tA tB) := .of (pw_and ha.h hb.h) fun σ H Q ⟨τ, G, Q2, rs, rp, q, cl⟩ => by
  refine ⟨τ, G, _, rs, rp, q, fun b G1 H1 q1 r1 k1 => ?_⟩
  cases b with
  | true => exact iteT ⟨τ, G1, Q2, rs.keep k1, r1, q1, cl.keep k1⟩
  | false => exact iteF (cl _ _ _ q1 r1 k1)
theorem JW.jt (h : JW X e tA) : JT X e tA := ⟨h.h.pt⟩
theorem j_not (ha : JE X a ta) : JE X (.UnaryOp .Not a pos) (eNo ta) := .of (pe_not ha.h) fun σ H Q ⟨τ, G, Q2, rs, rp, q, cl⟩ => by
  refine ⟨τ, G, _, rs, rp, q, fun p G1 v H1 q1 d1 r1 k1 => ?_⟩
  cases p with
  | bl b =>
    obtain rfl : v = .bl b := d1
    exact ⟨b, rfl, cl _ _ _ _ q1 rfl r1 k1⟩
  | _ => exact False.elim q1
theorem j_one {op : BoolOp} (h : JE X a ta) : JE X (.BoolOp op [a] pos) ta := ⟨pe_one h.h⟩
theorem j_and {rest : List Expr} (ha : JE X a ta) (hb : JE X (.BoolOp .And (b :: rest) pos) tb) : JE X (.BoolOp .And (a :: b :: rest) pos) (eAnd2 ta tb) := .of (pe_and ha.h hb.h) fun σ H Q ⟨τ, G, Q2, rs, rp, q, cl⟩ => by
  refine ⟨τ, G, _, rs, rp, q, fun p G1 v H1 q1 d1 r1 k1 => ?_⟩
  cases p with
  | bl b =>
    obtain rfl : v = .bl b := d1
    refine ⟨b, rfl, ?_⟩
    cases b with
    | true => exact iteT ⟨τ, G1, Q2, rs.keep k1, r1, q1, cl.keep k1⟩
    | false => exact iteF (cl _ _ _ _ q1 rfl r1 k1)
  | _ => exact False.elim q1
theorem j_or {rest : List Expr} (ha : JE X a ta) (hb : JE X (.BoolOp .Or (b :: rest) pos) tb) : JE X (.BoolOp .Or (a :: b :: rest) pos) (eOr2 ta tb) := .of (pe_or ha.h hb.h) fun σ H Q ⟨τ, G, Q2, rs, rp, q, cl⟩ => by
  refine ⟨τ, G, _, rs, rp, q, fun p G1 v H1 q1 d1 r1 k1 => ?_⟩
  cases p with
  | bl b =>
    obtain rfl : v = .bl b := d1
    refine ⟨b, rfl, ?_⟩
    cases b with
    | true => exact iteT (cl _ _ _ _ q1 rfl r1 k1)
    | false => exact iteF ⟨τ, G1, Q2, rs.keep k1, r1, q1, cl.keep k1⟩
  | _ => exact False.elim q1
theorem j_ifE (hc : JT X c tA) (ha : JE X a ta) (hb : JE X b tb) : JE X (.IfExp c a b pos) (eIf2 tA ta tb) := .of (pe_ifExp hc.h ha.h hb.h) fun σ H Q ⟨τ, G, Q2, rs, rp, q, cl⟩ => by
  refine ⟨τ, G, _, rs, rp, q, fun b G1 H1 q1 r1 k1 => ?_⟩
  cases b with
  | true => exact iteT ⟨τ, G1, Q2, rs.keep k1, r1, q1, cl.keep k1⟩
  | false => exact iteF ⟨τ, G1, Q2, rs.keep k1, r1, q1, cl.keep k1⟩
theorem j_un {op : UnaryOp} {r : U2} (ho : UnR X (unaryOp op) (lowU X.K r)) (ha : JE X a ta) : JE X (.UnaryOp op a pos) (eUn r ta) := .of (pe_un ho ha.h) fun σ H Q ⟨τ, G, Q2, rs, rp, q, cl⟩ => by
  exact ⟨τ, G, _, rs, rp, q, fun p G1 v H1 q1 d1 r1 k1 => ⟨p, G1, Q2, d1, r1, q1, cl.keep k1⟩⟩
theorem j_ix {r : B2} (hr : IxR X (lowB X.K r)) (ha : JE X a ta) (hb : JE X b tb) (hs : PlainIx b) : JE X (.Subscript a b pos) (eOp r ta tb) := .of (pe_ix hr ha.h hb.h hs) fun σ H Q q => low_op q
theorem low_cl {r : C2} {σ : St} {H : Hp} {Q : VK} (q : lowE X.K (eCl r t) σ H Q) : tCB (lowC X.K r) (lowA X.K t) σ H Q := by
  obtain ⟨τ, G, Q2, rs, rp, q, cl⟩ := q
  exact ⟨τ, G, _, rs, rp, q, fun ps G1 vs H1 q1 d1 r1 k1 => ⟨ps, G1, Q2, d1, r1, q1, cl.keep k1⟩⟩
theorem j_callB {id : String} {r : C2} (hc : CallR X (.builtin id) (lowC X.K r)) (hm : X.mg x = none) (hv : bootBuiltins x = some (.builtin id)) (ha : JA X (e :: es) t) (hg : Gl X x := by rfl) (hn : x ≠ "__name__" := by decide) (hdb : (x == ("__debug__" : Str)) = false := by decide)
    (he : starEach (e :: es) X.env = (false, eval e X.env) :: starEach es X.env := by rfl) (hpl : (backTo pos (starEach es X.env)).any (·.1) = false := by rfl) : JE X (.Call (.Name x p) (e :: es) [] pos) (eCl r t) := .of (pe_callB hc hg hm hv ha.h hn hdb he hpl) fun σ H Q q => low_cl q
theorem j_callTy {T : String} {r : C2} (hc : CallR X (.type T) (lowC X.K r)) (hm : X.mg x = none) (hv : bootBuiltins x = some (.type T)) (ha : JA X (e :: es) t) (hg : Gl X x := by rfl) (hn : x ≠ "__name__" := by decide) (hdb : (x == ("__debug__" : Str)) = false := by decide)
    (he : starEach (e :: es) X.env = (false, eval e X.env) :: starEach es X.env := by rfl) (hpl : (backTo pos (starEach es X.env)).any (·.1) = false := by rfl) : JE X (.Call (.Name x p) (e :: es) [] pos) (eCl r t) := .of (pe_callTy hc hg hm hv ha.h hn hdb he hpl) fun σ H Q q => low_cl q
end
end L3
namespace L3
open PySem L2
noncomputable abbrev sNext : S2 := fun D τ G => D.nx τ G
noncomputable abbrev sSeq (t u : S2) : S2 := fun D τ G => t { D with nx := u D } τ G
noncomputable abbrev sRet (t : E2) : S2 := fun D τ G => t τ G D.rt
noncomputable abbrev sDrop (t : E2) : S2 := fun D τ G => t τ G fun _ G1 => D.nx τ G1
noncomputable abbrev sIf (c : T2) (t u : S2) : S2 := fun D τ G => c τ G fun b G1 => way2 b (t D τ G1) (u D τ G1)
noncomputable abbrev TG2 := PV → St2 → Gp → (St2 → Gp → Prop) → Prop
noncomputable def lowG (K : PySem.W.Frag) (g : TG2) : TG := fun v σ H Q => ∃ p τ G Q2, Dv K H p v ∧ RSt K H σ τ ∧ Rep K H G ∧ g p τ G Q2 ∧ ClS K H Q2 Q
structure JG (X : Cx) (tg : Expr) (g : TG2) : Prop where
  h : PG X tg (lowG X.K g)
theorem JG.of {X : Cx} {tg : Expr} {g : TG2} {u : TG} (h : PG X tg u) (w : ∀ v σ H Q, lowG X.K g v σ H Q → u v σ H Q) : JG X tg g := ⟨fun pins s σ H v z Q I r q => h pins s σ H v z Q I r (w v σ H Q q)⟩
noncomputable abbrev gN (i : Nat) : TG2 := fun p τ G Q => Q (st τ i (some p)) G
noncomputable abbrev gN2 (i j : Nat) : TG2 := fun p τ G Q => match p with
  | .tup [x, y] => Q (st (st τ i (some x)) j (some y)) G
  | _ => False
noncomputable abbrev sAsg (t : E2) (g : TG2) : S2 := fun D τ G => t τ G fun p G1 => g p τ G1 D.nx
section
variable {X : Cx} {a b c e tg : Expr} {es : List Expr} {ta tb : E2} {t : A2} {tA tB : T2} {pos p : Pos} {x : Str} {st : Stmt} {rest sa sb : List Stmt} {u v : S2} {g : TG2}
theorem jg_name {i : Nat} (hN : X.N.Nodup) (hi : X.N[i]? = some x) (hx : Loc X.env.scope x) (hf : X.fn x = true ∨ X.env.scope.names.lookup x = some .local := by first | exact .inl rfl | exact .inr rfl | assumption) : JG X (.Name x pos) (gN i) :=
  .of (pg_name hN hi hx hf) fun v σ H Q ⟨p, τ, G, Q2, d, rs, rp, q, cl⟩ => cl _ _ _ _ q (rs.set d i) rp .refl
theorem jg_name2 {i j : Nat} {y : Str} {p1 p2 : Pos} {k : Nat} (hc : X.calm = true) (hN : X.N.Nodup) (hi : X.N[i]? = some x) (hx : Loc X.env.scope x) (hj : X.N[j]? = some y) (hy : Loc X.env.scope y)
    (hf : X.fn x = true ∨ X.env.scope.names.lookup x = some .local := by first | exact .inl rfl | exact .inr rfl | assumption) (hf2 : X.fn y = true ∨ X.env.scope.names.lookup y = some .local := by first | exact .inl rfl | exact .inr rfl | assumption) :
    JG X (.Tuple [.Name x p1, .Name y p2] k pos) (gN2 i j) :=
  .of (pg_tup (n := 2) hc (pgs_cons (pg_name hN hi hx hf) (pgs_cons (pg_name hN hj hy hf2) pgs_nil)) (by rfl) (by rfl)) fun v σ H Q ⟨p, τ, G, Q2, d, rs, rp, q, cl⟩ => by
    unfold gN2 at q
    split at q
    · rename_i p1 p2
      obtain ⟨a, vs, rfl, sq, dv⟩ := d
      obtain ⟨v1, r1, rfl, d1, dv⟩ := dv
      obtain ⟨v2, r2, rfl, d2, dv⟩ := dv
      obtain rfl : r2 = [] := dv
      exact ⟨a, [v1, v2], rfl, sq, rfl, v1, [v2], rfl, v2, [], rfl, rfl, cl _ _ _ _ q ((rs.set d1 i).set d2 j) rp .refl⟩
    · exact q.elim
theorem js_asg (he : JE X e ta) (hg : JG X tg g) (hs : swapsWithSole [tg] e pos.line X.env = pure false := by rfl) (hw : swappedStores [tg] e X.env = pure none := by rfl)
    (h1 : (assignEach [tg] X.env).map (·.2) = [assign tg X.env] := by rfl) : JS X (.Assign [tg] e pos) (sAsg ta g) := .of (ps_asg he.h hg.h hs hw h1) fun D σ H ⟨τ, G, D2, rs, rp, q, cl⟩ => by
  exact ⟨τ, G, _, rs, rp, q, fun p G1 v H1 q1 d1 r1 k1 => ⟨p, τ, G1, D2.nx, d1, rs.keep k1, r1, q1, cl.nx.keep k1⟩⟩
theorem js_set {i : Nat} {pos' : Pos} (he : JE X e ta) (hN : X.N.Nodup) (hi : X.N[i]? = some x) (hx : Loc X.env.scope x) (hs : swapsWith e (some (.Name x pos')) pos.line X.env = pure false := by rfl)
    (hf : X.fn x = true ∨ X.env.scope.names.lookup x = some .local := by first | exact .inl rfl | exact .inr rfl | assumption) : JS X (.Assign [.Name x pos'] e pos) (sAsg ta (gN i)) := .of (ps_set hN hi hx he.h hs hf) fun D σ H ⟨τ, G, D2, rs, rp, q, cl⟩ => by
  exact ⟨τ, G, _, rs, rp, q, fun p G1 v H1 q1 d1 r1 k1 => cl.nx _ _ _ _ q1 ((rs.keep k1).set d1 i) r1 k1⟩
theorem js_expr (he : JE X e ta) (hs : swapsWith e none pos.line X.env = pure false := by rfl) : JS X (.Expr e pos) (sDrop ta) := .of (ps_expr he.h hs) fun D σ H ⟨τ, G, D2, rs, rp, q, cl⟩ => by
  exact ⟨τ, G, _, rs, rp, q, fun p G1 v H1 q1 d1 r1 k1 => cl.nx _ _ _ _ q1 (rs.keep k1) r1 k1⟩
theorem js_ret (he : JE X e ta) : JS X (.Return (some e) pos) (sRet ta) := .of (ps_ret he.h) fun D σ H ⟨τ, G, D2, rs, rp, q, cl⟩ => ⟨τ, G, _, rs, rp, q, cl.rt⟩
theorem js_if (hc : JT X c tA) (ha : JB X sa u) (hb : JB X sb v) : JS X (.If c sa sb pos) (sIf tA u v) := .of (ps_if hc.h ha.h hb.h) fun D σ H ⟨τ, G, D2, rs, rp, q, cl⟩ => by
  refine ⟨τ, G, _, rs, rp, q, fun b G1 H1 q1 r1 k1 => ?_⟩
  cases b with
  | true => exact iteT ⟨τ, G1, D2, rs.keep k1, r1, q1, cl.keep k1⟩
  | false => exact iteF ⟨τ, G1, D2, rs.keep k1, r1, q1, cl.keep k1⟩
theorem js_pass : JS X (.Pass pos) sNext := .of ps_pass fun D σ H ⟨τ, G, D2, rs, rp, q, cl⟩ => cl.nx _ _ _ _ q rs rp .refl
theorem jb_nil : JB X [] sNext := .of pss_nil fun D σ H ⟨τ, G, D2, rs, rp, q, cl⟩ => cl.nx _ _ _ _ q rs rp .refl
theorem jb_one (h : JS X st u) : JB X [st] u := ⟨pss_one h.h⟩
theorem jb_cons {s2 : Stmt} (h : JS X st u) (h2 : JB X (s2 :: rest) v) : JB X (st :: s2 :: rest) (sSeq u v) := .of (pss_cons h.h h2.h) fun D σ H ⟨τ, G, D2, rs, rp, q, cl⟩ => by
  refine ⟨τ, G, { D2 with nx := v D2 }, rs, rp, q, ⟨fun τ1 G1 σ1 H1 q1 rs1 r1 k1 => ?_, cl.rt, cl.bk, cl.ct⟩⟩
  exact ⟨τ1, G1, D2, rs1, r1, q1, cl.keep k1⟩
end
noncomputable abbrev Set2 := PV → PV → PV → Gp → (Gp → Prop) → Prop
noncomputable def lowSet (K : PySem.W.Frag) (r : Set2) : TSet := fun o i v H Q => ∃ po pi pv G Q2, Dv K H po o ∧ Dv K H pi i ∧ Dv K H pv v ∧ Rep K H G ∧ r po pi pv G Q2 ∧ ∀ G' H', Q2 G' → Rep K H' G' → Keep K H H' → Q H'
noncomputable def setL : Set2 := fun o i v G Q => match o, i with
  | .ref a, .int k => match G a with
    | some (.lst ps) => match ixN ps.length k with
      | some j => Q (up G a (.lst (ps.set j v)))
      | none => False
    | _ => False
  | _, _ => False
noncomputable abbrev gSub2 (to ti : E2) (r : Set2) : TG2 := fun p τ G Q => to τ G fun o G1 => ti τ G1 fun i G2 => r o i p G2 fun G3 => Q τ G3
theorem PSet.of {X : Cx} {t u : TSet} (h : PSet X u) (w : ∀ o i v H Q, t o i v H Q → u o i v H Q) : PSet X t := fun pins s σ H o i v ov iv z Q I r1 r2 r3 q => h pins s σ H o i v ov iv z Q I r1 r2 r3 (w _ _ _ _ _ q)
theorem set_L {X : Cx} : PSet X (lowSet X.K setL) := PSet.of set_list fun o i v H Q ⟨po, pi, pv, G, Q2, d1, d2, d3, rp, q, cl⟩ => by
  unfold setL at q
  split at q
  · rename_i a k
    split at q
    · rename_i ps e
      split at q
      · rename_i j ej
        obtain rfl : o = .ref a := d1
        obtain rfl : i = .int k := d2
        obtain ⟨vs, hv, dv⟩ := rp.lst e
        refine ⟨a, vs, k, j, rfl, rfl, hv, by rw [dv.length]; exact ej, cl _ _ q (rp.put hv (dv.set d3 j)) (keep_lst hv)⟩
      · exact q.elim
    · exact q.elim
  · exact q.elim
section
variable {X : Cx} {o i e : Expr} {to ti te : E2} {pos : Pos} {x : Str}
theorem jg_sub {r : Set2} (ho : JE X o to) (hi : JE X i ti) (hs : PSet X (lowSet X.K r))
    (ha : ∀ v, assign (.Subscript o i pos) X.env v = (do
      let ov ← holding [v] (eval o X.env)
      let iv ← holding [v, ov] (eval i X.env)
      standAt pos
      holding [v, ov, iv] (setItem ov iv v)
      release [v, ov, iv] []) := by intro _; rfl) : JG X (.Subscript o i pos) (gSub2 to ti r) := .of (pg_sub ho.h hi.h hs ha) fun v σ H Q ⟨p, τ, G, Q2, d, rs, rp, q, cl⟩ => by
  refine ⟨τ, G, _, rs, rp, q, fun p1 G1 v1 H1 q1 d1 r1 k1 => ⟨τ, G1, _, rs.keep k1, r1, q1, fun p2 G2 v2 H2 q2 d2 r2 k2 => ?_⟩⟩
  exact ⟨p1, p2, p, G2, _, d1.keep k2, d2, d.keep (k1.trans k2), r2, q2, fun G3 H3 q3 r3 k3 => cl _ _ _ _ q3 (rs.keep ((k1.trans k2).trans k3)) r3 ((k1.trans k2).trans k3)⟩
end
noncomputable abbrev Sp2 := List PV → Gp → K2 → Prop
noncomputable def spL (K : PySem.W.Frag) (sp : Sp2) : Sp := fun vs H Q _ => ∃ ps G Q2, Dvs K H ps vs ∧ Rep K H G ∧ sp ps G Q2 ∧ Cl K H Q2 Q
@[reducible] noncomputable def start2 : List Str → List PV → St2
  | [], _ => []
  | _ :: N, p :: ps => some p :: start2 N ps
  | _ :: N, [] => none :: start2 N []
theorem start2_nil : ∀ N : List Str, start2 N [] = List.replicate N.length none
  | [] => rfl
  | _ :: N => by simp [start2, start2_nil N, List.replicate_succ]
theorem start2_eq : ∀ (N : List Str) (ps : List PV), ps.length ≤ N.length → start2 N ps = ps.map some ++ List.replicate (N.length - ps.length) none
  | [], [], _ => rfl
  | [], _ :: _, h => by simp at h
  | _ :: N, p :: ps, h => by
    simp only [start2, List.map_cons, List.length_cons, List.cons_append]
    rw [start2_eq N ps (by simpa using h)]
    simp
  | n :: N, [], _ => by rw [start2_nil]; simp
theorem start_rst {K : PySem.W.Frag} {H : Hp} {N : List Str} {ps : List PV} {vs : List V} (d : Dvs K H ps vs) (hN : ps.length ≤ N.length) : RSt K H (L2.start N vs) (start2 N ps) := by
  have hl := d.length
  rw [start2_eq N ps hN]
  refine ⟨by unfold L2.start; simp [hl], fun i p e => ?_⟩
  unfold L2.start
  by_cases hi : i < ps.length
  · rw [List.getElem?_append_left (by simpa using hi), List.getElem?_map] at e
    rw [List.getElem?_append_left (by simpa [hl] using hi), List.getElem?_map]
    cases q : ps[i]? with
    | none => rw [q] at e; cases e
    | some p' =>
      rw [q] at e
      have : p' = p := by simpa using e
      subst this
      obtain ⟨v, ev, dv⟩ := d.at q
      exact ⟨v, by rw [ev]; rfl, dv⟩
  · rw [List.getElem?_append_right (by simpa using Nat.le_of_not_lt hi), List.getElem?_replicate] at e
    split at e <;> cases e
noncomputable def GE (G0 G : Gp) : Prop := ∀ a o, G0 a = some o → G a = some o
theorem GE.refl {G : Gp} : GE G G := fun _ _ h => h
theorem GE.new {G0 G : Gp} {a : Addr} {o : MO} (h : GE G0 G) (n : G a = none) : GE G0 (up G a o) := fun b u q => by
  have : b ≠ a := fun z => by subst z; rw [h _ _ q] at n; cases n
  rw [up_ne this]; exact h b u q
noncomputable abbrev Ok2 (P : Program) (w : World) (K : PySem.W.Frag) (mg : Str → Option Value) (base : Heap) (k : Nat) (f : Addr) (fd : FuncData) (ps : List Str) (sp : Sp2) : Prop := FnOk P w K mg base CX0 k f fd ps (spL K sp)
structure Cal2 (P : Program) (w : World) (K : PySem.W.Frag) (mg : Str → Option Value) (base : Heap) (k : Nat) (x : Str) (f : Addr) (fd : FuncData) (ps : List Str) (sp : Sp2) : Prop where
  ok : Ok2 P w K mg base k f fd ps sp
  b : Binds K fd ps []
  kp : PySem.W.keepIn K (.ref f) = true
  m : mg x = some (.ref f)
section
variable {P : Program} {w : World} {K : PySem.W.Frag} {mg : Str → Option Value} {base : Heap}
theorem fn2 {x qual : Str} {st : Stmt} {f : Addr} {fd : FuncData} {N ps : List Str} {k : Nat} {sp : Sp2} (F : Fun K x qual st f fd) (S : FnScope N ps (defScope st)) (len : ∀ vs G Q, sp vs G Q → vs.length = ps.length)
    (hbody : ∀ (cdv : Value) (A : Around) (outer : List Env) (s : Shared) (H : Hp) (E : XK) (as : List PV) (G : Gp) (Q : K2), Room k (A.deeper (PyProof.Rows.envOfC qual (defScope st) s.heap.objs.size f cdv)) → sp as G Q →
      ∃ t, JB (cxOf CX0 P w K mg base N qual (defScope st) f cdv A outer s H E).nox (defBody st) t ∧ t { nx := fun _ G' => ∃ G0, GE G0 G' ∧ Q .non G0, rt := fun p G' => ∃ G0, GE G0 G' ∧ Q p G0 } (start2 N as) G) : Ok2 P w K mg base (k + 1) f fd ps sp := by
  refine F.ok S (fun vs H Q E h => ?_) (fun cdv A outer s H vs Q E hr h => ?_)
  · obtain ⟨as, G, Q2, d, _, h, _⟩ := h
    rw [d.length]; exact len _ _ _ h
  obtain ⟨as, G, Q2, d, rp, h, cl⟩ := h
  obtain ⟨t, j, q⟩ := hbody cdv A outer s H E as G Q2 hr h
  refine ⟨_, j.h, start2 N as, G, _, start_rst d (by rw [len _ _ _ h, ← S.pre, List.length_take]; omega), rp, q, ⟨fun τ G' σ H' ⟨G0, e0, q1⟩ _ r1 k1 => cl _ _ _ _ q1 rfl (r1.sub e0) k1, fun p G' v H' ⟨G0, e0, q1⟩ d1 r1 k1 => cl _ _ _ _ q1 d1 (r1.sub e0) k1, fun _ _ _ _ q1 => q1.elim, fun _ _ _ _ q1 => q1.elim⟩⟩
end
noncomputable abbrev eCall (sp : Sp2) (t : A2) : E2 := fun τ G Q => t τ G fun ps G1 => sp ps G1 Q
section
variable {X : Cx} {e : Expr} {es : List Expr} {t : A2} {pos p : Pos} {x : Str}
theorem low_call {sp : Sp2} {σ : L2.St} {H : Hp} {Q : VK} (q : lowE X.K (eCall sp t) σ H Q) : tCall (spL X.K sp) [] E0 (lowA X.K t) σ H Q := by
  obtain ⟨τ, G, Q2, rs, rp, q, cl⟩ := q
  refine ⟨τ, G, _, rs, rp, q, fun ps G1 vs H1 q1 d1 r1 k1 => ?_⟩
  show spL X.K sp (vs ++ []) H1 Q E0
  rw [List.append_nil]
  exact ⟨ps, G1, Q2, d1, r1, q1, cl.keep k1⟩
theorem j_cal {k k' : Nat} {f : Addr} {fd : FuncData} {ps : List Str} {sp : Sp2} (C : Cal2 X.prog X.w X.K X.mg X.base k x f fd ps sp) (hr : Room k' X.A) (hk : k ≤ k') (ha : JA X (e :: es) t) (hg : Gl X x := by rfl)
    (hdb : (x == ("__debug__" : Str)) = false := by decide) (he : starEach (e :: es) X.env = (false, eval e X.env) :: starEach es X.env := by rfl) (hpl : (backTo pos (starEach es X.env)).any (·.1) = false := by rfl) :
    JE X (.Call (.Name x p) (e :: es) [] pos) (eCall sp t) := .of (pe_call (C.ok.mono hk) hr hg C.m C.kp C.b .nil pass0 ha.h hdb he hpl) fun σ H Q q => low_call q
end
noncomputable abbrev sWhile (c : T2) (tb : S2) : S2 := fun D τ G => ∃ W : Nat → St2 → Gp → Prop, (∃ m, W m τ G) ∧ ∀ m τ G, W m τ G →
  c τ G fun b G1 => way2 b (tb { D with nx := fun τ' G' => ∃ m', m' < m ∧ W m' τ' G', ct := fun τ' G' => ∃ m', m' < m ∧ W m' τ' G', bk := D.nx } τ G1) (D.nx τ G1)
section
variable {X : Cx} {c : Expr} {body : List Stmt} {tc : T2} {tb : S2} {pos : Pos}
theorem js_while (hp : PassesOwn (model X.prog X.w) X.A X.env X.xe) (hc : JT X c tc) (hb : JB X body tb) : JS X (.While c body [] pos) (sWhile tc tb) := .of (ps_while hp hc.h hb.h) fun D σ H ⟨τ, G, D2, rs, rp, ⟨W, ⟨m0, w0⟩, turn⟩, cl⟩ => by
  refine ⟨fun m σ' H' => ∃ τ' G', W m τ' G' ∧ RSt X.K H' σ' τ' ∧ Rep X.K H' G' ∧ Keep X.K H H', ⟨m0, τ, G, w0, rs, rp, .refl⟩, ?_⟩
  rintro m σ1 H1 ⟨τ1, G1, w1, rs1, rp1, k1⟩
  refine ⟨τ1, G1, _, rs1, rp1, turn m τ1 G1 w1, fun b G2 H2 q2 r2 k2 => ?_⟩
  cases b with
  | false => exact iteF (cl.nx _ _ _ _ q2 (rs1.keep k2) r2 (k1.trans k2))
  | true =>
    refine iteT ⟨fun σ' H' => ∃ τ' G', (∃ m', m' < m ∧ W m' τ' G') ∧ RSt X.K H' σ' τ' ∧ Rep X.K H' G' ∧ Keep X.K H H', fun σ' H' ⟨τ', G', ⟨m', hm, w'⟩, a, b, c⟩ => ⟨m', hm, τ', G', w', a, b, c⟩, ?_⟩
    have kk := k1.trans k2
    exact ⟨τ1, G2, _, rs1.keep k2, r2, q2, ⟨fun τ' G' σ' H' q' a b c => ⟨τ', G', q', a, b, kk.trans c⟩, cl.rt.keep kk, cl.nx.keep kk, fun τ' G' σ' H' q' a b c => ⟨τ', G', q', a, b, kk.trans c⟩⟩⟩
end
noncomputable abbrev TI2 := St2 → Gp → (List PV → (Gp → Prop) → Gp → Prop) → Prop
noncomputable def ItOk (K : PySem.W.Frag) (H1 : Hp) (J : It) (items : List PV) (c : Gp → Prop) : Prop := ∀ (i : Nat) H G, Keep K H1 H → Rep K H G → c G →
  (i < items.length → J.go i H) ∧ (i = items.length → J.stop i H) ∧ ∀ x H', i < items.length → J.yld i H x H' → ∃ p, items[i]? = some p ∧ Keep K H H' ∧ Rep K H' G ∧ Dv K H' p x
noncomputable def lowI (K : PySem.W.Frag) (t : TI2) : TI := fun σ H R => ∃ τ G R2, RSt K H σ τ ∧ Rep K H G ∧ t τ G R2 ∧ ∀ items c G' J H', R2 items c G' → Rep K H' G' → Keep K H H' → ItOk K H' J items c → R J H'
structure JI (X : Cx) (tg iter : Expr) (t : TI2) : Prop where
  h : PI X tg iter (lowI X.K t)
theorem JI.of {X : Cx} {tg iter : Expr} {t : TI2} {u : TI} (h : PI X tg iter u) (w : ∀ σ H R, lowI X.K t σ H R → u σ H R) : JI X tg iter t := ⟨fun pins s σ H R I q => h pins s σ H R I (w σ H R q)⟩
noncomputable abbrev sFor (ti : TI2) (g : TG2) (tb : S2) : S2 := fun D τ G => ti τ G fun items c G1 => ∃ W : Nat → St2 → Gp → Prop, W 0 τ G1 ∧ (∀ i τ G, i ≤ items.length → W i τ G → c G) ∧
  (∀ i x τ G, items[i]? = some x → W i τ G → g x τ G fun τ' G' => tb { D with nx := W (i + 1), ct := W (i + 1), bk := D.nx } τ' G') ∧ ∀ τ G, W items.length τ G → D.nx τ G
section
variable {X : Cx} {tg iter : Expr} {body : List Stmt} {ti : TI2} {g : TG2} {tb : S2} {pos : Pos}
theorem js_for (hp : PassesOwn (model X.prog X.w) X.A X.env X.xe) (hc : X.calm = true) (hi : JI X tg iter ti) (hg : JG X tg g) (hb : JB X body tb)
    (hs : ∀ x, foldedSetIterable iter X.env x = pure x := by intro _; rfl) : JS X (.For tg iter body [] pos) (sFor ti g tb) := .of (ps_for hp hc hi.h hg.h hb.h hs) fun D σ H ⟨τ, G, D2, rs, rp, q, cl⟩ => by
  refine ⟨τ, G, _, rs, rp, q, fun items c G1 J H1 q1 r1 k1 ok => ?_⟩
  obtain ⟨W, w0, hcW, turn, done⟩ := q1
  refine ⟨fun i m σ' H' => m = items.length - i ∧ i ≤ items.length ∧ ∃ τ' G', W i τ' G' ∧ RSt X.K H' σ' τ' ∧ Rep X.K H' G' ∧ Keep X.K H1 H', ⟨_, rfl, Nat.zero_le _, τ, G1, w0, rs.keep k1, r1, .refl⟩, ?_⟩
  rintro i m σ2 H2 ⟨rfl, hi, τ2, G2, w2, rs2, rp2, k2⟩
  obtain ⟨o1, o2, o3⟩ := ok i H2 G2 k2 rp2 (hcW i τ2 G2 hi w2)
  by_cases hlt : i < items.length
  · refine .inr ⟨o1 hlt, fun σ' H' => i + 1 ≤ items.length ∧ ∃ τ' G', W (i + 1) τ' G' ∧ RSt X.K H' σ' τ' ∧ Rep X.K H' G' ∧ Keep X.K H1 H', fun σ' H' ⟨hl, z⟩ => ⟨items.length - (i + 1), by omega, rfl, hl, z⟩, fun x H3 y => ?_⟩
    obtain ⟨p, ep, k3, r3, d3⟩ := o3 x H3 hlt y
    have k13 := k2.trans k3
    refine ⟨p, τ2, G2, _, d3, rs2.keep k3, r3, turn i p τ2 G2 ep w2, fun τ4 G4 σ4 H4 q4 rs4 r4 k4 => ?_⟩
    have k14 := k13.trans k4
    have k04 := k1.trans k14
    exact ⟨τ4, G4, _, rs4, r4, q4, ⟨fun τ' G' σ' H' q' a b c => ⟨hlt, τ', G', q', a, b, k14.trans c⟩, cl.rt.keep k04, cl.nx.keep k04, fun τ' G' σ' H' q' a b c => ⟨hlt, τ', G', q', a, b, k14.trans c⟩⟩⟩
  · have e : i = items.length := by omega
    subst e
    exact .inl ⟨o2 rfl, cl.nx _ _ _ _ (done τ2 G2 w2) rs2 rp2 (k1.trans k2)⟩
end
end L3
namespace L3
open PySem L2
mutual
noncomputable def deq : PV → PV → Bool
  | .non, .non => true
  | .bl a, .bl b => a == b
  | .bl a, .int b => (if a then 1 else 0) == b
  | .int a, .bl b => a == (if b then 1 else 0)
  | .int a, .int b => a == b
  | .str a, .str b => a == b
  | .tup xs, .tup ys => deqs xs ys
  | _, _ => false
noncomputable def deqs : List PV → List PV → Bool
  | [], [] => true
  | x :: xs, y :: ys => deq x y && deqs xs ys
  | _, _ => false
end
mutual
noncomputable def pureP : Nat → PV → Bool
  | _, .non => true
  | _, .bl _ => true
  | _, .int _ => true
  | _, .str _ => true
  | n + 1, .tup xs => pureL n xs
  | _, _ => false
noncomputable def pureL : Nat → List PV → Bool
  | _, [] => true
  | n, x :: xs => pureP n x && pureL n xs
end
section
variable {X : Cx} {pins : List (Addr × Obj)} {σ : L2.St} {H : Hp} {s : Shared} {K : PySem.W.Frag}
mutual
theorem same_deq (I : Inv X pins σ H s) : ∀ (n m : Nat) (p q : PV) {v : V}, Dv X.K H p v → Dv X.K H q v → pureP n p = true → pureP m q = true → deq p q = true
  | n, m, .non, q, v, h1, h2, f1, f2 => by
    obtain rfl : v = .non := h1
    cases q with
    | non => rfl
    | tup qs => obtain ⟨a, vs, e, _⟩ := h2; cases e
    | ro qs => cases m <;> cases f2
    | _ => first | cases (show _ = _ from h2) | (cases m <;> cases f2)
  | n, m, .bl b, q, v, h1, h2, f1, f2 => by
    obtain rfl : v = .bl b := h1
    cases q with
    | bl c => cases (show V.bl b = V.bl c from h2); unfold deq; simp
    | tup qs => obtain ⟨a, vs, e, _⟩ := h2; cases e
    | ro qs => cases m <;> cases f2
    | _ => first | cases (show _ = _ from h2) | (cases m <;> cases f2)
  | n, m, .int b, q, v, h1, h2, f1, f2 => by
    obtain rfl : v = .int b := h1
    cases q with
    | int c => cases (show V.int b = V.int c from h2); unfold deq; simp
    | tup qs => obtain ⟨a, vs, e, _⟩ := h2; cases e
    | ro qs => cases m <;> cases f2
    | _ => first | cases (show _ = _ from h2) | (cases m <;> cases f2)
  | n, m, .str b, q, v, h1, h2, f1, f2 => by
    obtain rfl : v = .str b := h1
    cases q with
    | str c => cases (show V.str b = V.str c from h2); unfold deq; simp
    | tup qs => obtain ⟨a, vs, e, _⟩ := h2; cases e
    | ro qs => cases m <;> cases f2
    | _ => first | cases (show _ = _ from h2) | (cases m <;> cases f2)
  | n, m, .tup ps, q, v, h1, h2, f1, f2 => by
    obtain ⟨a, vs, rfl, sq, d⟩ := h1
    cases q with
    | tup qs =>
      obtain ⟨b, us, e, sq2, d2⟩ := h2
      cases e
      obtain rfl := I.tuple_inj sq sq2
      cases n with
      | zero => cases f1
      | succ n =>
        cases m with
        | zero => cases f2
        | succ m =>
          unfold deq
          exact same_deqs I n m ps qs d d2 f1 f2
    | ref b => cases m <;> cases f2
    | ty b => cases m <;> cases f2
    | ro b => cases m <;> cases f2
    | _ => cases (show _ = _ from h2)
  | n, m, .ref a, q, v, h1, h2, f1, f2 => by cases n <;> cases f1
  | n, m, .ty a, q, v, h1, h2, f1, f2 => by cases n <;> cases f1
  | n, m, .ro a, q, v, h1, h2, f1, f2 => by cases n <;> cases f1
theorem same_deqs (I : Inv X pins σ H s) : ∀ (n m : Nat) (ps qs : List PV) {vs : List V}, Dvs X.K H ps vs → Dvs X.K H qs vs → pureL n ps = true → pureL m qs = true → deqs ps qs = true
  | n, m, [], qs, vs, h1, h2, f1, f2 => by
    obtain rfl : vs = [] := h1
    cases qs with
    | nil => rfl
    | cons q qs => obtain ⟨_, _, e, _⟩ := h2; cases e
  | n, m, p :: ps, qs, vs, h1, h2, f1, f2 => by
    obtain ⟨v, r, rfl, d, d'⟩ := h1
    cases qs with
    | nil => cases (show _ = _ from h2)
    | cons q qs =>
      obtain ⟨_, _, e, d2, d2'⟩ := h2
      cases e
      unfold pureL at f1 f2
      rw [Bool.and_eq_true] at f1 f2
      unfold deqs
      rw [same_deq I n m p q d d2 f1.1 f2.1, same_deqs I n m ps qs d' d2' f1.2 f2.2]
      rfl
end
noncomputable def deqJ (ps qs : List PV) (j : Nat) : Bool := match ps[j]?, qs[j]? with
  | some p, some q => deq p q
  | _, _ => true
theorem deqs_range : ∀ (ps qs : List PV), ps.length = qs.length → (List.range ps.length).all (deqJ ps qs) = deqs ps qs
  | [], [], _ => rfl
  | p :: ps, q :: qs, h => by
    have ih := deqs_range ps qs (by simpa using h)
    unfold deqs
    rw [← ih, List.length_cons, List.range_succ_eq_map, List.all_cons, List.all_map]
    rfl
  | [], _ :: _, h => by simp at h
  | _ :: _, [], h => by simp at h
theorem deqs_len : ∀ {ps qs : List PV}, ps.length ≠ qs.length → deqs ps qs = false
  | [], [], h => absurd rfl h
  | p :: ps, q :: qs, h => by
    unfold deqs
    rw [deqs_len (ps := ps) (qs := qs) (fun e => h (by simp [e])), Bool.and_false]
  | [], _ :: _, _ => rfl
  | _ :: _, [], _ => rfl
theorem deqs_min (ps qs : List PV) : ((List.range (min ps.length qs.length)).all (deqJ ps qs) && ps.length == qs.length) = deqs ps qs := by
  by_cases h : ps.length = qs.length
  · rw [h, Nat.min_self, ← h, deqs_range ps qs h]; simp [h]
  · rw [deqs_len h]; simp [h]
noncomputable abbrev Eqd (A : Around) (s : Shared) (v u : Value) (b : Bool) : Prop := SeqAt.EqAt A s v u b
mutual
theorem eq_D (I : Inv X pins σ H s) : ∀ (n m : Nat) (p q : PV) (A : Around) {x y : V} {v u : Value}, Dv X.K H p x → RelV x v → Dv X.K H q y → RelV y u → pureP n p = true → pureP m q = true → A.units + n < cLine → Eqd A s v u (deq p q)
  | n, m, .non, q, A, x, y, v, u, d1, r1, d2, r2, f1, f2, hu => by
    obtain rfl : x = .non := d1
    cases r1
    cases q with
    | non => obtain rfl : y = .non := d2; cases r2; exact SeqAt.EqAt.same _
    | bl b => obtain rfl : y = .bl b := d2; cases r2; exact SeqAt.EqAt.none_bool b
    | int b => obtain rfl : y = .int b := d2; obtain ⟨t, rfl⟩ := r2; exact SeqAt.EqAt.none_int b t
    | str b => obtain rfl : y = .str b := d2; obtain ⟨t, rfl⟩ := r2; exact SeqAt.EqAt.none_str b t
    | tup qs =>
      obtain ⟨a, vs, rfl, sq, dd⟩ := d2
      cases r2
      obtain ⟨its, rv, pl, _⟩ := I.tuple sq
      exact SeqAt.EqAt.none_tuple pl (by omega)
    | ref b => cases m <;> cases f2
    | ty b => cases m <;> cases f2
    | ro b => cases m <;> cases f2
  | n, m, .bl a, q, A, x, y, v, u, d1, r1, d2, r2, f1, f2, hu => by
    obtain rfl : x = .bl a := d1
    cases r1
    cases q with
    | non => obtain rfl : y = .non := d2; cases r2; exact SeqAt.EqAt.bool_none a
    | bl b => obtain rfl : y = .bl b := d2; cases r2; exact SeqAt.EqAt.bool_bool a b
    | int b => obtain rfl : y = .int b := d2; obtain ⟨t, rfl⟩ := r2; exact SeqAt.EqAt.bool_int a b t
    | str b => obtain rfl : y = .str b := d2; obtain ⟨t, rfl⟩ := r2; exact SeqAt.EqAt.bool_str a b t
    | tup qs =>
      obtain ⟨l, vs, rfl, sq, dd⟩ := d2
      cases r2
      obtain ⟨its, rv, pl, _⟩ := I.tuple sq
      exact SeqAt.EqAt.bool_tuple a pl (by omega)
    | ref b => cases m <;> cases f2
    | ty b => cases m <;> cases f2
    | ro b => cases m <;> cases f2
  | n, m, .int a, q, A, x, y, v, u, d1, r1, d2, r2, f1, f2, hu => by
    obtain rfl : x = .int a := d1
    obtain ⟨t', rfl⟩ := r1
    cases q with
    | non => obtain rfl : y = .non := d2; cases r2; exact SeqAt.EqAt.int_none a t'
    | bl b => obtain rfl : y = .bl b := d2; cases r2; exact SeqAt.EqAt.int_bool a t' b
    | int b => obtain rfl : y = .int b := d2; obtain ⟨t, rfl⟩ := r2; exact SeqAt.EqAt.int_int a t' b t
    | str b => obtain rfl : y = .str b := d2; obtain ⟨t, rfl⟩ := r2; exact SeqAt.EqAt.int_str a t' b t
    | tup qs =>
      obtain ⟨l, vs, rfl, sq, dd⟩ := d2
      cases r2
      obtain ⟨its, rv, pl, _⟩ := I.tuple sq
      exact SeqAt.EqAt.int_tuple a t' pl (by omega)
    | ref b => cases m <;> cases f2
    | ty b => cases m <;> cases f2
    | ro b => cases m <;> cases f2
  | n, m, .str a, q, A, x, y, v, u, d1, r1, d2, r2, f1, f2, hu => by
    obtain rfl : x = .str a := d1
    obtain ⟨t', rfl⟩ := r1
    cases q with
    | non => obtain rfl : y = .non := d2; cases r2; exact SeqAt.EqAt.str_none a t'
    | bl b => obtain rfl : y = .bl b := d2; cases r2; exact SeqAt.EqAt.str_bool a t' b
    | int b => obtain rfl : y = .int b := d2; obtain ⟨t, rfl⟩ := r2; exact SeqAt.EqAt.str_int a t' b t
    | str b => obtain rfl : y = .str b := d2; obtain ⟨t, rfl⟩ := r2; exact SeqAt.EqAt.str_str a t' b t
    | tup qs =>
      obtain ⟨l, vs, rfl, sq, dd⟩ := d2
      cases r2
      obtain ⟨its, rv, pl, _⟩ := I.tuple sq
      exact SeqAt.EqAt.str_tuple a t' pl (by omega)
    | ref b => cases m <;> cases f2
    | ty b => cases m <;> cases f2
    | ro b => cases m <;> cases f2
  | n, m, .tup ps, q, A, x, y, v, u, d1, r1, d2, r2, f1, f2, hu => by
    have dd1 := d1
    obtain ⟨l, vs, rfl, sq, d⟩ := d1
    cases r1
    obtain ⟨its, rv, pl, _⟩ := I.tuple sq
    cases q with
    | non => obtain rfl : y = .non := d2; cases r2; exact SeqAt.EqAt.tuple_none pl (by omega)
    | bl b => obtain rfl : y = .bl b := d2; cases r2; exact SeqAt.EqAt.tuple_bool b pl (by omega)
    | int b => obtain rfl : y = .int b := d2; obtain ⟨t, rfl⟩ := r2; exact SeqAt.EqAt.tuple_int b t pl (by omega)
    | str b => obtain rfl : y = .str b := d2; obtain ⟨t, rfl⟩ := r2; exact SeqAt.EqAt.tuple_str b t pl (by omega)
    | tup qs =>
      have dd2 := d2
      obtain ⟨l2, us, rfl, sq2, d2⟩ := d2
      cases r2
      obtain ⟨its2, rv2, pl2, _⟩ := I.tuple sq2
      by_cases hll : l = l2
      · subst hll
        rw [same_deq I n m (.tup ps) (.tup qs) dd1 dd2 f1 f2]
        exact SeqAt.EqAt.same _
      · cases n with
        | zero => cases f1
        | succ n =>
          cases m with
          | zero => cases f2
          | succ m =>
            refine SeqAt.EqAt.of_refs hll ?_
            have z := SeqAt.RcAt.tuples (A := A) (e := deqJ ps qs) pl pl2 (by omega) fun j h1 h2 => eq_Ds I n m ps qs A.in1 d rv d2 rv2 f1 f2 (by rw [PySem.Around.in1_units]; omega) j h1 h2
            rw [List.size_toArray, List.size_toArray, ← rv.length, ← rv2.length, d.length, d2.length, deqs_min] at z
            unfold deq
            exact z
    | ref b => cases m <;> cases f2
    | ty b => cases m <;> cases f2
    | ro b => cases m <;> cases f2
  | n, m, .ref a, q, A, x, y, v, u, d1, r1, d2, r2, f1, f2, hu => by cases n <;> cases f1
  | n, m, .ty a, q, A, x, y, v, u, d1, r1, d2, r2, f1, f2, hu => by cases n <;> cases f1
  | n, m, .ro a, q, A, x, y, v, u, d1, r1, d2, r2, f1, f2, hu => by cases n <;> cases f1
theorem eq_Ds (I : Inv X pins σ H s) : ∀ (n m : Nat) (ps qs : List PV) (A : Around) {xs ys : List V} {vs us : List Value}, Dvs X.K H ps xs → Vals xs vs → Dvs X.K H qs ys → Vals ys us → pureL n ps = true → pureL m qs = true → A.units + n < cLine →
    ∀ (j : Nat) (h1 : j < vs.toArray.size) (h2 : j < us.toArray.size), Eqd A s vs.toArray[j] us.toArray[j] (deqJ ps qs j)
  | n, m, [], qs, A, xs, ys, vs, us, d1, r1, d2, r2, f1, f2, hu, j, h1, h2 => by
    obtain rfl : xs = [] := d1
    cases r1
    simp at h1
  | n, m, p :: ps, qs, A, xs, ys, vs, us, d1, r1, d2, r2, f1, f2, hu, j, h1, h2 => by
    obtain ⟨x, xr, rfl, dx, d1⟩ := d1
    cases r1 with
    | cons rx r1 =>
      cases qs with
      | nil =>
        obtain rfl : ys = [] := d2
        cases r2
        simp at h2
      | cons q qs =>
        obtain ⟨y, yr, rfl, dy, d2⟩ := d2
        cases r2 with
        | cons ry r2 =>
          unfold pureL at f1 f2
          rw [Bool.and_eq_true] at f1 f2
          cases j with
          | zero => exact eq_D I n m p q A dx rx dy ry f1.1 f2.1 hu
          | succ j => exact eq_Ds I n m ps qs A d1 r1 d2 r2 f1.2 f2.2 hu j (by simpa using h1) (by simpa using h2)
end
end
end L3
namespace L3
open PySem L2
theorem big {n : Nat} (h : n ≤ 1000000) : n ≤ sizeLine := Nat.le_trans h (by rw [sizeLine_eq]; decide)
theorem bigLt {n : Nat} (h : n ≤ 1000000) : n < sizeLine := Nat.lt_of_le_of_lt h (by rw [sizeLine_eq]; decide)
noncomputable def lk (G : Gp) (a : Addr) : Option (List PV) := match G a with
  | some (.lst ps) => some ps
  | some (.rl ps) => some ps
  | _ => none
theorem lk_sq {K : PySem.W.Frag} {H : Hp} {G : Gp} {a : Addr} {ps : List PV} (r : Rep K H G) (h : lk G a = some ps) : ∃ vs, SqL K H a vs ∧ Dvs K H ps vs := by
  unfold lk at h
  split at h
  · rename_i qs e; cases h
    obtain ⟨vs, e1, d⟩ := r a _ e
    exact ⟨vs, .of e1, d⟩
  · rename_i qs e; cases h
    obtain ⟨vs, e1, d⟩ := r a _ e
    exact ⟨vs, .inl e1, d⟩
  · cases h
noncomputable def eq2 : B2 := fun p q G Q => match p, q with
  | .ref a, .ref b => match lk G a, lk G b with
    | some ps, some qs => pureL 100 ps = true ∧ pureL 100 qs = true ∧ Q (.bl (deqs ps qs)) G
    | _, _ => False
  | .ref _, _ => False
  | _, .ref _ => False
  | p, q => pureP 100 p = true ∧ pureP 100 q = true ∧ Q (.bl (deq p q)) G
noncomputable def ne2 : B2 := fun p q G Q => match p, q with
  | .ref a, .ref b => match lk G a, lk G b with
    | some ps, some qs => pureL 100 ps = true ∧ pureL 100 qs = true ∧ Q (.bl (!deqs ps qs)) G
    | _, _ => False
  | .ref _, _ => False
  | _, .ref _ => False
  | p, q => pureP 100 p = true ∧ pureP 100 q = true ∧ Q (.bl (!deq p q)) G
section
variable {X : Cx} {pins : List (Addr × Obj)} {σ : L2.St} {H : Hp} {s : Shared}
theorem rc_D (I : Inv X pins σ H s) (p q : PV) (A : Around) {x y : V} {v u : Value} (d1 : Dv X.K H p x) (r1 : RelV x v) (d2 : Dv X.K H q y) (r2 : RelV y u) (f1 : pureP 100 p = true) (f2 : pureP 100 q = true) (hu : A.units + 101 < cLine) : SeqAt.RcAt A s v u (deq p q) := by
  have hu' : A.units < cLine := by omega
  cases p with
  | ref a => cases f1
  | ty a => cases f1
  | ro a => cases f1
  | tup ps =>
    obtain ⟨l, xs, rfl, sq, dd⟩ := d1
    cases r1
    obtain ⟨its, rv, pl, _⟩ := I.tuple sq
    cases q with
    | ref a => cases f2
    | ty a => cases f2
    | ro a => cases f2
    | tup qs =>
      obtain ⟨l2, ys, rfl, sq2, dd2⟩ := d2
      cases r2
      obtain ⟨its2, rv2, pl2, _⟩ := I.tuple sq2
      have z := SeqAt.RcAt.tuples (A := A) (e := deqJ ps qs) pl pl2 hu' fun j h1 h2 => eq_Ds I 99 99 ps qs A.in1 dd rv dd2 rv2 f1 f2 (by rw [PySem.Around.in1_units]; omega) j h1 h2
      rw [List.size_toArray, List.size_toArray, ← rv.length, ← rv2.length, dd.length, dd2.length, deqs_min] at z
      unfold deq
      exact z
    | non => obtain rfl : y = .non := d2; cases r2; exact SeqAt.RcAt.tuple_none pl hu'
    | bl b => obtain rfl : y = .bl b := d2; cases r2; exact SeqAt.RcAt.tuple_bool b pl hu'
    | int b => obtain rfl : y = .int b := d2; obtain ⟨t, rfl⟩ := r2; exact SeqAt.RcAt.tuple_int b t pl hu'
    | str b => obtain rfl : y = .str b := d2; obtain ⟨t, rfl⟩ := r2; exact SeqAt.RcAt.tuple_str b t pl hu'
  | non =>
    obtain rfl : x = .non := d1
    cases r1
    cases q with
    | ref a => cases f2
    | ty a => cases f2
    | ro a => cases f2
    | tup qs =>
      obtain ⟨l2, ys, rfl, sq2, dd2⟩ := d2
      cases r2
      obtain ⟨its2, rv2, pl2, _⟩ := I.tuple sq2
      exact SeqAt.RcAt.none_tuple pl2 hu'
    | non => obtain rfl : y = .non := d2; cases r2; exact SeqAt.RcAt.none_none
    | bl b => obtain rfl : y = .bl b := d2; cases r2; exact SeqAt.RcAt.none_bool b
    | int b => obtain rfl : y = .int b := d2; obtain ⟨t, rfl⟩ := r2; exact SeqAt.RcAt.none_int b t
    | str b => obtain rfl : y = .str b := d2; obtain ⟨t, rfl⟩ := r2; exact SeqAt.RcAt.none_str b t
  | bl a =>
    obtain rfl : x = .bl a := d1
    cases r1
    cases q with
    | ref a => cases f2
    | ty a => cases f2
    | ro a => cases f2
    | tup qs =>
      obtain ⟨l2, ys, rfl, sq2, dd2⟩ := d2
      cases r2
      obtain ⟨its2, rv2, pl2, _⟩ := I.tuple sq2
      exact SeqAt.RcAt.bool_tuple a pl2 hu'
    | non => obtain rfl : y = .non := d2; cases r2; exact SeqAt.RcAt.bool_none a
    | bl b => obtain rfl : y = .bl b := d2; cases r2; exact SeqAt.RcAt.bool_bool a b
    | int b => obtain rfl : y = .int b := d2; obtain ⟨t, rfl⟩ := r2; exact SeqAt.RcAt.bool_int a b t
    | str b => obtain rfl : y = .str b := d2; obtain ⟨t, rfl⟩ := r2; exact SeqAt.RcAt.bool_str a b t
  | int a =>
    obtain rfl : x = .int a := d1
    obtain ⟨t', rfl⟩ := r1
    cases q with
    | ref a => cases f2
    | ty a => cases f2
    | ro a => cases f2
    | tup qs =>
      obtain ⟨l2, ys, rfl, sq2, dd2⟩ := d2
      cases r2
      obtain ⟨its2, rv2, pl2, _⟩ := I.tuple sq2
      exact SeqAt.RcAt.int_tuple a t' pl2 hu'
    | non => obtain rfl : y = .non := d2; cases r2; exact SeqAt.RcAt.int_none a t'
    | bl b => obtain rfl : y = .bl b := d2; cases r2; exact SeqAt.RcAt.int_bool a t' b
    | int b => obtain rfl : y = .int b := d2; obtain ⟨t, rfl⟩ := r2; exact SeqAt.RcAt.int_int a t' b t
    | str b => obtain rfl : y = .str b := d2; obtain ⟨t, rfl⟩ := r2; exact SeqAt.RcAt.int_str a t' b t
  | str a =>
    obtain rfl : x = .str a := d1
    obtain ⟨t', rfl⟩ := r1
    cases q with
    | ref a => cases f2
    | ty a => cases f2
    | ro a => cases f2
    | tup qs =>
      obtain ⟨l2, ys, rfl, sq2, dd2⟩ := d2
      cases r2
      obtain ⟨its2, rv2, pl2, _⟩ := I.tuple sq2
      exact SeqAt.RcAt.str_tuple a t' pl2 hu'
    | non => obtain rfl : y = .non := d2; cases r2; exact SeqAt.RcAt.str_none a t'
    | bl b => obtain rfl : y = .bl b := d2; cases r2; exact SeqAt.RcAt.str_bool a t' b
    | int b => obtain rfl : y = .int b := d2; obtain ⟨t, rfl⟩ := r2; exact SeqAt.RcAt.str_int a t' b t
    | str b => obtain rfl : y = .str b := d2; obtain ⟨t, rfl⟩ := r2; exact SeqAt.RcAt.str_str a t' b t
theorem rcne_D (I : Inv X pins σ H s) (p q : PV) (A : Around) {x y : V} {v u : Value} (d1 : Dv X.K H p x) (r1 : RelV x v) (d2 : Dv X.K H q y) (r2 : RelV y u) (f1 : pureP 100 p = true) (f2 : pureP 100 q = true) (hu : A.units + 101 < cLine) : SeqAt.RcNeAt A s v u (!deq p q) := by
  have hu' : A.units < cLine := by omega
  cases p with
  | ref a => cases f1
  | ty a => cases f1
  | ro a => cases f1
  | tup ps =>
    obtain ⟨l, xs, rfl, sq, dd⟩ := d1
    cases r1
    obtain ⟨its, rv, pl, _⟩ := I.tuple sq
    cases q with
    | ref a => cases f2
    | ty a => cases f2
    | ro a => cases f2
    | tup qs =>
      obtain ⟨l2, ys, rfl, sq2, dd2⟩ := d2
      cases r2
      obtain ⟨its2, rv2, pl2, _⟩ := I.tuple sq2
      have z := SeqAt.RcNeAt.tuples (A := A) (e := deqJ ps qs) pl pl2 hu' fun j h1 h2 => eq_Ds I 99 99 ps qs A.in1 dd rv dd2 rv2 f1 f2 (by rw [PySem.Around.in1_units]; omega) j h1 h2
      rw [List.size_toArray, List.size_toArray, ← rv.length, ← rv2.length, dd.length, dd2.length, deqs_min] at z
      unfold deq
      exact z
    | non => obtain rfl : y = .non := d2; cases r2; exact SeqAt.RcNeAt.tuple_none pl hu'
    | bl b => obtain rfl : y = .bl b := d2; cases r2; exact SeqAt.RcNeAt.tuple_bool b pl hu'
    | int b => obtain rfl : y = .int b := d2; obtain ⟨t, rfl⟩ := r2; exact SeqAt.RcNeAt.tuple_int b t pl hu'
    | str b => obtain rfl : y = .str b := d2; obtain ⟨t, rfl⟩ := r2; exact SeqAt.RcNeAt.tuple_str b t pl hu'
  | non =>
    obtain rfl : x = .non := d1
    cases r1
    cases q with
    | ref a => cases f2
    | ty a => cases f2
    | ro a => cases f2
    | tup qs =>
      obtain ⟨l2, ys, rfl, sq2, dd2⟩ := d2
      cases r2
      obtain ⟨its2, rv2, pl2, _⟩ := I.tuple sq2
      exact SeqAt.RcNeAt.none_tuple pl2 hu'
    | non => obtain rfl : y = .non := d2; cases r2; exact SeqAt.RcNeAt.none_none
    | bl b => obtain rfl : y = .bl b := d2; cases r2; exact SeqAt.RcNeAt.none_bool b
    | int b => obtain rfl : y = .int b := d2; obtain ⟨t, rfl⟩ := r2; exact SeqAt.RcNeAt.none_int b t
    | str b => obtain rfl : y = .str b := d2; obtain ⟨t, rfl⟩ := r2; exact SeqAt.RcNeAt.none_str b t
  | bl a =>
    obtain rfl : x = .bl a := d1
    cases r1
    cases q with
    | ref a => cases f2
    | ty a => cases f2
    | ro a => cases f2
    | tup qs =>
      obtain ⟨l2, ys, rfl, sq2, dd2⟩ := d2
      cases r2
      obtain ⟨its2, rv2, pl2, _⟩ := I.tuple sq2
      exact SeqAt.RcNeAt.bool_tuple a pl2 hu'
    | non => obtain rfl : y = .non := d2; cases r2; exact SeqAt.RcNeAt.bool_none a
    | bl b => obtain rfl : y = .bl b := d2; cases r2; exact SeqAt.RcNeAt.bool_bool a b
    | int b => obtain rfl : y = .int b := d2; obtain ⟨t, rfl⟩ := r2; exact SeqAt.RcNeAt.bool_int a b t
    | str b => obtain rfl : y = .str b := d2; obtain ⟨t, rfl⟩ := r2; exact SeqAt.RcNeAt.bool_str a b t
  | int a =>
    obtain rfl : x = .int a := d1
    obtain ⟨t', rfl⟩ := r1
    cases q with
    | ref a => cases f2
    | ty a => cases f2
    | ro a => cases f2
    | tup qs =>
      obtain ⟨l2, ys, rfl, sq2, dd2⟩ := d2
      cases r2
      obtain ⟨its2, rv2, pl2, _⟩ := I.tuple sq2
      exact SeqAt.RcNeAt.int_tuple a t' pl2 hu'
    | non => obtain rfl : y = .non := d2; cases r2; exact SeqAt.RcNeAt.int_none a t'
    | bl b => obtain rfl : y = .bl b := d2; cases r2; exact SeqAt.RcNeAt.int_bool a t' b
    | int b => obtain rfl : y = .int b := d2; obtain ⟨t, rfl⟩ := r2; exact SeqAt.RcNeAt.int_int a t' b t
    | str b => obtain rfl : y = .str b := d2; obtain ⟨t, rfl⟩ := r2; exact SeqAt.RcNeAt.int_str a t' b t
  | str a =>
    obtain rfl : x = .str a := d1
    obtain ⟨t', rfl⟩ := r1
    cases q with
    | ref a => cases f2
    | ty a => cases f2
    | ro a => cases f2
    | tup qs =>
      obtain ⟨l2, ys, rfl, sq2, dd2⟩ := d2
      cases r2
      obtain ⟨its2, rv2, pl2, _⟩ := I.tuple sq2
      exact SeqAt.RcNeAt.str_tuple a t' pl2 hu'
    | non => obtain rfl : y = .non := d2; cases r2; exact SeqAt.RcNeAt.str_none a t'
    | bl b => obtain rfl : y = .bl b := d2; cases r2; exact SeqAt.RcNeAt.str_bool a t' b
    | int b => obtain rfl : y = .int b := d2; obtain ⟨t, rfl⟩ := r2; exact SeqAt.RcNeAt.str_int a t' b t
    | str b => obtain rfl : y = .str b := d2; obtain ⟨t, rfl⟩ := r2; exact SeqAt.RcNeAt.str_str a t' b t
theorem op_eqD (hu : X.A.units + 200 < cLine) : OpR X (compareOp .Eq) (lowB X.K eq2) := by
  intro pins s σ H x y v u Q I rx ry h
  obtain ⟨p, q, G, Q2, d1, d2, rp, h, cl⟩ := h
  have fin : ∀ (f1 : pureP 100 p = true) (f2 : pureP 100 q = true), Q2 (.bl (deq p q)) G → wpAny (model X.prog X.w) X.A (compareOp .Eq v u) (EP X pins σ Q) X.xe s := fun f1 f2 hq =>
    rc_D I p q X.A d1 rx d2 ry f1 f2 (by omega) X.prog X.w X.xe _ ⟨.bl _, H, I, rfl, cl _ _ _ _ hq rfl rp .refl⟩
  unfold eq2 at h
  split at h
  · rename_i a b
    split at h
    · rename_i ps qs e1 e2
      obtain ⟨f1, f2, hq⟩ := h
      obtain rfl : x = .ref a := d1
      obtain rfl : y = .ref b := d2
      cases rx
      cases ry
      obtain ⟨xs, sa, da⟩ := lk_sq rp e1
      obtain ⟨ys, sb, db⟩ := lk_sq rp e2
      obtain ⟨us, r, pl, _⟩ := I.list sa
      obtain ⟨ws, r', pl', _⟩ := I.list sb
      have l1 := r.length
      have l2 := r'.length
      have l3 := da.length
      have l4 := db.length
      by_cases hl : ps.length = qs.length
      · refine SeqAt.eq_listAt (e := deqJ ps qs) pl.isList pl'.isList (by simp; omega) (by omega) (fun j h1 h2 => eq_Ds I 100 100 ps qs X.A.in1 da r db r' f1 f2 (by rw [PySem.Around.in1_units]; omega) j h1 h2) ⟨.bl (deqs ps qs), H, I, ?_, cl _ _ _ _ hq rfl rp .refl⟩
        rw [List.size_toArray, ← l1, l3, deqs_range ps qs hl]
        rfl
      · refine SeqAt.eq_list_lengthsAt pl.isList pl'.isList (by simp; omega) (by omega) ⟨.bl (deqs ps qs), H, I, ?_, cl _ _ _ _ hq rfl rp .refl⟩
        rw [deqs_len hl]
        rfl
    · exact h.elim
  · exact h.elim
  · exact h.elim
  · obtain ⟨f1, f2, hq⟩ := h
    exact fin f1 f2 hq
theorem op_neD (hu : X.A.units + 200 < cLine) : OpR X (compareOp .NotEq) (lowB X.K ne2) := by
  intro pins s σ H x y v u Q I rx ry h
  obtain ⟨p, q, G, Q2, d1, d2, rp, h, cl⟩ := h
  have fin : ∀ (f1 : pureP 100 p = true) (f2 : pureP 100 q = true), Q2 (.bl (!deq p q)) G → wpAny (model X.prog X.w) X.A (compareOp .NotEq v u) (EP X pins σ Q) X.xe s := fun f1 f2 hq =>
    rcne_D I p q X.A d1 rx d2 ry f1 f2 (by omega) X.prog X.w X.xe _ ⟨.bl _, H, I, rfl, cl _ _ _ _ hq rfl rp .refl⟩
  unfold ne2 at h
  split at h
  · rename_i a b
    split at h
    · rename_i ps qs e1 e2
      obtain ⟨f1, f2, hq⟩ := h
      obtain rfl : x = .ref a := d1
      obtain rfl : y = .ref b := d2
      cases rx
      cases ry
      obtain ⟨xs, sa, da⟩ := lk_sq rp e1
      obtain ⟨ys, sb, db⟩ := lk_sq rp e2
      obtain ⟨us, r, pl, _⟩ := I.list sa
      obtain ⟨ws, r', pl', _⟩ := I.list sb
      have l1 := r.length
      have l2 := r'.length
      have l3 := da.length
      have l4 := db.length
      by_cases hl : ps.length = qs.length
      · refine SeqAt.RcNeAt.lists (e := deqJ ps qs) pl.isList pl'.isList (by simp; omega) (by omega) (fun j h1 h2 => eq_Ds I 100 100 ps qs X.A.in1 da r db r' f1 f2 (by rw [PySem.Around.in1_units]; omega) j h1 h2) _ _ _ _ ⟨.bl (!deqs ps qs), H, I, ?_, cl _ _ _ _ hq rfl rp .refl⟩
        rw [List.size_toArray, ← l1, l3, deqs_range ps qs hl]
        rfl
      · refine SeqAt.RcNeAt.lists_lengths pl.isList pl'.isList (by simp; omega) (by omega) _ _ _ _ ⟨.bl (!deqs ps qs), H, I, ?_, cl _ _ _ _ hq rfl rp .refl⟩
        rw [deqs_len hl]
        rfl
    · exact h.elim
  · exact h.elim
  · exact h.elim
  · obtain ⟨f1, f2, hq⟩ := h
    exact fin f1 f2 hq
end
end L3
namespace L3
open PySem L2
theorem it_tup {K : PySem.W.Frag} {H1 : Hp} {a : Addr} {vs : List V} {ps : List PV} (sq : SqT K H1 a vs) (d : Dvs K H1 ps vs) : ItOk K H1 (Itt K a) ps (fun _ => True) := fun i H G k r _ => by
  have sq' := k.1 a vs sq
  have d' := d.keep k
  refine ⟨fun hi => ?_, fun hi => ⟨vs, sq', by rw [d.length]; omega⟩, fun x H' hi y => ?_⟩
  · obtain ⟨v, e, _⟩ := d'.at (List.getElem?_eq_getElem hi)
    exact ⟨vs, v, sq', e⟩
  · obtain ⟨rfl, y⟩ := y
    obtain ⟨p, e, dp⟩ := d'.get (y vs sq')
    exact ⟨p, e, .refl, r, dp⟩
theorem it_lst {K : PySem.W.Frag} {H1 : Hp} {a : Addr} {ps : List PV} : ItOk K H1 (Itl K a) ps (fun G => lk G a = some ps) := fun i H G k r c => by
  obtain ⟨vs, sq', d'⟩ := lk_sq r c
  refine ⟨fun hi => ?_, fun hi => ⟨vs, sq', by rw [d'.length]; omega⟩, fun x H' hi y => ?_⟩
  · obtain ⟨v, e, _⟩ := d'.at (List.getElem?_eq_getElem hi)
    exact ⟨vs, v, sq', e⟩
  · obtain ⟨rfl, y⟩ := y
    obtain ⟨p, e, dp⟩ := d'.get (y vs sq')
    exact ⟨p, e, .refl, r, dp⟩
noncomputable def signsP (z : Str) : List PV := z.cps.toList.map fun c => .str ⟨#[c]⟩
theorem signsP_length (z : Str) : (signsP z).length = z.length := by unfold signsP; simp; rfl
theorem it_str {K : PySem.W.Frag} {H1 : Hp} (z : Str) : ItOk K H1 (Its z) (signsP z) (fun _ => True) := fun i H G k r _ => by
  have hl : (signsP z).length = z.cps.size := by unfold signsP; simp
  refine ⟨fun hi => ?_, fun hi => ?_, fun x H' hi y => ?_⟩
  · show i < z.cps.size
    omega
  · show z.cps.size ≤ i
    omega
  · obtain ⟨rfl, c, e, rfl⟩ := y
    refine ⟨.str ⟨#[c]⟩, ?_, .refl, r, rfl⟩
    unfold signsP
    rw [List.getElem?_map]
    have : z.cps.toList[i]? = some c := by simpa using e
    rw [this]; rfl
noncomputable def intsP (lo : Int) (n : Nat) : List PV := (List.range n).map fun (i : Nat) => .int (lo + i)
theorem it_rng {K : PySem.W.Frag} {H1 : Hp} (lo : Int) (n : Nat) : ItOk K H1 (Itr lo n) (intsP lo n) (fun _ => True) := fun i H G k r _ => by
  have hl : (intsP lo n).length = n := by unfold intsP; simp
  refine ⟨fun hi => ?_, fun hi => ?_, fun x H' hi y => ?_⟩
  · show i < n
    omega
  · show n ≤ i
    omega
  · obtain ⟨rfl, rfl⟩ := y
    refine ⟨.int (lo + i), ?_, .refl, r, rfl⟩
    unfold intsP
    rw [List.getElem?_map, List.getElem?_range (by omega)]
    rfl
noncomputable abbrev itS (t : E2) : TI2 := fun τ G R => t τ G fun p G1 => match p with
  | .tup ps => R ps (fun _ => True) G1
  | .ref a => match lk G1 a with
    | some ps => R ps (fun G => lk G a = some ps) G1
    | none => False
  | .str z => R (signsP z) (fun _ => True) G1
  | _ => False
noncomputable abbrev itR1 (t : A2) : TI2 := fun τ G R => t τ G fun ps G1 => match ps with
  | [.int j] => -(2 ^ 62) ≤ j ∧ j < 2 ^ 62 ∧ R (intsP 0 j.toNat) (fun _ => True) G1
  | _ => False
theorem str_val {X : Cx} {pins : List (Addr × Obj)} {σ : L2.St} {H1 : Hp} {s1 : Shared} {x : Str} {px : Pos} {z : Str} {v : Value} {R : It → Hp → Prop} (I1 : Inv X pins σ H1 s1) (r1 : RelV (.str z) v) (q : R (Its z) H1) :
    wpAny (model X.prog X.w) X.A (pyIter v) (PIE X pins σ (.Name x px) R) X.xe s1 := by
  obtain ⟨t, rfl⟩ := r1
  cases ha : z.cps.all (· < 128)
  · refine PySem.wpAny_pyIter_wide ha ⟨s1.heap.objs.size, [s1.heap.objs.size], _, _, H1, rfl, I1.kept (t' := s1.toks) fun b o e => Heap.get?_push_of_some _ e, turn_str _ z t "str_iterator" (.inr rfl), ⟨⟨_, Heap.get?_push_size _ rfl, rfl, rfl⟩, Nat.zero_le _⟩, fun b hb => ?_, q⟩
    have e : b = s1.heap.objs.size := by simpa using hb
    subst e
    exact I1.fpOk (Nat.le_refl _) (I1.hok.fresh (Nat.le_refl _))
  · refine PySem.wpAny_pyIter_ascii ha ⟨s1.heap.objs.size, [s1.heap.objs.size], _, _, H1, rfl, I1.kept (t' := s1.toks) fun b o e => Heap.get?_push_of_some _ e, turn_str _ z t "str_ascii_iterator" (.inl rfl), ⟨⟨_, Heap.get?_push_size _ rfl, rfl, rfl⟩, Nat.zero_le _⟩, fun b hb => ?_, q⟩
    have e : b = s1.heap.objs.size := by simpa using hb
    subst e
    exact I1.fpOk (Nat.le_refl _) (I1.hok.fresh (Nat.le_refl _))
section
variable {X : Cx} {l tg a b : Expr} {t : E2} {ta : A2} {x : Str} {px p pos : Pos}
theorem ji_name (hl : JE X l t) : JI X (.Name x px) l (itS t) := ⟨by
  intro pins s σ H R I h
  obtain ⟨τ, G, R2, rs, rp, h, cl⟩ := h
  refine thn (hl.h pins s σ H (fun v H1 => ∃ p G1, Dv X.K H1 p v ∧ Rep X.K H1 G1 ∧ Keep X.K H H1 ∧ (match p with
    | .tup ps => R2 ps (fun _ => True) G1
    | .ref a => match lk G1 a with
      | some ps => R2 ps (fun G => lk G a = some ps) G1
      | none => False
    | .str z => R2 (signsP z) (fun _ => True) G1
    | _ => False)) I ⟨τ, G, _, rs, rp, h, fun p G1 v H1 q d r k => ⟨p, G1, d, r, k, q⟩⟩) fun v s1 ⟨y, H1, I1, r1, q, G1, d1, rp1, k1, q1⟩ => ?_
  cases q with
  | tup ps =>
    obtain ⟨a, vs, rfl, sq, dv⟩ := d1
    cases r1
    obtain ⟨its, rv, p, hz⟩ := I1.tuple sq
    refine wpAny_pyIter_tuple (show s1.heap.IsTuple a its.toArray from p) ?_
    refine ⟨s1.heap.objs.size, [s1.heap.objs.size], _, _, H1, rfl, I1.kept (t' := s1.toks) fun b o e => Heap.get?_push_of_some _ e, turn_tuple a _, ⟨_, Heap.get?_push_size _ rfl, rfl, rfl⟩, fun b hb => ?_, cl _ _ _ _ _ q1 rp1 k1 (it_tup sq dv)⟩
    have e : b = s1.heap.objs.size := by simpa using hb
    subst e
    exact I1.fpOk (Nat.le_refl _) (I1.hok.fresh (Nat.le_refl _))
  | ref a =>
    obtain rfl : y = .ref a := d1
    cases r1
    dsimp only at q1
    split at q1
    · rename_i ps e
      obtain ⟨vs, sq, dv⟩ := lk_sq rp1 e
      obtain ⟨its, rv, p, hz⟩ := I1.list sq
      refine wpAny_pyIter_list p.isList ?_
      refine ⟨s1.heap.objs.size, [s1.heap.objs.size], _, _, H1, rfl, I1.kept (t' := s1.toks) fun b o e => Heap.get?_push_of_some _ e, turn_list a _, ⟨_, Heap.get?_push_size _ rfl, rfl, rfl⟩, fun b hb => ?_, cl _ _ _ _ _ q1 rp1 k1 it_lst⟩
      have e : b = s1.heap.objs.size := by simpa using hb
      subst e
      exact I1.fpOk (Nat.le_refl _) (I1.hok.fresh (Nat.le_refl _))
    · exact q1.elim
  | str z =>
    obtain rfl : y = .str z := d1
    exact str_val I1 r1 (cl _ _ _ _ _ q1 rp1 k1 (it_str z))
  | non => exact q1.elim
  | bl b => exact q1.elim
  | int i => exact q1.elim
  | ty n => exact q1.elim
  | ro n => exact q1.elim⟩
theorem ji_range1 (hm : X.mg "range" = none) (ha : JA X [a] ta) (hg : Gl X "range" := by rfl) (hs : starEach [a] X.env = [(false, eval a X.env)] := by rfl) : JI X tg (.Call (.Name "range" p) [a] [] pos) (itR1 ta) := .of (pi_range1 hg hm ha.h hs) fun σ H R ⟨τ, G, R2, rs, rp, h, cl⟩ => by
  refine ⟨τ, G, _, rs, rp, h, fun ps G1 vs H1 q d r k => ?_⟩
  split at q
  · rename_i j
    obtain ⟨v, vr, rfl, d1, d⟩ := d
    obtain rfl : vr = [] := d
    obtain rfl : v = .int j := d1
    exact ⟨j, rfl, q.1, q.2.1, cl _ _ _ _ _ q.2.2 r k (it_rng _ _)⟩
  · exact q.elim
end
section
variable {X : Cx} {a : Expr} {ta : A2} {p pos tp : Pos} {elts : List Expr} {x1 : Nat}
end
@[reducible] noncomputable def cap2 : List (Option Nat) → St2 → St2
  | [], _ => []
  | some i :: r, τ => gt τ i :: cap2 r τ
  | none :: r, τ => none :: cap2 r τ
theorem cap2_eq : ∀ (ix : List (Option Nat)) (τ : St2), cap2 ix τ = ix.map fun o => match o with
    | some i => (τ[i]?).getD none
    | none => none
  | [], _ => rfl
  | some i :: r, τ => by simp only [cap2, List.map_cons, gt_eq, cap2_eq r τ]
  | none :: r, τ => by simp only [cap2, List.map_cons, cap2_eq r τ]
theorem cap_rst {K : PySem.W.Frag} {H : Hp} {σ : L2.St} {τ : St2} (ix : List (Option Nat)) (r : RSt K H σ τ) : RSt K H (cap ix σ) (cap2 ix τ) := by
  rw [cap2_eq]
  refine ⟨by unfold cap; simp, fun i p e => ?_⟩
  unfold cap
  rw [List.getElem?_map] at e ⊢
  cases q : ix[i]? with
  | none => rw [q] at e; cases e
  | some o =>
    cases o with
    | none => rw [q] at e; cases e
    | some k =>
      rw [q] at e
      have e' : some ((τ[k]?).getD none) = some (some p) := e
      have e2 := Option.some.inj e'
      cases q2 : τ[k]? with
      | none => rw [q2] at e2; cases e2
      | some z =>
        rw [q2] at e2
        have e3 : z = some p := e2
        subst e3
        obtain ⟨v, ev, d⟩ := r.2 k p q2
        refine ⟨v, ?_, d⟩
        show some ((σ[k]?).getD none) = _
        rw [ev]
        rfl
noncomputable def cGo (items : List PV) (c : Gp → Prop) (ix : List (Option Nat)) (j : Nat) (τ : St2) (tf : T2) (te : E2) (Q : K2) (G1 : Gp) (acc : Addr) : Prop :=
  ∃ W : Nat → List PV → Gp → Prop, W 0 [] (up G1 acc (.lst [])) ∧ (∀ i ys G, i ≤ items.length → W i ys G → c G ∧ G acc = some (.lst ys) ∧ ys.length < 1000000) ∧
    (∀ i ys G x, items[i]? = some x → W i ys G → tf (st (cap2 ix τ) j (some x)) G fun b G2 => way2 b (te (st (cap2 ix τ) j (some x)) G2 fun y G3 => G3 acc = some (.lst ys) ∧ W (i + 1) (ys ++ [y]) (up G3 acc (.lst (ys ++ [y])))) (W (i + 1) ys G2)) ∧ ∀ ys G, W items.length ys G → Q (.ref acc) G
noncomputable abbrev eComp (ti : TI2) (ix : List (Option Nat)) (j : Nat) (tf : T2) (te : E2) : E2 := fun τ G Q => ti τ G fun items c G1 => ∀ acc, G1 acc = none → cGo items c ix j τ tf te Q G1 acc
structure JF (X : Cx) (ifs : List Expr) (t : T2) : Prop where
  h : PF X ifs (lowT X.K t)
noncomputable abbrev tYes2 : T2 := fun _ G Q => Q true G
section
variable {X : Cx} {c : Expr} {tA : T2}
theorem jf_nil : JF X [] tYes2 := ⟨fun pins s σ H Q I ⟨τ, G, Q2, rs, rp, q, cl⟩ => pf_nil pins s σ H Q I (cl _ _ _ q rp .refl)⟩
theorem jf_one (h : JT X c tA) : JF X [c] tA := ⟨pf_one h.h⟩
theorem low_comp {ti : TI2} {ix : List (Option Nat)} {j : Nat} {tf : T2} {te : E2} {σ : L2.St} {H : Hp} {Q : VK} (q : lowE X.K (eComp ti ix j tf te) σ H Q) : tComp (lowI X.K ti) ix j (lowT X.K tf) (lowE X.K te) σ H Q := by
  obtain ⟨τ, G, Q2, rs, rp, q, cl⟩ := q
  refine ⟨τ, G, _, rs, rp, q, fun items c G1 J H1 q1 r1 k1 ok acc hacc => ?_⟩
  obtain ⟨W, w0, hW, turn, done⟩ := q1 acc (r1.none hacc)
  have kn : Keep X.K H1 (upd H1 acc (.lst [])) := keep_new hacc
  refine ⟨fun i m H' => m = items.length - i ∧ i ≤ items.length ∧ ∃ ys G', W i ys G' ∧ Rep X.K H' G' ∧ Keep X.K H1 H', ⟨_, rfl, Nat.zero_le _, [], _, w0, r1.new hacc .nil, kn⟩, ?_⟩
  rintro i m H2 ⟨rfl, hi, ys, G2, w2, r2, k2⟩
  obtain ⟨hc, hacc2, hys⟩ := hW i ys G2 hi w2
  obtain ⟨o1, o2, o3⟩ := ok i H2 G2 k2 r2 hc
  by_cases hlt : i < items.length
  · refine .inr ⟨o1 hlt, fun x H3 y => ?_⟩
    obtain ⟨p, ep, k3, r3, d3⟩ := o3 x H3 hlt y
    have k13 := k2.trans k3
    have rs3 : RSt X.K H3 ((cap ix σ).set j (some x)) (st (cap2 ix τ) j (some p)) := (cap_rst ix (rs.keep (k1.trans k13))).set d3 j
    refine ⟨_, G2, _, rs3, r3, turn i ys G2 p ep w2, fun b G4 H4 q4 r4 k4 => ?_⟩
    have k14 := k13.trans k4
    cases b with
    | false => exact iteF ⟨items.length - (i + 1), by omega, rfl, hlt, ys, G4, q4, r4, k14⟩
    | true =>
      refine iteT ⟨_, G4, _, rs3.keep k4, r4, q4, fun y G5 v H5 q5 d5 r5 k5 => ?_⟩
      obtain ⟨ea, w5⟩ := q5
      obtain ⟨vs, hv, dv⟩ := r5.lst ea
      refine ⟨vs, hv, by rw [dv.length]; exact bigLt (Nat.le_of_lt hys), items.length - (i + 1), by omega, rfl, hlt, ys ++ [y], _, w5, r5.put hv (dv.append (.cons d5 .nil)), (k14.trans k5).trans (keep_lst hv)⟩
  · have e : i = items.length := by omega
    subst e
    exact .inl ⟨o2 rfl, cl _ _ _ _ (done ys G2 w2) rfl r2 (k1.trans k2)⟩
theorem j_comp {scope : Scope} {M : List Str} {ix : List (Option Nat)} {j : Nat} {x : Str} {elt iter : Expr} {px pos : Pos} {ifs : List Expr} {ti : TI2} {tf : T2} {te : E2} (S : compOkB X.env.scope X.N scope M ix j x = true) (hc : X.calm = true) (hi : JI X (.Name x px) iter ti)
    (hb : ∀ C s H fp, JF (cxComp X M scope C s H fp) ifs tf ∧ JE (cxComp X M scope C s H fp) elt te) (hs : ∀ x, foldedSetIterable iter X.env x = pure x := by intro _; rfl) :
    JE X (.ListComp elt [⟨.Name x px, iter, ifs, 0⟩] scope pos) (eComp ti ix j tf te) := .of (pe_comp (compS S) hc hi.h (fun C s H fp => ⟨(hb C s H fp).1.h, (hb C s H fp).2.h⟩) hs) fun σ H Q q => low_comp q
theorem js_comp {scope : Scope} {M : List Str} {ix : List (Option Nat)} {j n : Nat} {x y : Str} {elt iter : Expr} {px py pos spos : Pos} {ifs : List Expr} {ti : TI2} {tf : T2} {te : E2} (hN : X.N.Nodup) (hi : X.N[n]? = some y) (hy : X.env.scope.names.lookup y = some .local)
    (S : compOkB X.env.scope X.N scope M ix j x = true) (hc : X.calm = true) (hit : JI X (.Name x px) iter ti)
    (hb : ∀ C s H fp, JF (cxComp X M scope C s H fp) ifs tf ∧ JE (cxComp X M scope C s H fp) elt te)
    (hsw : swapsWith (.ListComp elt [⟨.Name x px, iter, ifs, 0⟩] scope pos) (some (.Name y py)) spos.line X.env = pure true := by rfl) (hs : ∀ x, foldedSetIterable iter X.env x = pure x := by intro _; rfl) :
    JS X (.Assign [.Name y py] (.ListComp elt [⟨.Name x px, iter, ifs, 0⟩] scope pos) spos) (sAsg (eComp ti ix j tf te) (gN n)) := .of (ps_comp hN hi hy (compS S) hc hit.h (fun C s H fp => ⟨(hb C s H fp).1.h, (hb C s H fp).2.h⟩) hsw hs) fun D σ H ⟨τ, G, D2, rs, rp, q, cl⟩ => by
  exact low_comp (X := X) ⟨τ, G, _, rs, rp, q, fun p G1 v H1 q1 d1 r1 k1 => cl.nx _ _ _ _ q1 ((rs.keep k1).set d1 n) r1 k1⟩
theorem cGo_pure {items : List PV} {c : Gp → Prop} {ix : List (Option Nat)} {j : Nat} {τ : St2} {tf : T2} {te : E2} {Q : K2} {G1 : Gp} {acc : Addr} (f : PV → Bool) (g : PV → PV) (hz : items.length < 1000000)
    (hc : ∀ ys, c (up G1 acc (.lst ys))) (ht : ∀ x ys (R : Bool → Gp → Prop), x ∈ items → R (f x) (up G1 acc (.lst ys)) → tf (st (cap2 ix τ) j (some x)) (up G1 acc (.lst ys)) R)
    (he : ∀ x ys (R : K2), x ∈ items → f x = true → R (g x) (up G1 acc (.lst ys)) → te (st (cap2 ix τ) j (some x)) (up G1 acc (.lst ys)) R)
    (hq : Q (.ref acc) (up G1 acc (.lst ((items.filter f).map g)))) : cGo items c ix j τ tf te Q G1 acc := by
  refine ⟨fun i ys G => ys = ((items.take i).filter f).map g ∧ G = up G1 acc (.lst ys), ⟨by simp, rfl⟩, ?_, ?_, ?_⟩
  · rintro i ys G hi ⟨rfl, rfl⟩
    refine ⟨hc _, up_same, ?_⟩
    rw [List.length_map]
    exact Nat.lt_of_le_of_lt (Nat.le_trans (List.length_filter_le _ _) (by rw [List.length_take]; omega)) hz
  · rintro i ys G x hx ⟨rfl, rfl⟩
    have hm := List.mem_of_getElem? hx
    have tk : items.take (i + 1) = items.take i ++ [x] := by rw [List.take_add_one, hx]; rfl
    refine ht x _ _ hm ?_
    cases hf : f x with
    | true =>
      refine ifT rfl ?_
      refine he x _ _ hm hf ⟨up_same, ?_, up_up⟩
      rw [tk, List.filter_append, List.map_append]
      simp [hf]
    | false =>
      refine ifF rfl ⟨?_, rfl⟩
      rw [tk, List.filter_append]
      simp [hf]
  · rintro ys G ⟨rfl, rfl⟩
    rw [List.take_length]
    exact hq
end
end L3
namespace L3
open PySem L2
noncomputable def add2 : B2 := fun p q G Q => match p, q with
  | .int i, .int j => Q (.int (i + j)) G
  | .str a, .str b => a.length + b.length ≤ 1000000 ∧ Q (.str (a ++ b)) G
  | .tup xs, .tup ys => xs ≠ [] ∧ xs.length + ys.length ≤ 1000000 ∧ Q (.tup (xs ++ ys)) G
  | .ref a, .ref b => match lk G a, lk G b with
    | some ps, some qs => ps.length + qs.length ≤ 1000000 ∧ ∀ c, G c = none → Q (.ref c) (up G c (.lst (ps ++ qs)))
    | _, _ => False
  | .ref a, .ro qs => match lk G a with
    | some ps => ps.length + qs.length ≤ 1000000 ∧ ∀ c, G c = none → Q (.ref c) (up G c (.lst (ps ++ qs)))
    | none => False
  | _, _ => False
noncomputable abbrev i2 (C : Int → Int → Prop) (g : Int → Int → PV) : B2 := fun p q G Q => match p, q with
  | .int i, .int j => C i j ∧ Q (g i j) G
  | _, _ => False
noncomputable abbrev i20 (g : Int → Int → PV) : B2 := fun p q G Q => match p, q with
  | .int i, .int j => Q (g i j) G
  | _, _ => False
noncomputable abbrev lt2 : B2 := fun p q G Q => match p, q with
  | .int i, .int j => Q (.bl (decide (i < j))) G
  | .str a, .str b => Q (.bl (decide (a.cps.toList < b.cps.toList))) G
  | _, _ => False
noncomputable abbrev le2 : B2 := fun p q G Q => match p, q with
  | .int i, .int j => Q (.bl (decide (i ≤ j))) G
  | .str a, .str b => Q (.bl (!(decide (b.cps.toList < a.cps.toList)))) G
  | _, _ => False
noncomputable abbrev gt2 : B2 := i20 fun i j => .bl (decide (j < i))
noncomputable abbrev sub2 : B2 := i20 fun i j => .int (i - j)
noncomputable abbrev mod2 : B2 := i2 (fun _ j => 0 < j) fun i j => .int (i % j)
noncomputable abbrev fdiv2 : B2 := i2 CDivB fun i j => .int (i / j)
noncomputable abbrev pow2 : B2 := i2 CPow fun i j => .int (i ^ j.toNat)
noncomputable def mul2 : B2 := fun p q G Q => match p, q with
  | .int i, .int j => CMul i j ∧ Q (.int (i * j)) G
  | .ref a, .int k => match G a with
    | some (.lst ps) => (-(2 ^ 63) ≤ k ∧ k < 2 ^ 63) ∧ ps.length * k.toNat ≤ 1000000 ∧ ∀ c, G c = none → Q (.ref c) (up G c (.lst (List.replicate k.toNat ps).flatten))
    | _ => False
  | _, _ => False
section
variable {X : Cx}
theorem i2_low {f : Value → Value → Sem Value} {C : Int → Int → Prop} {g : Int → Int → V} {g' : Int → Int → PV} (h : OpR X f (rI C g)) (hg : ∀ i j H, Dv X.K H (g' i j) (g i j)) : OpR X f (lowB X.K (i2 C g')) := by
  intro pins s σ H x y v u Q I rx ry h'
  obtain ⟨p, q, G, Q2, d1, d2, rp, q', cl⟩ := h'
  unfold i2 at q'
  split at q'
  · rename_i i j
    obtain rfl : x = .int i := d1
    obtain rfl : y = .int j := d2
    exact h pins s σ H _ _ v u Q I rx ry ⟨i, j, rfl, rfl, q'.1, cl _ _ _ _ q'.2 (hg i j H) rp .refl⟩
  · exact q'.elim
theorem i20_low {f : Value → Value → Sem Value} {g : Int → Int → V} {g' : Int → Int → PV} (h : OpR X f (rI0 g)) (hg : ∀ i j H, Dv X.K H (g' i j) (g i j)) : OpR X f (lowB X.K (i20 g')) := by
  intro pins s σ H x y v u Q I rx ry h'
  obtain ⟨p, q, G, Q2, d1, d2, rp, q', cl⟩ := h'
  unfold i20 at q'
  split at q'
  · rename_i i j
    obtain rfl : x = .int i := d1
    obtain rfl : y = .int j := d2
    exact h pins s σ H _ _ v u Q I rx ry ⟨i, j, rfl, rfl, cl _ _ _ _ q' (hg i j H) rp .refl⟩
  · exact q'.elim
theorem o_sub : OpR X (binaryOp .Sub) (lowB X.K sub2) := i20_low op_sub fun _ _ _ => rfl
theorem o_mod : OpR X (binaryOp .Mod) (lowB X.K mod2) := i2_low op_mod fun _ _ _ => rfl
theorem o_fdiv : OpR X (binaryOp .FloorDiv) (lowB X.K fdiv2) := i2_low op_fdivB fun _ _ _ => rfl
theorem o_pow : OpR X (binaryOp .Pow) (lowB X.K pow2) := i2_low op_pow fun _ _ _ => rfl
theorem o_gt : OpR X (compareOp .Gt) (lowB X.K gt2) := i20_low op_gt fun _ _ _ => rfl
theorem o_lt : OpR X (compareOp .Lt) (lowB X.K lt2) := by
  intro pins s σ H x y v u Q I rx ry h
  obtain ⟨p, q, G, Q2, d1, d2, rp, h, cl⟩ := h
  unfold lt2 at h
  split at h
  · rename_i i j
    obtain rfl : x = .int i := d1
    obtain rfl : y = .int j := d2
    exact op_lt pins s σ H _ _ v u Q I rx ry ⟨i, j, rfl, rfl, cl _ _ _ _ h rfl rp .refl⟩
  · rename_i i j
    obtain rfl : x = .str i := d1
    obtain rfl : y = .str j := d2
    exact op_lt_str pins s σ H _ _ v u Q I rx ry ⟨i, j, rfl, rfl, cl _ _ _ _ h rfl rp .refl⟩
  · exact h.elim
theorem o_le : OpR X (compareOp .LtE) (lowB X.K le2) := by
  intro pins s σ H x y v u Q I rx ry h
  obtain ⟨p, q, G, Q2, d1, d2, rp, h, cl⟩ := h
  unfold le2 at h
  split at h
  · rename_i i j
    obtain rfl : x = .int i := d1
    obtain rfl : y = .int j := d2
    exact op_le pins s σ H _ _ v u Q I rx ry ⟨i, j, rfl, rfl, cl _ _ _ _ h rfl rp .refl⟩
  · rename_i i j
    obtain rfl : x = .str i := d1
    obtain rfl : y = .str j := d2
    exact op_le_str pins s σ H _ _ v u Q I rx ry ⟨i, j, rfl, rfl, cl _ _ _ _ h rfl rp .refl⟩
  · exact h.elim
theorem o_add : OpR X (binaryOp .Add) (lowB X.K add2) := by
  intro pins s σ H x y v u Q I rx ry h
  obtain ⟨p, q, G, Q2, d1, d2, rp, h, cl⟩ := h
  unfold add2 at h
  split at h
  · rename_i i j
    obtain rfl : x = .int i := d1
    obtain rfl : y = .int j := d2
    exact op_add pins s σ H _ _ v u Q I rx ry ⟨i, j, rfl, rfl, cl _ _ _ _ h rfl rp .refl⟩
  · rename_i i j
    obtain rfl : x = .str i := d1
    obtain rfl : y = .str j := d2
    exact op_add_str pins s σ H _ _ v u Q I rx ry ⟨i, j, rfl, rfl, big h.1, cl _ _ _ _ h.2 rfl rp .refl⟩
  · rename_i xs ys
    obtain ⟨a, vs, rfl, sa, da⟩ := d1
    obtain ⟨b, us, rfl, sb, db⟩ := d2
    obtain ⟨ne, hl, hq⟩ := h
    have la := da.length
    have lb := db.length
    refine op_catT pins s σ H _ _ v u Q I rx ry ⟨a, b, vs, us, rfl, rfl, sa, sb, ?_, by rw [la, lb]; exact big hl, fun e => ?_, fun _ c hc => ?_⟩
    · intro e; subst e
      exact ne (List.eq_nil_of_length_eq_zero (by rw [← la]; rfl))
    · subst e
      have ey : ys = [] := List.eq_nil_of_length_eq_zero (by rw [← lb]; rfl)
      subst ey
      rw [List.append_nil] at hq
      exact cl _ _ _ _ hq ⟨a, vs, rfl, sa, da⟩ rp .refl
    · have kn : Keep X.K H (upd H c (.tup (vs ++ us))) := keep_new hc
      exact cl _ _ _ _ hq ⟨c, _, rfl, .of upd_same, (da.append db).keep kn⟩ (rp.tup hc) kn
  · rename_i a b
    split at h
    · rename_i ps qs e1 e2
      obtain ⟨hl, hq⟩ := h
      obtain rfl : x = .ref a := d1
      obtain rfl : y = .ref b := d2
      obtain ⟨vs, sa, da⟩ := lk_sq rp e1
      obtain ⟨us, sb, db⟩ := lk_sq rp e2
      refine op_catS pins s σ H _ _ v u Q I rx ry ⟨a, b, vs, us, rfl, rfl, sa, sb, by rw [da.length, db.length]; exact big hl, fun c hc => ?_⟩
      exact cl _ _ _ _ (hq c (rp.none hc)) rfl (rp.new hc (da.append db)) (keep_new hc)
    · exact h.elim
  · rename_i a qs
    split at h
    · rename_i ps e1
      obtain ⟨hl, hq⟩ := h
      obtain rfl : x = .ref a := d1
      obtain ⟨b, us, rfl, sb, db⟩ := d2
      obtain ⟨vs, sa, da⟩ := lk_sq rp e1
      refine op_catS pins s σ H _ _ v u Q I rx ry ⟨a, b, vs, us, rfl, rfl, sa, sb.sq, by rw [da.length, db.length]; exact big hl, fun c hc => ?_⟩
      exact cl _ _ _ _ (hq c (rp.none hc)) rfl (rp.new hc (da.append db)) (keep_new hc)
    · exact h.elim
  · exact h.elim
theorem Dvs.rep {K : PySem.W.Frag} {H : Hp} {ps : List PV} {vs : List V} (d : Dvs K H ps vs) : ∀ n, Dvs K H (List.replicate n ps).flatten (List.replicate n vs).flatten
  | 0 => rfl
  | n + 1 => by
    rw [List.replicate_succ, List.replicate_succ, List.flatten_cons, List.flatten_cons]
    exact d.append (Dvs.rep d n)
theorem o_mul : OpR X (binaryOp .Mult) (lowB X.K mul2) := by
  intro pins s σ H x y v u Q I rx ry h
  obtain ⟨p, q, G, Q2, d1, d2, rp, h, cl⟩ := h
  unfold mul2 at h
  split at h
  · rename_i i j
    obtain rfl : x = .int i := d1
    obtain rfl : y = .int j := d2
    exact op_mul pins s σ H _ _ v u Q I rx ry ⟨i, j, rfl, rfl, h.1, cl _ _ _ _ h.2 rfl rp .refl⟩
  · rename_i a k
    split at h
    · rename_i ps e
      obtain ⟨hk, hl, hq⟩ := h
      obtain rfl : x = .ref a := d1
      obtain rfl : y = .int k := d2
      obtain ⟨vs, ha, da⟩ := rp.lst e
      refine op_rep pins s σ H _ _ v u Q I rx ry ⟨a, k, vs, rfl, rfl, ha, hk.1, hk.2, by rw [da.length]; exact big hl, fun c hc => ?_⟩
      exact cl _ _ _ _ (hq c (rp.none hc)) rfl (rp.new hc (da.rep _)) (keep_new hc)
    · exact h.elim
  · exact h.elim
end
noncomputable abbrev isN2 : B2 := fun p q G Q => match p, q with
  | .non, .non => Q (.bl true) G
  | _, .non => Q (.bl false) G
  | _, _ => False
noncomputable abbrev isnN2 : B2 := fun p q G Q => match p, q with
  | .non, .non => Q (.bl false) G
  | _, .non => Q (.bl true) G
  | _, _ => False
noncomputable def flatP : PV → Bool
  | .non => true
  | .bl _ => true
  | .int _ => true
  | .str _ => true
  | _ => false
noncomputable def inP (x : PV) (ps : List PV) : Bool := ps.any fun y => deq y x
noncomputable def in2 (neg : Bool) : B2 := fun p q G Q => match q with
  | .tup ps => flatP p = true ∧ ps.all flatP = true ∧ Q (.bl (if neg then !inP p ps else inP p ps)) G
  | .ref a => match lk G a with
    | some ps => flatP p = true ∧ ps.all flatP = true ∧ Q (.bl (if neg then !inP p ps else inP p ps)) G
    | none => False
  | .str j => match p with
    | .str i => Q (.bl (if neg then !(!(Builtin.Str.occurrences j i 0 j.length 1).isEmpty) else !(Builtin.Str.occurrences j i 0 j.length 1).isEmpty)) G
    | _ => False
  | _ => False
section
variable {X : Cx}
theorem flat_V {K : PySem.W.Frag} {H : Hp} {p : PV} {v : V} (f : flatP p = true) (d : Dv K H p v) : flatV v = true := by
  cases p with
  | non => obtain rfl : v = .non := d; rfl
  | bl b => obtain rfl : v = .bl b := d; rfl
  | int b => obtain rfl : v = .int b := d; rfl
  | str b => obtain rfl : v = .str b := d; rfl
  | _ => cases f
theorem flat_eq {K : PySem.W.Frag} {H : Hp} {p q : PV} {v u : V} (f1 : flatP p = true) (f2 : flatP q = true) (d1 : Dv K H p v) (d2 : Dv K H q u) : eqV v u = deq p q := by
  cases p with
  | non =>
    obtain rfl : v = .non := d1
    cases q with
    | non => obtain rfl : u = .non := d2; rfl
    | bl b => obtain rfl : u = .bl b := d2; rfl
    | int b => obtain rfl : u = .int b := d2; rfl
    | str b => obtain rfl : u = .str b := d2; rfl
    | _ => cases f2
  | bl a =>
    obtain rfl : v = .bl a := d1
    cases q with
    | non => obtain rfl : u = .non := d2; rfl
    | bl b => obtain rfl : u = .bl b := d2; rfl
    | int b => obtain rfl : u = .int b := d2; rfl
    | str b => obtain rfl : u = .str b := d2; rfl
    | _ => cases f2
  | int a =>
    obtain rfl : v = .int a := d1
    cases q with
    | non => obtain rfl : u = .non := d2; rfl
    | bl b => obtain rfl : u = .bl b := d2; rfl
    | int b => obtain rfl : u = .int b := d2; rfl
    | str b => obtain rfl : u = .str b := d2; rfl
    | _ => cases f2
  | str a =>
    obtain rfl : v = .str a := d1
    cases q with
    | non => obtain rfl : u = .non := d2; rfl
    | bl b => obtain rfl : u = .bl b := d2; rfl
    | int b => obtain rfl : u = .int b := d2; rfl
    | str b => obtain rfl : u = .str b := d2; rfl
    | _ => cases f2
  | _ => cases f1
theorem flat_in {K : PySem.W.Frag} {H : Hp} {x : PV} {xv : V} (fx : flatP x = true) (dx : Dv K H x xv) : ∀ {ps : List PV} {vs : List V}, ps.all flatP = true → Dvs K H ps vs → vs.all flatV = true ∧ inV xv vs = inP x ps
  | [], vs, _, d => by rw [show vs = [] from d]; exact ⟨rfl, rfl⟩
  | p :: ps, vs, f, d => by
    obtain ⟨v, r, rfl, d1, d2⟩ := d
    rw [List.all_cons, Bool.and_eq_true] at f
    obtain ⟨h1, h2⟩ := flat_in fx dx f.2 d2
    refine ⟨by rw [List.all_cons, flat_V f.1 d1, h1]; rfl, ?_⟩
    unfold inV inP at h2 ⊢
    rw [List.any_cons, List.any_cons, flat_eq f.1 fx d1 dx, h2]
theorem o_in : OpR X (compareOp .In) (lowB X.K (in2 false)) := by
  intro pins s σ H x y v u Q I rx ry h
  obtain ⟨p, q, G, Q2, d1, d2, rp, h, cl⟩ := h
  unfold in2 at h
  split at h
  · rename_i ps
    obtain ⟨f1, f2, hq⟩ := h
    obtain ⟨b, us, rfl, sb, db⟩ := d2
    obtain ⟨g1, g2⟩ := flat_in f1 d1 f2 db
    refine op_in_seq pins s σ H _ _ v u Q I rx ry ⟨b, us, rfl, .inr sb, flat_V f1 d1, g1, ?_⟩
    rw [g2]
    exact cl _ _ _ _ hq rfl rp .refl
  · rename_i b
    split at h
    · rename_i ps e
      obtain ⟨f1, f2, hq⟩ := h
      obtain rfl : y = .ref b := d2
      obtain ⟨us, sb, db⟩ := lk_sq rp e
      obtain ⟨g1, g2⟩ := flat_in f1 d1 f2 db
      refine op_in_seq pins s σ H _ _ v u Q I rx ry ⟨b, us, rfl, .inl sb, flat_V f1 d1, g1, ?_⟩
      rw [g2]
      exact cl _ _ _ _ hq rfl rp .refl
    · exact h.elim
  · rename_i j
    split at h
    · rename_i i
      obtain rfl : x = .str i := d1
      obtain rfl : y = .str j := d2
      exact op_in_str pins s σ H _ _ v u Q I rx ry ⟨i, j, rfl, rfl, cl _ _ _ _ h rfl rp .refl⟩
    · exact h.elim
  · exact h.elim
theorem o_notin : OpR X (compareOp .NotIn) (lowB X.K (in2 true)) := by
  intro pins s σ H x y v u Q I rx ry h
  obtain ⟨p, q, G, Q2, d1, d2, rp, h, cl⟩ := h
  unfold in2 at h
  split at h
  · rename_i ps
    obtain ⟨f1, f2, hq⟩ := h
    obtain ⟨b, us, rfl, sb, db⟩ := d2
    obtain ⟨g1, g2⟩ := flat_in f1 d1 f2 db
    refine op_notIn_seq pins s σ H _ _ v u Q I rx ry ⟨b, us, rfl, .inr sb, flat_V f1 d1, g1, ?_⟩
    rw [g2]
    exact cl _ _ _ _ hq rfl rp .refl
  · rename_i b
    split at h
    · rename_i ps e
      obtain ⟨f1, f2, hq⟩ := h
      obtain rfl : y = .ref b := d2
      obtain ⟨us, sb, db⟩ := lk_sq rp e
      obtain ⟨g1, g2⟩ := flat_in f1 d1 f2 db
      refine op_notIn_seq pins s σ H _ _ v u Q I rx ry ⟨b, us, rfl, .inl sb, flat_V f1 d1, g1, ?_⟩
      rw [g2]
      exact cl _ _ _ _ hq rfl rp .refl
    · exact h.elim
  · rename_i j
    split at h
    · rename_i i
      obtain rfl : x = .str i := d1
      obtain rfl : y = .str j := d2
      exact op_notin_str pins s σ H _ _ v u Q I rx ry ⟨i, j, rfl, rfl, cl _ _ _ _ h rfl rp .refl⟩
    · exact h.elim
  · exact h.elim
theorem non_iff {K : PySem.W.Frag} {H : Hp} {p : PV} {v : V} (d : Dv K H p v) : (v = .non) ↔ (p = .non) := by
  cases p with
  | non => obtain rfl : v = .non := d; simp
  | tup ps => obtain ⟨a, vs, rfl, _⟩ := d; simp
  | bl b => obtain rfl : v = .bl b := d; simp
  | int b => obtain rfl : v = .int b := d; simp
  | str b => obtain rfl : v = .str b := d; simp
  | ref b => obtain rfl : v = .ref b := d; simp
  | ty b => obtain rfl : v = .ty b := d; simp
  | ro b => obtain ⟨a, vs, rfl, _⟩ := d; simp
theorem o_isN : OpR X (compareOp .Is) (lowB X.K isN2) := by
  intro pins s σ H x y v u Q I rx ry h
  obtain ⟨p, q, G, Q2, d1, d2, rp, h, cl⟩ := h
  have z := non_iff d1
  cases q with
  | non =>
    obtain rfl : y = .non := d2
    refine op_isN pins s σ H _ _ v u Q I rx ry ⟨rfl, ?_⟩
    cases p with
    | non => rw [decide_eq_true (z.mpr rfl)]; exact cl _ _ _ _ h rfl rp .refl
    | _ => rw [decide_eq_false (fun e => nomatch (z.mp e))]; exact cl _ _ _ _ h rfl rp .refl
  | _ => cases p <;> exact False.elim h
theorem o_isnN : OpR X (compareOp .IsNot) (lowB X.K isnN2) := by
  intro pins s σ H x y v u Q I rx ry h
  obtain ⟨p, q, G, Q2, d1, d2, rp, h, cl⟩ := h
  have z := non_iff d1
  cases q with
  | non =>
    obtain rfl : y = .non := d2
    refine op_notN pins s σ H _ _ v u Q I rx ry ⟨rfl, ?_⟩
    cases p with
    | non => rw [decide_eq_true (z.mpr rfl)]; exact cl _ _ _ _ h rfl rp .refl
    | _ => rw [decide_eq_false (fun e => nomatch (z.mp e))]; exact cl _ _ _ _ h rfl rp .refl
  | _ => cases p <;> exact False.elim h
end
noncomputable def ix2 : B2 := fun p q G Q => match p, q with
  | .tup ps, .int i => match atI ps i with
    | some x => Q x G
    | none => False
  | .ref a, .int i => match lk G a with
    | some ps => match atI ps i with
      | some x => Q x G
      | none => False
    | none => False
  | .str z, .int i => z.length ≤ 1000000 ∧ match atI z.cps.toList i with
    | some c => Q (.str ⟨#[c]⟩) G
    | none => False
  | _, _ => False
theorem atI_D {K : PySem.W.Frag} {H : Hp} {ps : List PV} {vs : List V} {i : Int} {p : PV} (d : Dvs K H ps vs) (h : atI ps i = some p) : ∃ v, atI vs i = some v ∧ Dv K H p v := by
  unfold atI at h ⊢
  rw [d.length]
  cases e : ixN ps.length i with
  | none => rw [e] at h; cases h
  | some j =>
    rw [e] at h
    exact d.at h
theorem x_seq {X : Cx} : IxR X (lowB X.K ix2) := by
  intro va sl pins s σ H x y v u Q I rx ry h hs
  obtain ⟨p, q, G, Q2, d1, d2, rp, h, cl⟩ := h
  unfold ix2 at h
  split at h
  · rename_i ps i
    split at h
    · rename_i z e
      obtain ⟨a, vs, rfl, sa, da⟩ := d1
      obtain rfl : y = .int i := d2
      obtain ⟨w, ew, dw⟩ := atI_D da e
      exact ix_tup va sl pins s σ H _ _ v u Q I rx ry ⟨a, vs, i, w, rfl, rfl, sa, ew, cl _ _ _ _ h dw rp .refl⟩ hs
    · exact h.elim
  · rename_i a i
    split at h
    · rename_i ps e0
      split at h
      · rename_i z e
        obtain rfl : x = .ref a := d1
        obtain rfl : y = .int i := d2
        obtain ⟨vs, sa, da⟩ := lk_sq rp e0
        obtain ⟨w, ew, dw⟩ := atI_D da e
        exact ix_list va sl pins s σ H _ _ v u Q I rx ry ⟨a, vs, i, w, rfl, rfl, sa, ew, cl _ _ _ _ h dw rp .refl⟩ hs
      · exact h.elim
    · exact h.elim
  · rename_i z i
    obtain ⟨hz, h⟩ := h
    split at h
    · rename_i c e
      obtain rfl : x = .str z := d1
      obtain rfl : y = .int i := d2
      exact ix_str va sl pins s σ H _ _ v u Q I rx ry ⟨z, i, c, rfl, rfl, big hz, e, cl _ _ _ _ h rfl rp .refl⟩ hs
    · exact h.elim
  · exact h.elim
end L3
namespace L3
open PySem L2
noncomputable def len2 : C2 := fun ps G Q => match ps with
  | [.tup xs] => Q (.int xs.length) G
  | [.ref a] => match lk G a with
    | some xs => Q (.int xs.length) G
    | none => False
  | [.str z] => z.length ≤ 1000000 ∧ Q (.int z.length) G
  | _ => False
theorem one_arg {K : PySem.W.Frag} {H : Hp} {p : PV} {vs : List V} (d : Dvs K H [p] vs) : ∃ v, vs = [v] ∧ Dv K H p v := by
  obtain ⟨v, r, rfl, d1, d2⟩ := d
  obtain rfl : r = [] := d2
  exact ⟨v, rfl, d1⟩
theorem two_arg {K : PySem.W.Frag} {H : Hp} {p q : PV} {vs : List V} (d : Dvs K H [p, q] vs) : ∃ v u, vs = [v, u] ∧ Dv K H p v ∧ Dv K H q u := by
  obtain ⟨v, r, rfl, d1, d2⟩ := d
  obtain ⟨u, rfl, d3⟩ := one_arg d2
  exact ⟨v, u, rfl, d1, d3⟩
section
variable {X : Cx}
theorem c_len : CallR X (.builtin "len") (lowC X.K len2) := by
  intro pins s σ H xs us Q I rs h
  obtain ⟨ps, G, Q2, d, rp, h, cl⟩ := h
  unfold len2 at h
  split at h
  · rename_i ys
    obtain ⟨v, rfl, dv⟩ := one_arg d
    obtain ⟨a, vs, rfl, sa, da⟩ := dv
    refine call_len_seq pins s σ H _ us Q I rs ⟨a, vs, rfl, .inr sa, ?_⟩
    rw [da.length]
    exact cl _ _ _ _ h rfl rp .refl
  · rename_i a
    split at h
    · rename_i ys e
      obtain ⟨v, rfl, dv⟩ := one_arg d
      obtain rfl : v = .ref a := dv
      obtain ⟨vs, sa, da⟩ := lk_sq rp e
      refine call_len_seq pins s σ H _ us Q I rs ⟨a, vs, rfl, .inl sa, ?_⟩
      rw [da.length]
      exact cl _ _ _ _ h rfl rp .refl
    · exact h.elim
  · rename_i z
    obtain ⟨v, rfl, dv⟩ := one_arg d
    obtain rfl : v = .str z := dv
    exact call_len_str pins s σ H _ us Q I rs ⟨z, rfl, big h.1, cl _ _ _ _ h.2 rfl rp .refl⟩
  · exact h.elim
noncomputable def max22 : C2 := fun ps G Q => match ps with
  | [.int i, .int j] => Q (.int (if j > i then j else i)) G
  | _ => False
theorem c_max2 (hc : X.calm = true) : CallR X (.builtin "max") (lowC X.K max22) := by
  intro pins s σ H xs us Q I rs h
  obtain ⟨ps, G, Q2, d, rp, h, cl⟩ := h
  unfold max22 at h
  split at h
  · rename_i i j
    obtain ⟨v, u, rfl, dv, du⟩ := two_arg d
    obtain rfl : v = .int i := dv
    obtain rfl : u = .int j := du
    exact call_max2 hc pins s σ H _ us Q I rs ⟨i, j, rfl, cl _ _ _ _ h rfl rp .refl⟩
  · exact h.elim
noncomputable def list2 : C2 := fun ps G Q => match ps with
  | [.tup xs] => ∀ c, G c = none → Q (.ref c) (up G c (.lst xs))
  | [.ref a] => match G a with
    | some (.lst xs) => ∀ c, G c = none → Q (.ref c) (up G c (.lst xs))
    | some (.rl xs) => ∀ c, G c = none → Q (.ref c) (up G c (.lst xs))
    | some (.rng lo hi) => (-(2 ^ 62) ≤ lo ∧ lo < 2 ^ 62 ∧ -(2 ^ 62) ≤ hi ∧ hi < 2 ^ 62) ∧ (hi - lo).toNat ≤ 1000000 ∧ ∀ c, G c = none → Q (.ref c) (up G c (.lst (intsP lo (hi - lo).toNat)))
    | _ => False
  | _ => False
theorem ints_vals {lo : Int} : ∀ (n : Nat) {its : List Value}, its.length = n → (∀ i, i < n → ∃ t, its[i]? = some (Value.int (lo + (i : Nat)) t)) → Vals ((List.range n).map fun (i : Nat) => V.int (lo + i)) its := by
  intro n
  induction n with
  | zero => intro its hl _; rw [List.eq_nil_of_length_eq_zero hl]; exact .nil
  | succ n ih =>
    intro its hl h
    have e : its = its.take n ++ [its[n]'(by omega)] := by
      have := List.take_append_drop n its
      rw [List.drop_eq_getElem_cons (by omega), List.drop_of_length_le (by omega)] at this
      exact this.symm
    obtain ⟨t, ht⟩ := h n (by omega)
    have ht' : its[n]'(by omega) = .int (lo + (n : Nat)) t := by
      rw [List.getElem?_eq_getElem (by omega)] at ht
      exact Option.some.inj ht
    rw [e, List.range_succ, List.map_append]
    refine Vals.append (ih (by rw [List.length_take]; omega) fun i hi => ?_) (.cons ⟨t, ht'⟩ .nil)
    obtain ⟨t2, h2⟩ := h i (by omega)
    refine ⟨t2, ?_⟩
    rw [List.getElem?_take]
    rw [if_pos hi]
    exact h2
theorem ints_D {K : PySem.W.Frag} {H : Hp} {lo : Int} : ∀ (l : List Nat), Dvs K H (l.map fun (i : Nat) => PV.int (lo + i)) (l.map fun (i : Nat) => V.int (lo + i))
  | [] => rfl
  | i :: l => ⟨_, _, rfl, rfl, ints_D l⟩
theorem c_list (hc : X.calm = true) : CallR X (.type "list") (lowC X.K list2) := by
  intro pins s σ H xs us Q I rs h
  obtain ⟨ps, G, Q2, d, rp, h, cl⟩ := h
  unfold list2 at h
  split at h
  · rename_i ys
    obtain ⟨v, rfl, dv⟩ := one_arg d
    obtain ⟨a, vs, rfl, sa, da⟩ := dv
    exact call_list_of pins s σ H _ us Q I rs ⟨a, vs, rfl, .inr sa, fun c hc => cl _ _ _ _ (h c (rp.none hc)) rfl (rp.new hc da) (keep_new hc)⟩
  · rename_i a
    obtain ⟨v, rfl, dv⟩ := one_arg d
    obtain rfl : v = .ref a := dv
    split at h
    · rename_i ys e
      obtain ⟨vs, sa, da⟩ := rp.lst e
      exact call_list_of pins s σ H _ us Q I rs ⟨a, vs, rfl, .inl (.of sa), fun c hc => cl _ _ _ _ (h c (rp.none hc)) rfl (rp.new hc da) (keep_new hc)⟩
    · rename_i ys e
      obtain ⟨vs, sa, da⟩ := rp a _ e
      exact call_list_of pins s σ H _ us Q I rs ⟨a, vs, rfl, .inl (.inl sa), fun c hc => cl _ _ _ _ (h c (rp.none hc)) rfl (rp.new hc da) (keep_new hc)⟩
    · rename_i lo hi e
      obtain ⟨⟨b1, b2, b3, b4⟩, hn, hq⟩ := h
      have hr : H a = some (.rng lo hi) := rp a _ e
      obtain ⟨u, rfl, ru⟩ := rs.one
      cases ru
      obtain ⟨t, u, v, hg⟩ := I.hok a _ hr
      have e2 : Builtin.Range.rangeSize lo hi 1 = (((hi - lo).toNat : Nat) : Int) := by
        show (if (1 : Int) > 0 then (if lo < hi then (hi - lo - 1) / 1 + 1 else 0) else _) = _
        rw [if_pos (by decide)]
        split <;> omega
      refine call_list_range (n := (hi - lo).toNat) (I.ok.hd hc) hg (small_one b1 b2 b3 b4) e2 (by omega) fun h' tk acc' c' hk hS hacc => ?_
      have hfr : H s.heap.objs.size = none := I.hok.fresh (Nat.le_refl _)
      refine ⟨.ref s.heap.objs.size, upd H s.heap.objs.size (.lst ((List.range (hi - lo).toNat).map fun (i : Nat) => V.int (lo + i))), I.laid (t' := tk) (fun b o e => hk b o e) (Nat.le_refl _) ?_, rfl, cl _ _ _ _ (hq _ (rp.none hfr)) rfl (rp.new hfr (ints_D _)) (keep_new hfr)⟩
      have hz : acc'.size = (hi - lo).toNat := hacc.1
      refine ⟨by rw [List.length_map, List.length_range]; exact big hn, acc'.toList, c', ints_vals _ (by simpa using hz) fun i hi' => ?_, by simpa using hS⟩
      have hv : acc'[i]? = some (acc'[i]'(by omega)) := by simp
      obtain ⟨t, et⟩ := hacc.2 i _ hv
      refine ⟨t, ?_⟩
      have : acc'.toList[i]? = some (acc'[i]'(by omega)) := by simp
      rw [this, et, Int.mul_one]
    · exact h.elim
  · exact h.elim
noncomputable def tuple2 : C2 := fun ps G Q => match ps with
  | [.tup xs] => Q (.tup xs) G
  | [.ref a] => match lk G a with
    | some xs => Q (.tup xs) G
    | none => False
  | _ => False
theorem c_tuple : CallR X (.type "tuple") (lowC X.K tuple2) := by
  intro pins s σ H xs us Q I rs h
  obtain ⟨ps, G, Q2, d, rp, h, cl⟩ := h
  unfold tuple2 at h
  split at h
  · rename_i ys
    obtain ⟨v, rfl, dv⟩ := one_arg d
    obtain ⟨a, vs, rfl, sa, da⟩ := dv
    exact call_tuple_of pins s σ H _ us Q I rs ⟨a, vs, rfl, .inr ⟨sa, cl _ _ _ _ h ⟨a, vs, rfl, sa, da⟩ rp .refl⟩⟩
  · rename_i a
    obtain ⟨v, rfl, dv⟩ := one_arg d
    obtain rfl : v = .ref a := dv
    split at h
    · rename_i ys e
      obtain ⟨vs, sa, da⟩ := lk_sq rp e
      refine call_tuple_of pins s σ H _ us Q I rs ⟨a, vs, rfl, .inl ⟨sa, fun c hc => ?_⟩⟩
      have kn : Keep X.K H (upd H c (.tup vs)) := keep_new hc
      exact cl _ _ _ _ h ⟨c, vs, rfl, .of upd_same, da.keep kn⟩ (rp.tup hc) kn
    · exact h.elim
  · exact h.elim
noncomputable def range2 : C2 := fun ps G Q => match ps with
  | [.int j] => ∀ c, G c = none → Q (.ref c) (up G c (.rng 0 j))
  | [.int i, .int j] => ∀ c, G c = none → Q (.ref c) (up G c (.rng i j))
  | _ => False
theorem c_range : CallR X (.type "range") (lowC X.K range2) := by
  intro pins s σ H xs us Q I rs h
  obtain ⟨ps, G, Q2, d, rp, h, cl⟩ := h
  have hfr : H s.heap.objs.size = none := I.hok.fresh (Nat.le_refl _)
  unfold range2 at h
  split at h
  · rename_i j
    obtain ⟨v, rfl, dv⟩ := one_arg d
    obtain rfl : v = .int j := dv
    obtain ⟨u, rfl, t, rfl⟩ := rs.one
    refine call_range_1 ⟨.ref s.heap.objs.size, upd H s.heap.objs.size (.rng 0 j), I.laid (fun b o e => Heap.get?_push_of_some _ e) (Nat.le_refl _) ?_, rfl, cl _ _ _ _ (h _ (rp.none hfr)) rfl (rp.newR hfr) (keep_new hfr)⟩
    exact ⟨_, _, _, Heap.get?_push_size _ rfl⟩
  · rename_i i j
    obtain ⟨v, u, rfl, dv, du⟩ := two_arg d
    obtain rfl : v = .int i := dv
    obtain rfl : u = .int j := du
    cases rs with
    | cons r1 rs =>
      obtain ⟨u, rfl, t, rfl⟩ := Vals.one rs
      obtain ⟨t', rfl⟩ := r1
      refine call_range_2 ⟨.ref s.heap.objs.size, upd H s.heap.objs.size (.rng i j), I.laid (fun b o e => Heap.get?_push_of_some _ e) (Nat.le_refl _) ?_, rfl, cl _ _ _ _ (h _ (rp.none hfr)) rfl (rp.newR hfr) (keep_new hfr)⟩
      exact ⟨_, _, _, Heap.get?_push_size _ rfl⟩
  · exact h.elim
noncomputable def blsOf : List PV → Option (List Bool)
  | [] => some []
  | .bl b :: r => (blsOf r).map (b :: ·)
  | _ => none
theorem blsOf_D {K : PySem.W.Frag} {H : Hp} : ∀ {ps : List PV} {bs : List Bool} {vs : List V}, blsOf ps = some bs → Dvs K H ps vs → vs = bs.map V.bl
  | [], bs, vs, h, d => by cases h; exact d
  | p :: ps, bs, vs, h, d => by
    obtain ⟨v, r, rfl, d1, d2⟩ := d
    cases p with
    | bl b =>
      unfold blsOf at h
      cases e : blsOf ps with
      | none => rw [e] at h; cases h
      | some cs =>
        rw [e] at h
        cases h
        obtain rfl : v = .bl b := d1
        rw [blsOf_D e d2]
        rfl
    | _ => cases h
noncomputable def all2 : C2 := fun ps G Q => match ps with
  | [.ref a] => match lk G a with
    | some xs => match blsOf xs with
      | some bs => Q (.bl (bs.all id)) G
      | none => False
    | none => False
  | _ => False
theorem c_all (hc : X.calm = true) : CallR X (.builtin "all") (lowC X.K all2) := by
  intro pins s σ H xs us Q I rs h
  obtain ⟨ps, G, Q2, d, rp, h, cl⟩ := h
  unfold all2 at h
  split at h
  · rename_i a
    split at h
    · rename_i ys e
      split at h
      · rename_i bs eb
        obtain ⟨v, rfl, dv⟩ := one_arg d
        obtain rfl : v = .ref a := dv
        obtain ⟨vs, sa, da⟩ := lk_sq rp e
        obtain rfl := blsOf_D eb da
        exact call_all hc pins s σ H _ us Q I rs ⟨a, bs, rfl, sa, cl _ _ _ _ h rfl rp .refl⟩
      · exact h.elim
    · exact h.elim
  · exact h.elim
noncomputable def intsOf : List PV → Option (List Int)
  | [] => some []
  | .int b :: r => (intsOf r).map (b :: ·)
  | _ => none
theorem intsOf_D {K : PySem.W.Frag} {H : Hp} : ∀ {ps : List PV} {bs : List Int} {vs : List V}, intsOf ps = some bs → Dvs K H ps vs → vs = bs.map V.int
  | [], bs, vs, h, d => by cases h; exact d
  | p :: ps, bs, vs, h, d => by
    obtain ⟨v, r, rfl, d1, d2⟩ := d
    cases p with
    | int b =>
      unfold intsOf at h
      cases e : intsOf ps with
      | none => rw [e] at h; cases h
      | some cs =>
        rw [e] at h
        cases h
        obtain rfl : v = .int b := d1
        rw [intsOf_D e d2]
        rfl
    | _ => cases h
theorem intsOf_map (ns : List Int) : intsOf (ns.map PV.int) = some ns := by
  induction ns with
  | nil => rfl
  | cons n ns ih => rw [List.map_cons]; unfold intsOf; rw [ih]; rfl
theorem blsOf_map (ns : List Bool) : blsOf (ns.map PV.bl) = some ns := by
  induction ns with
  | nil => rfl
  | cons n ns ih => rw [List.map_cons]; unfold blsOf; rw [ih]; rfl
theorem ints_Dm {K : PySem.W.Frag} {H : Hp} : ∀ (l : List Int), Dvs K H (l.map PV.int) (l.map V.int)
  | [] => rfl
  | i :: l => ⟨_, _, rfl, rfl, ints_Dm l⟩
noncomputable def sum2 : C2 := fun ps G Q => match ps with
  | [.ref a] => match lk G a with
    | some xs => match intsOf xs with
      | some ns => Q (.int ns.sum) G
      | none => False
    | none => False
  | _ => False
theorem c_sum (hc : X.calm = true) : CallR X (.builtin "sum") (lowC X.K sum2) := by
  intro pins s σ H xs us Q I rs h
  obtain ⟨ps, G, Q2, d, rp, h, cl⟩ := h
  unfold sum2 at h
  split at h
  · rename_i a
    split at h
    · rename_i ys e
      split at h
      · rename_i ns eb
        obtain ⟨v, rfl, dv⟩ := one_arg d
        obtain rfl : v = .ref a := dv
        obtain ⟨vs, sa, da⟩ := lk_sq rp e
        obtain rfl := intsOf_D eb da
        obtain ⟨u, rfl, ru⟩ := rs.one
        cases ru
        obtain ⟨its, r, pl, _⟩ := I.list sa
        have hi := intsAre_of r
        obtain ⟨zs, ez⟩ := hi.allInts.items
        refine sum_intListG (I.ok.hd hc) (xs := zs) (by rw [← ez]; exact pl.isList) fun h' tk t' hk => ?_
        refine ⟨.int ns.sum, H, I.kept (t' := tk) fun b o e => hk b o e, ⟨t', ?_⟩, cl _ _ _ _ h rfl rp .refl⟩
        have e1 : numsOf its = ns := hi.numsOf
        have e2 : its.toArray.toList = its := rfl
        rw [← e2, ez, nums_intItems] at e1
        rw [preSum_eq, List.take_of_length_le (by simp)]
        rw [← e1]
      · exact h.elim
    · exact h.elim
  · exact h.elim
end
end L3
namespace L3
open PySem L2
noncomputable def isL (p : PV) (G : Gp) : Prop := match p with
  | .ref a => ∃ ps, G a = some (.lst ps)
  | _ => False
noncomputable abbrev eMtL (r : M2) (to : E2) (t : A2) : E2 := fun τ G Q => to τ G fun x G1 => isL x G1 ∧ t τ G1 fun ps G2 => r x ps G2 Q
noncomputable abbrev eMtL0 (r : M2) (to : E2) : E2 := fun τ G Q => to τ G fun x G1 => isL x G1 ∧ r x [] G1 Q
noncomputable abbrev eMtS (r : M2) (to : E2) (t : A2) : E2 := fun τ G Q => to τ G fun x G1 => match x with
  | .str _ => t τ G1 fun ps G2 => r x ps G2 Q
  | _ => False
section
variable {X : Cx} {o e : Expr} {es : List Expr} {to : E2} {t : A2} {name : Str} {apos cpos : Pos} {id : String} {r : M2}
theorem isL_ty {K : PySem.W.Frag} {H : Hp} {p : PV} {v : V} {G : Gp} (h : isL p G) (d : Dv K H p v) (rp : Rep K H G) : tyV K "list" v H := by
  cases p with
  | ref a =>
    obtain ⟨ps, e⟩ := h
    obtain rfl : v = .ref a := d
    obtain ⟨vs, hv, _⟩ := rp.lst e
    exact .inl ⟨rfl, vs, .of hv⟩
  | _ => exact h.elim
theorem j_mtL (slot : Slot "list" name id) (hty : typeOf (.builtin id) = pure (.type "method_descriptor")) (hm : MtR X id (lowM X.K r)) (ho : JE X o to) (ha : JA X (e :: es) t)
    (hbase : attributeBase o name X.env (eval o X.env) = eval o X.env := by rfl)
    (hfew : ((backTo cpos (starEach (e :: es) X.env)).all (fun x => !x.1) && (backToKw cpos (keywordEach [] X.env)).all (fun x => x.1.isSome) && decide ((e :: es).length + ([] : List Keyword).length + (if ([] : List Keyword).isEmpty then 0 else 1) < 30)) = true := by rfl)
    (hline : (apos.endLine == cpos.line) = true := by rfl) (hs : starEach (e :: es) X.env = (false, eval e X.env) :: starEach es X.env := by rfl) (hplain : (backTo cpos (starEach es X.env)).any (·.1) = false := by rfl) :
    JE X (.Call (.Attribute o name apos) (e :: es) [] cpos) (eMtL r to t) := .of (pe_bm PySem.F.plainAttrs_list slot hty hm ho.h ha.h hbase hfew hline hs hplain) fun σ H Q ⟨τ, G, Q2, rs, rp, q, cl⟩ => by
  refine ⟨τ, G, _, rs, rp, q, fun p G1 v H1 q1 d1 r1 k1 => ⟨isL_ty q1.1 d1 r1, τ, G1, _, rs.keep k1, r1, q1.2, fun ps G2 vs H2 q2 d2 r2 k2 => ?_⟩⟩
  exact ⟨p, ps, G2, Q2, d1.keep k2, d2, r2, q2, cl.keep (k1.trans k2)⟩
theorem j_mtL0 (slot : Slot "list" name id) (hty : typeOf (.builtin id) = pure (.type "method_descriptor")) (hm : MtR X id (lowM X.K r)) (ho : JE X o to)
    (hbase : attributeBase o name X.env (eval o X.env) = eval o X.env := by rfl) (hline : (apos.endLine == cpos.line) = true := by rfl) :
    JE X (.Call (.Attribute o name apos) [] [] cpos) (eMtL0 r to) := .of (pe_bm0 PySem.F.plainAttrs_list slot hty hm ho.h hbase hline) fun σ H Q ⟨τ, G, Q2, rs, rp, q, cl⟩ => by
  refine ⟨τ, G, _, rs, rp, q, fun p G1 v H1 q1 d1 r1 k1 => ⟨isL_ty q1.1 d1 r1, ?_⟩⟩
  exact ⟨p, [], G1, Q2, d1, .nil, r1, q1.2, cl.keep k1⟩
theorem j_mtS (slot : Slot "str" name id) (hty : typeOf (.builtin id) = pure (.type "method_descriptor")) (hm : MtR X id (lowM X.K r)) (ho : JE X o to) (ha : JA X (e :: es) t)
    (hbase : attributeBase o name X.env (eval o X.env) = eval o X.env := by rfl)
    (hfew : ((backTo cpos (starEach (e :: es) X.env)).all (fun x => !x.1) && (backToKw cpos (keywordEach [] X.env)).all (fun x => x.1.isSome) && decide ((e :: es).length + ([] : List Keyword).length + (if ([] : List Keyword).isEmpty then 0 else 1) < 30)) = true := by rfl)
    (hline : (apos.endLine == cpos.line) = true := by rfl) (hs : starEach (e :: es) X.env = (false, eval e X.env) :: starEach es X.env := by rfl) (hplain : (backTo cpos (starEach es X.env)).any (·.1) = false := by rfl) :
    JE X (.Call (.Attribute o name apos) (e :: es) [] cpos) (eMtS r to t) := .of (pe_bm PySem.F.plainAttrs_str slot hty hm ho.h ha.h hbase hfew hline hs hplain) fun σ H Q ⟨τ, G, Q2, rs, rp, q, cl⟩ => by
  refine ⟨τ, G, _, rs, rp, q, fun p G1 v H1 q1 d1 r1 k1 => ?_⟩
  cases p with
  | str z =>
    obtain rfl : v = .str z := d1
    refine ⟨rfl, τ, G1, _, rs.keep k1, r1, q1, fun ps G2 vs H2 q2 d2 r2 k2 => ?_⟩
    exact ⟨.str z, ps, G2, Q2, rfl, d2, r2, q2, cl.keep (k1.trans k2)⟩
  | _ => exact False.elim q1
noncomputable def append2 : M2 := fun p ps G Q => match p, ps with
  | .ref a, [y] => match G a with
    | some (.lst xs) => xs.length < 1000000 ∧ Q .non (up G a (.lst (xs ++ [y])))
    | _ => False
  | _, _ => False
theorem m_append : MtR X "list.append" (lowM X.K append2) := by
  intro pins s σ H x xs v us Q I rx rs h
  obtain ⟨p, ps, G, Q2, d, ds, rp, h, cl⟩ := h
  unfold append2 at h
  split at h
  · rename_i a y
    split at h
    · rename_i zs e
      obtain rfl : x = .ref a := d
      obtain ⟨w, rfl, dw⟩ := one_arg ds
      obtain ⟨vs, hv, dv⟩ := rp.lst e
      exact mt_append pins s σ H _ _ v us Q I rx rs ⟨a, vs, w, rfl, rfl, hv, by rw [dv.length]; exact bigLt (Nat.le_of_lt h.1), cl _ _ _ _ h.2 rfl (rp.put hv (dv.append (.cons dw .nil))) (keep_lst hv)⟩
    · exact h.elim
  · exact h.elim
noncomputable def extend2 : M2 := fun p ps G Q => match p, ps with
  | .ref a, [.tup ys] => match G a with
    | some (.lst xs) => xs.length + ys.length ≤ 1000000 ∧ Q .non (up G a (.lst (xs ++ ys)))
    | _ => False
  | .ref a, [.ref b] => match G a, G b with
    | some (.lst xs), some (.lst ys) => xs.length + ys.length ≤ 1000000 ∧ Q .non (up G a (.lst (xs ++ ys)))
    | _, _ => False
  | _, _ => False
theorem m_extend : MtR X "list.extend" (lowM X.K extend2) := by
  intro pins s σ H x xs v us Q I rx rs h
  obtain ⟨p, ps, G, Q2, d, ds, rp, h, cl⟩ := h
  unfold extend2 at h
  split at h
  · rename_i a ys
    split at h
    · rename_i zs e
      obtain rfl : x = .ref a := d
      obtain ⟨w, rfl, dw⟩ := one_arg ds
      obtain ⟨b, ws, rfl, sb, db⟩ := dw
      obtain ⟨vs, hv, dv⟩ := rp.lst e
      exact mt_extendT pins s σ H _ _ v us Q I rx rs ⟨a, b, vs, ws, rfl, rfl, hv, sb, by rw [dv.length, db.length]; exact big h.1, cl _ _ _ _ h.2 rfl (rp.put hv (dv.append db)) (keep_lst hv)⟩
    · exact h.elim
  · rename_i a b
    split at h
    · rename_i zs ys e1 e2
      obtain rfl : x = .ref a := d
      obtain ⟨w, rfl, dw⟩ := one_arg ds
      obtain rfl : w = .ref b := dw
      obtain ⟨vs, hv, dv⟩ := rp.lst e1
      obtain ⟨ws, hb, db⟩ := rp.lst e2
      exact mt_extend pins s σ H _ _ v us Q I rx rs ⟨a, b, vs, ws, rfl, rfl, hv, hb, by rw [dv.length, db.length]; exact big h.1, cl _ _ _ _ h.2 rfl (rp.put hv (dv.append db)) (keep_lst hv)⟩
    · exact h.elim
  · exact h.elim
noncomputable def pop2 : M2 := fun p ps G Q => match p, ps with
  | .ref a, [] => match G a with
    | some (.lst xs) => match xs[xs.length - 1]? with
      | some y => Q y (up G a (.lst xs.dropLast))
      | none => False
    | _ => False
  | _, _ => False
theorem Dvs.dropLast {K : PySem.W.Frag} {H : Hp} {ps : List PV} {vs : List V} (d : Dvs K H ps vs) : Dvs K H ps.dropLast vs.dropLast := by
  rw [List.dropLast_eq_take, List.dropLast_eq_take, d.length]
  exact d.take _
theorem m_pop : MtR X "list.pop" (lowM X.K pop2) := by
  intro pins s σ H x xs v us Q I rx rs h
  obtain ⟨p, ps, G, Q2, d, ds, rp, h, cl⟩ := h
  unfold pop2 at h
  split at h
  · rename_i a
    split at h
    · rename_i zs e
      split at h
      · rename_i y ey
        obtain rfl : x = .ref a := d
        obtain rfl : xs = [] := ds
        obtain ⟨vs, hv, dv⟩ := rp.lst e
        obtain ⟨w, ew, dw⟩ := dv.at ey
        refine mt_pop pins s σ H _ _ v us Q I rx rs ⟨a, vs, w, rfl, rfl, hv, by rw [dv.length]; exact ew, cl _ _ _ _ h (dw.keep (keep_lst hv)) (rp.put hv dv.dropLast) (keep_lst hv)⟩
      · exact h.elim
    · exact h.elim
  · exact h.elim
noncomputable def strsOf : List PV → Option (List Str)
  | [] => some []
  | .str b :: r => (strsOf r).map (b :: ·)
  | _ => none
theorem strsOf_D {K : PySem.W.Frag} {H : Hp} : ∀ {ps : List PV} {bs : List Str} {vs : List V}, strsOf ps = some bs → Dvs K H ps vs → vs = bs.map V.str
  | [], bs, vs, h, d => by cases h; exact d
  | p :: ps, bs, vs, h, d => by
    obtain ⟨v, r, rfl, d1, d2⟩ := d
    cases p with
    | str b =>
      unfold strsOf at h
      cases e : strsOf ps with
      | none => rw [e] at h; cases h
      | some cs =>
        rw [e] at h
        cases h
        obtain rfl : v = .str b := d1
        rw [strsOf_D e d2]
        rfl
    | _ => cases h
theorem strsOf_map (ns : List Str) : strsOf (ns.map PV.str) = some ns := by
  induction ns with
  | nil => rfl
  | cons n ns ih => rw [List.map_cons]; unfold strsOf; rw [ih]; rfl
noncomputable def join2 : M2 := fun p ps G Q => match p, ps with
  | .str z, [.ref a] => match lk G a with
    | some xs => match strsOf xs with
      | some ys => (ys.map (·.length)).sum + ys.length * z.length ≤ 1000000 ∧ Q (.str (Txt.join z ys)) G
      | none => False
    | none => False
  | _, _ => False
theorem m_join : MtR X "str.join" (lowM X.K join2) := by
  intro pins s σ H x xs v us Q I rx rs h
  obtain ⟨p, ps, G, Q2, d, ds, rp, h, cl⟩ := h
  unfold join2 at h
  split at h
  · rename_i z a
    split at h
    · rename_i ws e
      split at h
      · rename_i ys ey
        obtain rfl : x = .str z := d
        obtain ⟨w, rfl, dw⟩ := one_arg ds
        obtain rfl : w = .ref a := dw
        obtain ⟨vs, sa, da⟩ := lk_sq rp e
        obtain rfl := strsOf_D ey da
        exact mt_join pins s σ H _ _ v us Q I rx rs ⟨z, a, ys, rfl, rfl, sa, Nat.le_trans h.1 (by decide), cl _ _ _ _ h.2 rfl rp .refl⟩
      · exact h.elim
    · exact h.elim
  · exact h.elim
end
noncomputable abbrev O2 := St2 → Gp → (Option Int → Gp → Prop) → Prop
noncomputable def lowO (K : PySem.W.Frag) (t : O2) : TO := fun σ H Q => ∃ τ G Q2, RSt K H σ τ ∧ Rep K H G ∧ t τ G Q2 ∧ ∀ o G' H', Q2 o G' → Rep K H' G' → Keep K H H' → Q o H'
structure JO (X : Cx) (e : Option Expr) (t : O2) : Prop where
  h : PO X e (lowO X.K t)
noncomputable abbrev oNo : O2 := fun _ G Q => Q none G
noncomputable abbrev oSome (t : E2) : O2 := fun τ G Q => t τ G fun x G1 => match x with
  | .int i => Q (some i) G1
  | _ => False
noncomputable def cutP (xs : List PV) (lo hi : Option Int) : List PV := (xs.drop (HT.sIx xs.length 0 lo)).take (HT.sIx xs.length xs.length hi - HT.sIx xs.length 0 lo)
noncomputable def sl2 : PV → Option Int → Option Int → Gp → K2 → Prop := fun p lo hi G Q => match p with
  | .tup xs => ¬ (HT.sIx xs.length 0 lo = 0 ∧ HT.sIx xs.length xs.length hi = xs.length) ∧ Q (.tup (cutP xs lo hi)) G
  | .ref a => match lk G a with
    | some xs => ∀ c, G c = none → Q (.ref c) (up G c (.lst (cutP xs lo hi)))
    | none => False
  | .str z => z.length ≤ 1000000 ∧ Q (.str (Txt.slice z lo hi)) G
  | _ => False
noncomputable def lowSl (K : PySem.W.Frag) (r : PV → Option Int → Option Int → Gp → K2 → Prop) : V → Option Int → Option Int → Hp → VK → Prop := fun x lo hi H Q => ∃ p G Q2, Dv K H p x ∧ Rep K H G ∧ r p lo hi G Q2 ∧ Cl K H Q2 Q
noncomputable abbrev eSl (te : E2) (tl th : O2) : E2 := fun τ G Q => te τ G fun x G1 => tl τ G1 fun l G2 => th τ G2 fun u G3 => sl2 x l u G3 Q
section
variable {X : Cx} {e : Expr} {te : E2} {lo hi : Option Expr} {tl th : O2} {pos p2 : Pos}
theorem jo_none : JO X none oNo := ⟨fun pins s σ H Q I ⟨τ, G, Q2, rs, rp, q, cl⟩ => po_none pins s σ H Q I (cl _ _ _ q rp .refl)⟩
theorem jo_some (h : JE X e te) : JO X (some e) (oSome te) := ⟨fun pins s σ H Q I ⟨τ, G, Q2, rs, rp, q, cl⟩ => po_some h.h pins s σ H Q I ⟨τ, G, _, rs, rp, q, fun p G1 v H1 q1 d1 r1 k1 => by
  cases p with
  | int i =>
    obtain rfl : v = .int i := d1
    exact ⟨i, rfl, cl _ _ _ q1 r1 k1⟩
  | _ => exact False.elim q1⟩⟩
theorem cut_D {K : PySem.W.Frag} {H : Hp} {ps : List PV} {vs : List V} (d : Dvs K H ps vs) (lo hi : Option Int) : Dvs K H (cutP ps lo hi) (cutV vs lo hi) := by
  unfold cutP cutV
  rw [d.length]
  exact (d.drop _).take _
theorem s_all : SlR X (lowSl X.K sl2) := by
  intro pins s σ H x v vl vu lo hi sl Q I rx hs pl pu h
  obtain ⟨p, G, Q2, d, rp, h, cl⟩ := h
  unfold sl2 at h
  split at h
  · rename_i xs
    obtain ⟨a, vs, rfl, sa, da⟩ := d
    refine sl_tup pins s σ H _ v vl vu lo hi sl Q I rx hs pl pu ⟨a, vs, rfl, sa, by rw [da.length]; exact h.1, fun c hc => ?_⟩
    have kn : Keep X.K H (upd H c (.tup (cutV vs lo hi))) := keep_new hc
    exact cl _ _ _ _ h.2 ⟨c, _, rfl, .of upd_same, (cut_D da lo hi).keep kn⟩ (rp.tup hc) kn
  · rename_i a
    split at h
    · rename_i xs e
      obtain rfl : x = .ref a := d
      obtain ⟨vs, sa, da⟩ := lk_sq rp e
      exact sl_list pins s σ H _ v vl vu lo hi sl Q I rx hs pl pu ⟨a, vs, rfl, sa, fun c hc => cl _ _ _ _ (h c (rp.none hc)) rfl (rp.new hc (cut_D da lo hi)) (keep_new hc)⟩
    · exact h.elim
  · rename_i z
    obtain rfl : x = .str z := d
    exact sl_str pins s σ H _ v vl vu lo hi sl Q I rx hs pl pu ⟨z, rfl, big h.1, cl _ _ _ _ h.2 rfl rp .refl⟩
  · exact h.elim
theorem j_slice (he : JE X e te) (hl : JO X lo tl) (hu : JO X hi th) : JE X (.Subscript e (.Slice lo hi none p2) pos) (eSl te tl th) := .of (pe_slice s_all he.h hl.h hu.h) fun σ H Q ⟨τ, G, Q2, rs, rp, q, cl⟩ => by
  refine ⟨τ, G, _, rs, rp, q, fun p G1 v H1 q1 d1 r1 k1 => ⟨τ, G1, _, rs.keep k1, r1, q1, fun l G2 H2 q2 r2 k2 => ⟨τ, G2, _, rs.keep (k1.trans k2), r2, q2, fun u G3 H3 q3 r3 k3 => ?_⟩⟩⟩
  exact ⟨p, G3, Q2, d1.keep (k2.trans k3), r3, q3, cl.keep ((k1.trans k2).trans k3)⟩
end
theorem pickL_rev (its : Array Value) : slicePick its none none (some (-1)) = its.toList.reverse.toArray := by
  rw [← HT.pick_rev its]
  unfold slicePick
  show (List.filterMap (fun x => its[x]?) (sliceRange ((its.size : Int) - 1) (-1) (-1))).toArray = _
  have e : sliceRange ((its.size : Int) - 1) (-1) (-1) = (List.range its.size).map fun (k : Nat) => ((its.size : Int) - 1 + (-1) * (k : Int)).toNat := by
    unfold sliceRange
    have c : (if (-1 : Int) > 0 then (if ((its.size : Int) - 1) < -1 then (-1 - ((its.size : Int) - 1) + -1 - 1) / -1 else 0) else (if ((its.size : Int) - 1) > -1 then (((its.size : Int) - 1) - -1 - -1 - 1) / (-(-1)) else 0)).toNat = its.size := by
      rw [if_neg (by decide), show (-(-1 : Int)) = 1 from rfl, Int.ediv_one]
      split <;> omega
    simp only [c]
  rw [e, List.filterMap_map]
  have f : ((fun x => its[x]?) ∘ fun (k : Nat) => ((its.size : Int) - 1 + (-1) * (k : Int)).toNat) = fun (m : Nat) => its[((its.size : Int) - 1 + (m : Int) * (-1)).toNat]? := by
    funext m
    show its[((its.size : Int) - 1 + (-1) * (m : Int)).toNat]? = _
    rw [Int.mul_comm]
  rw [f]
noncomputable abbrev eRev (te : E2) : E2 := fun τ G Q => te τ G fun x G1 => match x with
  | .tup xs => Q (.tup xs.reverse) G1
  | .ref a => match lk G1 a with
    | some xs => ∀ c, G1 c = none → Q (.ref c) (up G1 c (.lst xs.reverse))
    | none => False
  | _ => False
section
variable {X : Cx}
theorem j_rev {e : Expr} {te : E2} {k : Nat} {p1 p2 p3 pos : Pos} (he : JE X e te) : JE X (.Subscript e (.Slice none none (some (.UnaryOp .USub (.Constant (.int 1) k p1) p3)) p2) pos) (eRev te) := ⟨by
  intro pins s σ H Q I h
  obtain ⟨τ, G, Q2, rs, rp, h, cl⟩ := h
  refine PyProof.Rows.Subscript_ (thn (he.h pins s σ H (fun v H1 => ∃ p G1, Dv X.K H1 p v ∧ Rep X.K H1 G1 ∧ Keep X.K H H1 ∧ (match p with
    | .tup xs => Q2 (.tup xs.reverse) G1
    | .ref a => match lk G1 a with
      | some xs => ∀ c, G1 c = none → Q2 (.ref c) (up G1 c (.lst xs.reverse))
      | none => False
    | _ => False)) I ⟨τ, G, _, rs, rp, h, fun p G1 v H1 q d r k => ⟨p, G1, d, r, k, q⟩⟩) fun v s1 ⟨x, H1, I1, r1, q, G1, d1, rp1, k1, q1⟩ => ?_)
  refine wpAny_Slice ?_
  rw [evalPart_none]
  refine wpAny_pure (wpAny_pure ?_)
  have hm : PE X (.UnaryOp .USub (.Constant (.int 1) k p1) p3) (tUn (rU fun i => .int (-i)) (tC (.int 1))) := pe_un un_neg pe_int
  refine thn (hm pins s1 σ H1 (fun v H' => v = .int (-1) ∧ H' = H1) I1 ⟨1, rfl, rfl, rfl⟩) fun st s3 ⟨v3, H3, I3, r3, e3, eh⟩ => ?_
  subst e3 eh
  obtain ⟨tk, rfl⟩ := r3
  have I4 := I3.kept (t' := s3.toks) (h' := s3.heap.push { cls := .type "slice", data := .fields #[.none, .none, .int (-1) tk] }) fun b ob q => Heap.get?_push_of_some _ q
  have hfr := I4.hok.fresh (Nat.le_refl _)
  cases q with
  | tup ps =>
    obtain ⟨a, xs, rfl, hq, da⟩ := d1
    cases r1
    obtain ⟨its, rv, pl, hz⟩ := I4.tuple hq
    have hl := rv.length
    refine PyProof.Rows.tail_any (ops := [.ref a, .ref s3.heap.objs.size]) pl.typeIs PyProof.Rows.slot_tuple_getitem.lookup ?_ (by with_unfolding_all rfl)
    refine HT.getItem_tuple_rev pl (Heap.IsSliceOf.new ..) ?_ (by rw [List.size_toArray] <;> omega)
    have kn := keep_new (K := X.K) (o := .tup xs.reverse) hfr
    refine ⟨.ref _, _, I4.laid (t' := s3.toks) (o := .tup xs.reverse) (fun b ob q => Heap.get?_push_of_some _ q) (Nat.le_refl _) ?_, rfl, cl _ _ _ _ q1 ⟨_, _, rfl, .of upd_same, da.reverse.keep kn⟩ (rp1.tup hfr) (k1.trans kn)⟩
    exact ⟨by rw [List.length_reverse]; exact hz, its.reverse, rv.reverse, ⟨_, Heap.get?_push_size _ rfl, rfl, 0, by simp⟩⟩
  | ref a =>
    dsimp only at q1
    split at q1
    · rename_i ps e
      obtain rfl : x = .ref a := d1
      cases r1
      obtain ⟨xs, hq, da⟩ := lk_sq rp1 e
      obtain ⟨its, rv, pl, hz⟩ := I4.list hq
      have hl := rv.length
      refine PyProof.Rows.tail_any (ops := [.ref a, .ref s3.heap.objs.size]) pl.isList.typeIs slot_list_getitem.lookup ?_ (by with_unfolding_all rfl)
      refine wpAny_getItem_list_slice pl.isList (Heap.IsSliceOf.new ..) .none .none (.int (-1) tk) (by simp) ?_ (by rw [List.size_toArray] <;> omega)
      rw [pickL_rev]
      refine ⟨.ref _, _, I4.laid (t' := s3.toks) (o := .lst xs.reverse) (fun b ob q => Heap.get?_push_of_some _ q) (Nat.le_refl _) ?_, rfl, cl _ _ _ _ (q1 _ (rp1.none hfr)) rfl (rp1.new hfr da.reverse) (k1.trans (keep_new hfr))⟩
      exact ⟨by rw [List.length_reverse]; exact hz, its.reverse, 0, rv.reverse, by rw [Heap.get?_push_size _ rfl]⟩
    · exact q1.elim
  | _ => exact False.elim q1⟩
end
noncomputable def tyN (p : PV) (G : Gp) : Option String := match p with
  | .non => some "NoneType"
  | .bl _ => some "bool"
  | .int _ => some "int"
  | .str _ => some "str"
  | .tup _ => some "tuple"
  | .ref a => match G a with
    | some (.lst _) => some "list"
    | some (.dK _) => some "dict"
    | _ => none
  | _ => none
noncomputable def isT (ty T : String) : Bool := ty == T || (ty == "bool" && T == "int")
noncomputable abbrev tys : List String := ["NoneType", "bool", "int", "str", "tuple", "list", "dict"]
noncomputable abbrev Tys : List String := ["bool", "int", "str", "tuple", "list"]
set_option maxHeartbeats 4000000 in
theorem kit_ok {K : PySem.W.Frag} {ty T : String} (h1 : ty ∈ tys) (h2 : T ∈ Tys) : PySem.W.kitOne K (.type ty) (.type T) = some (isT ty T) := by
  simp only [List.mem_cons, List.not_mem_nil, or_false] at h1 h2
  rcases h1 with rfl | rfl | rfl | rfl | rfl | rfl | rfl <;> rcases h2 with rfl | rfl | rfl | rfl | rfl <;> kernel_rfl
noncomputable def inst2 : C2 := fun ps G Q => match ps with
  | [p, .ty T] => match tyN p G with
    | some ty => T ∈ Tys ∧ Q (.bl (isT ty T)) G
    | none => False
  | _ => False
section
variable {X : Cx}
theorem c_inst : CallR X (.builtin "isinstance") (lowC X.K inst2) := by
  intro pins s σ H xs us Q I rs h
  obtain ⟨ps, G, Q2, d, rp, h, cl⟩ := h
  unfold inst2 at h
  split at h
  · rename_i p T
    split at h
    · rename_i ty e
      obtain ⟨hT, hq⟩ := h
      obtain ⟨v, w, rfl, dv, dw⟩ := two_arg d
      obtain rfl : w = .ty T := dw
      cases rs with
      | cons r1 rs =>
        obtain ⟨u, rfl, ru⟩ := Vals.one rs
        cases ru
        have fin : ∀ tk, EP X pins σ Q (.bool (isT ty T)) { s with toks := tk } := fun tk => ⟨.bl _, H, I.tok tk, rfl, cl _ _ _ _ hq rfl rp .refl⟩
        unfold tyN at e
        split at e
        · cases e; obtain rfl : v = .non := dv; cases r1; exact PySem.W.kia_one PySem.W.kitx_none I.kIn True.intro (kit_ok (by decide) hT) (fun z => nomatch z) fin
        · cases e; rename_i b; obtain rfl : v = .bl b := dv; cases r1; exact PySem.W.kia_one PySem.W.kitx_bool I.kIn True.intro (kit_ok (by decide) hT) (fun z => nomatch z) fin
        · cases e; rename_i b; obtain rfl : v = .int b := dv; obtain ⟨t, rfl⟩ := r1; exact PySem.W.kia_one PySem.W.kitx_int I.kIn True.intro (kit_ok (by decide) hT) (fun z => nomatch z) fin
        · cases e; rename_i b; obtain rfl : v = .str b := dv; obtain ⟨t, rfl⟩ := r1; exact PySem.W.kia_one PySem.W.kitx_str I.kIn True.intro (kit_ok (by decide) hT) (fun z => nomatch z) fin
        · cases e
          obtain ⟨a, vs, rfl, sq, _⟩ := dv
          cases r1
          obtain ⟨its, _, pl, _⟩ := I.tuple sq
          obtain ⟨o, h1, h2, _⟩ := pl
          exact PySem.W.kia_one PySem.W.kitx_tuple I.kIn ⟨o, h1, h2⟩ (kit_ok (by decide) hT) (fun z => nomatch z) fin
        · rename_i a
          split at e
          · cases e
            rename_i qs eg
            obtain rfl : v = .ref a := dv
            cases r1
            obtain ⟨vs, hv, _⟩ := rp.lst eg
            obtain ⟨_, _, n, _, h1⟩ := (show ObjOk X.prog X.w H s.heap a (.lst vs) from I.hok a _ hv)
            exact PySem.W.kia_one PySem.W.kitx_list I.kIn ⟨_, h1, rfl⟩ (kit_ok (by decide) hT) (fun z => nomatch z) fin
          · cases e
            rename_i qs eg
            obtain rfl : v = .ref a := dv
            obtain ⟨vs, hv, _⟩ := rp a _ eg
            exact isinst_ok I r1 (.dK hv) (kit_ok (by decide) hT) fin
          · cases e
        · cases e
    · exact h.elim
  · exact h.elim
end
end L3
namespace PySem.SeqAt
open AutoSeq1 (wpAny_loadPart')
open MeetsSeq MeetsSeq2 MeetsSeq3 SeqRoads2
open Builtin Builtin.Range
end PySem.SeqAt
namespace L3
open PySem L2
noncomputable def inR2 (neg : Bool) : B2 := fun p q G Q => match p, q with
  | .int x, .ref a => match G a with
    | some (.rng lo hi) => Q (.bl (if neg then !decide (lo ≤ x ∧ x < hi) else decide (lo ≤ x ∧ x < hi))) G
    | _ => False
  | _, _ => False
section
variable {X : Cx}
end
section
variable {X : Cx} {tg a b c : Expr} {ta : A2} {p pos : Pos}
end
noncomputable abbrev neg2 : U2 := fun p G Q => match p with
  | .int i => Q (.int (-i)) G
  | _ => False
theorem u_neg {X : Cx} : UnR X (unaryOp .USub) (lowU X.K neg2) := by
  intro pins s σ H x v Q I rx h
  obtain ⟨p, G, Q2, d, rp, h, cl⟩ := h
  cases p with
  | int i =>
    obtain rfl : x = .int i := d
    exact un_neg pins s σ H _ v Q I rx ⟨i, rfl, cl _ _ _ _ h rfl rp .refl⟩
  | _ => exact False.elim h
end L3
namespace L3
open PySem L2
theorem zipS_item {prog : Program} {w : World} {A : Around} {E : Value → Shared → Prop} {s : Shared} {z TI TO i1 i2 : Addr} {k : Nat} {x y : Str} {t1 t2 : Tok} {c1 c2 : Nat} {a b : Value} {Q : Value → Shared → Prop}
    (d : [z, TI, TO, i1, i2].Nodup) (hz : IsZip s.heap z TI TO .none) (hTI : IsPair s.heap TI (.ref i1) (.ref i2)) (hTO : IsPair s.heap TO a b)
    (h1 : s.heap.IsStrIter i1 "str_ascii_iterator" x t1 k) (h2 : s.heap.IsStrIter i2 "str_ascii_iterator" y t2 k) (hx : x.cps[k]? = some c1) (hy : y.cps[k]? = some c2)
    (hQ : ∀ h' : Heap, IsZip h' z TI TO (rawInt ↑s.heap.objs.size) → (∃ a b, IsPair h' TO a b) → h'.IsStrIter i1 "str_ascii_iterator" x t1 (k + 1) → h'.IsStrIter i2 "str_ascii_iterator" y t2 (k + 1) →
      IsPair h' s.heap.objs.size (.str ⟨#[c1]⟩ s.toks) (.str ⟨#[c2]⟩ (s.toks + 1)) → h'.objs.size = s.heap.objs.size + 1 →
      (∀ c o, c ≠ z → c ≠ TO → c ≠ i1 → c ≠ i2 → s.heap.get? c = some o → h'.get? c = some o) → Q (.ref s.heap.objs.size) { s with heap := h', toks := s.toks + 2 }) :
    wpAny (model prog w) A (Builtin.«zip.__next__» { pos := [.ref z] }) (fun fin s' => ∃ v, fin = Fin.done (Flow.ret v) ∧ Q v s') E s := by
  simp only [List.nodup_cons, List.mem_cons, List.not_mem_nil, or_false, not_or] at d
  obtain ⟨⟨zTI, zTO, z1, z2⟩, ⟨TITO, TI1, TI2⟩, ⟨TO1, TO2⟩, i12, _⟩ := d
  refine wpAny_bind (show wpAny _ _ (pure (Value.ref z, ([] : List Value))) _ _ _ from wpAny_pure ?_)
  refine wpAny_bind (wpAny_field hz rfl rfl ?_)
  refine wpAny_bind (wpAny_field hz rfl rfl ?_)
  refine wpAny_bind (wpAny_seqItems hTI rfl ?_)
  refine wpAny_bind (wpAny_bind (wpAny_field hz rfl rfl (wpAny_pure ?_)))
  simp only [if_true]
  refine wpAny_bind (wpAny_rule (wpAny_bind (wpAny_field hz rfl rfl ?_)))
  refine wpAny_bind (wpAny_setField_rec hz (by simp) fun h₁ hz₁ hs₁ => ?_)
  have hz1 : IsZip h₁ z TI TO .ellipsis := hz₁
  refine wpAny_bind ?_
  simp only [List.zipIdx_cons, List.zipIdx_nil, List.forIn_cons, List.forIn_nil]
  refine wpAny_bind (wpAny_bind (wpAny_onRaise ?_))
  change wpAny _ _ (bind (Builtin.SmallTypes.nextOf (Value.ref i1)) fun x => pure (some x)) _ _ _
  refine wpAny_bind (wpAny_nextOf_ascii_item (h1.extBut hs₁.extBut (Ne.symm z1)) hx fun h₂ j2 sb2 => wpAny_pure ?_)
  have hTO2 : IsPair h₂ TO a b := sb2.extBut _ _ TO1 (hs₁.extBut _ _ (Ne.symm zTO) hTO)
  refine wpAny_bind (wpAny_seqItems hTO2 rfl (wpAny_bind (wpAny_updateSeq_pair hTO2 fun h₃ p3 sb3 => wpAny_bind (wpAny_letGo (wpAny_pure ?_)))))
  refine wpAny_bind (wpAny_bind (wpAny_onRaise ?_))
  change wpAny _ _ (bind (Builtin.SmallTypes.nextOf (Value.ref i2)) fun x => pure (some x)) _ _ _
  have k2 : h₃.IsStrIter i2 "str_ascii_iterator" y t2 k := ((h2.extBut hs₁.extBut (Ne.symm z2)).extBut sb2.extBut (Ne.symm i12)).extBut sb3.extBut (Ne.symm TO2)
  refine wpAny_bind (wpAny_nextOf_ascii_item k2 hy fun h₄ j4 sb4 => wpAny_pure ?_)
  have hTO4 : IsPair h₄ TO (.str ⟨#[c1]⟩ s.toks) b := sb4.extBut _ _ TO2 p3
  refine wpAny_bind (wpAny_seqItems hTO4 rfl (wpAny_bind (wpAny_updateSeq_pair hTO4 fun h₅ p5 sb5 => wpAny_bind (wpAny_letGo (wpAny_pure (wpAny_pure ?_))))))
  have hTO5 : IsPair h₅ TO (.str ⟨#[c1]⟩ s.toks) (.str ⟨#[c2]⟩ (s.toks + 1)) := p5
  refine wpAny_bind (wpAny_seqItems hTO5 rfl (wpAny_bind (wpAny_newTuple ?_)))
  have sz5 : h₅.objs.size = s.heap.objs.size := by rw [sb5.1, sb4.1, sb3.1, sb2.1, hs₁.1]
  have hz5 : IsZip h₅ z TI TO .ellipsis := sb5.extBut _ _ zTO (sb4.extBut _ _ z2 (sb3.extBut _ _ zTO (sb2.extBut _ _ z1 hz1)))
  rw [sz5]
  have zl : z < s.heap.objs.size := Heap.lt_size hz
  refine wpAny_bind (wpAny_bind (wpAny_setField_rec (s := { s with heap := h₅.push _, toks := s.toks + 2 }) (Heap.get?_push_of_some _ hz5) (by simp) fun h₆ hz6 sb6 => ?_))
  refine wpAny_setField_rec hz6 (by simp) fun h₇ hz7 sb7 => wpAny_pure ⟨_, rfl, ?_⟩
  have up : ∀ c o, c ≠ z → h₅.get? c = some o → h₇.get? c = some o := fun c o n e => sb7.extBut _ _ n (sb6.extBut _ _ n (Heap.get?_push_of_some _ e))
  have j1 : h₅.IsStrIter i1 "str_ascii_iterator" x t1 (k + 1) := ((j2.extBut sb3.extBut (Ne.symm TO1)).extBut sb4.extBut i12).extBut sb5.extBut (Ne.symm TO1)
  have j2' : h₅.IsStrIter i2 "str_ascii_iterator" y t2 (k + 1) := j4.extBut sb5.extBut (Ne.symm TO2)
  refine hQ h₇ hz7 ⟨_, _, up _ _ (Ne.symm zTO) hTO5⟩ (j1.extBut (fun c o n e => up c o n e) (Ne.symm z1)) (j2'.extBut (fun c o n e => up c o n e) (Ne.symm z2)) ?_ ?_ ?_
  · refine sb7.extBut _ _ (Nat.ne_of_gt zl) (sb6.extBut _ _ (Nat.ne_of_gt zl) ?_)
    rw [← sz5]
    exact Heap.get?_push_size _ rfl
  · rw [sb7.1, sb6.1, Heap.size_push, sz5]
  · intro c o n1 n2 n3 n4 e
    exact up c o n1 (sb5.extBut _ _ n2 (sb4.extBut _ _ n4 (sb3.extBut _ _ n2 (sb2.extBut _ _ n3 (hs₁.extBut _ _ n1 e)))))
theorem zipS_end {prog : Program} {w : World} {A : Around} {E : Value → Shared → Prop} {s : Shared} {z TI TO i1 i2 : Addr} {k : Nat} {x y : Str} {t1 t2 : Tok} {c1 : Nat} {a b : Value} {Q : Fin → Shared → Prop}
    (hh : A.handled = none) (d : [z, TI, TO, i1, i2].Nodup) (hz : IsZip s.heap z TI TO .none) (hTI : IsPair s.heap TI (.ref i1) (.ref i2)) (hTO : IsPair s.heap TO a b)
    (h1 : s.heap.IsStrIter i1 "str_ascii_iterator" x t1 k) (h2 : s.heap.IsStrIter i2 "str_ascii_iterator" y t2 k) (hx : x.cps[k]? = some c1) (hy : y.cps[k]? = none)
    (hE : ∀ (h' : Heap) (e : Addr), (∀ c o, c ≠ z → c ≠ TO → c ≠ i1 → c ≠ i2 → s.heap.get? c = some o → h'.get? c = some o) → (∃ o, h'.get? e = some o ∧ o.cls = .type "StopIteration") → E (.ref e) { s with heap := h', toks := s.toks + 1 }) :
    wpAny (model prog w) A (Builtin.«zip.__next__» { pos := [.ref z] }) Q E s := by
  simp only [List.nodup_cons, List.mem_cons, List.not_mem_nil, or_false, not_or] at d
  obtain ⟨⟨zTI, zTO, z1, z2⟩, ⟨TITO, TI1, TI2⟩, ⟨TO1, TO2⟩, i12, _⟩ := d
  refine wpAny_bind (show wpAny _ _ (pure (Value.ref z, ([] : List Value))) _ _ _ from wpAny_pure ?_)
  refine wpAny_bind (wpAny_field hz rfl rfl ?_)
  refine wpAny_bind (wpAny_field hz rfl rfl ?_)
  refine wpAny_bind (wpAny_seqItems hTI rfl ?_)
  refine wpAny_bind (wpAny_bind (wpAny_field hz rfl rfl (wpAny_pure ?_)))
  simp only [if_true]
  refine wpAny_bind (wpAny_rule (wpAny_bind (wpAny_field hz rfl rfl ?_)))
  refine wpAny_bind (wpAny_setField_rec hz (by simp) fun h₁ hz₁ hs₁ => ?_)
  have hz1 : IsZip h₁ z TI TO .ellipsis := hz₁
  refine wpAny_bind ?_
  simp only [List.zipIdx_cons, List.zipIdx_nil, List.forIn_cons, List.forIn_nil]
  refine wpAny_bind (wpAny_bind (wpAny_onRaise ?_))
  change wpAny _ _ (bind (Builtin.SmallTypes.nextOf (Value.ref i1)) fun x => pure (some x)) _ _ _
  refine wpAny_bind (wpAny_nextOf_ascii_item (h1.extBut hs₁.extBut (Ne.symm z1)) hx fun h₂ j2 sb2 => wpAny_pure ?_)
  have hTO2 : IsPair h₂ TO a b := sb2.extBut _ _ TO1 (hs₁.extBut _ _ (Ne.symm zTO) hTO)
  refine wpAny_bind (wpAny_seqItems hTO2 rfl (wpAny_bind (wpAny_updateSeq_pair hTO2 fun h₃ p3 sb3 => wpAny_bind (wpAny_letGo (wpAny_pure ?_)))))
  refine wpAny_bind (wpAny_bind (wpAny_onRaise ?_))
  change wpAny _ _ (bind (Builtin.SmallTypes.nextOf (Value.ref i2)) fun x => pure (some x)) _ _ _
  have k2 : h₃.IsStrIter i2 "str_ascii_iterator" y t2 k := ((h2.extBut hs₁.extBut (Ne.symm z2)).extBut sb2.extBut (Ne.symm i12)).extBut sb3.extBut (Ne.symm TO2)
  refine wpAny_bind (wpAny_nextOf_ascii_end hh k2 hy fun h₄ e sb4 he => ?_)
  have hz4 : IsZip h₄ z TI TO .ellipsis := sb4 _ _ z2 (sb3.extBut _ _ zTO (sb2.extBut _ _ z1 hz1))
  obtain ⟨o, ho, hc⟩ := he
  refine wpAny_setField_rec hz4 (by simp) fun h₅ hz5 sb5 => hE h₅ e (fun c u n1 n2 n3 n4 q => ?_) ⟨o, sb5.extBut _ _ (fun q => ?_) ho, hc⟩
  · exact sb5.extBut _ _ n1 (sb4 _ _ n4 (sb3.extBut _ _ n2 (sb2.extBut _ _ n3 (hs₁.extBut _ _ n1 q))))
  · subst q
    rw [show h₄.get? e = _ from hz4] at ho
    cases ho
    exact absurd (Value.type.inj hc) (by decide)
theorem nextZipS_item {prog : Program} {w : World} {A : Around} {E : Value → Shared → Prop} {s : Shared} {z TI TO i1 i2 : Addr} {k : Nat} {x y : Str} {t1 t2 : Tok} {c1 c2 : Nat} {a b : Value} {Q : Option Value → Shared → Prop}
    (d : [z, TI, TO, i1, i2].Nodup) (hz : IsZip s.heap z TI TO .none) (hTI : IsPair s.heap TI (.ref i1) (.ref i2)) (hTO : IsPair s.heap TO a b)
    (h1 : s.heap.IsStrIter i1 "str_ascii_iterator" x t1 k) (h2 : s.heap.IsStrIter i2 "str_ascii_iterator" y t2 k) (hx : x.cps[k]? = some c1) (hy : y.cps[k]? = some c2)
    (hQ : ∀ h' : Heap, IsZip h' z TI TO (rawInt ↑s.heap.objs.size) → (∃ a b, IsPair h' TO a b) → h'.IsStrIter i1 "str_ascii_iterator" x t1 (k + 1) → h'.IsStrIter i2 "str_ascii_iterator" y t2 (k + 1) →
      IsPair h' s.heap.objs.size (.str ⟨#[c1]⟩ s.toks) (.str ⟨#[c2]⟩ (s.toks + 1)) → h'.objs.size = s.heap.objs.size + 1 →
      (∀ c o, c ≠ z → c ≠ TO → c ≠ i1 → c ≠ i2 → s.heap.get? c = some o → h'.get? c = some o) → Q (some (.ref s.heap.objs.size)) { s with heap := h', toks := s.toks + 2 }) :
    wpAny (model prog w) A (pyNext (.ref z)) Q E s := by
  have hT : s.TypeIs (.ref z) "zip" := ⟨_, hz, rfl⟩
  exact wpAny_bind (wpAny_attempt (wpAny_callSpecial?_slot hT F.slot_zip_next (wpAny_call_entry F.slot_zip_next hT F.entry_zip_next
    (zipS_item d hz hTI hTO h1 h2 hx hy fun h' a1 a2 a3 a4 a5 a6 a7 => wpAny_pure (hQ h' a1 a2 a3 a4 a5 a6 a7)) (F.args_zip_next_1 (Value.ref z)))))
theorem nextZipS_end {prog : Program} {w : World} {A : Around} {E : Value → Shared → Prop} {s : Shared} {z TI TO i1 i2 : Addr} {k : Nat} {x y : Str} {t1 t2 : Tok} {c1 : Nat} {a b : Value} {Q : Option Value → Shared → Prop}
    (hh : A.handled = none) (d : [z, TI, TO, i1, i2].Nodup) (hz : IsZip s.heap z TI TO .none) (hTI : IsPair s.heap TI (.ref i1) (.ref i2)) (hTO : IsPair s.heap TO a b)
    (h1 : s.heap.IsStrIter i1 "str_ascii_iterator" x t1 k) (h2 : s.heap.IsStrIter i2 "str_ascii_iterator" y t2 k) (hx : x.cps[k]? = some c1) (hy : y.cps[k]? = none)
    (hQ : ∀ h' : Heap, (∀ c o, c ≠ z → c ≠ TO → c ≠ i1 → c ≠ i2 → s.heap.get? c = some o → h'.get? c = some o) → Q none { s with heap := h', toks := s.toks + 1 }) :
    wpAny (model prog w) A (pyNext (.ref z)) Q E s := by
  have hT : s.TypeIs (.ref z) "zip" := ⟨_, hz, rfl⟩
  exact wpAny_bind (wpAny_attempt (wpAny_callSpecial?_slot hT F.slot_zip_next (wpAny_call_entry F.slot_zip_next hT F.entry_zip_next
    (zipS_end hh d hz hTI hTO h1 h2 hx hy fun h' e hk ⟨o, ho, hc⟩ => wpAny_bind (wpAny_isInstance ⟨o, ho, hc⟩ isSubtype_stop (wpAny_pure (hQ h' hk)))) (F.args_zip_next_1 (Value.ref z)))))
end L3
namespace L3
open PySem L2
theorem newRec {M : Model} {A : Around} {E : Value → Shared → Prop} {s : Shared} {T : String} {vs : List Value} {Q : Value → Shared → Prop} (h : Q (.ref s.heap.objs.size) { s with heap := s.heap.push { cls := .type T, dict := none, data := .fields vs.toArray } }) (hs : sizeOk (.fields vs.toArray)) :
    wpAny M A (Builtin.SmallTypes.newRecord (.type T) vs) Q E s := by
  show wpAny M A (newObj (.type T) (.fields vs.toArray)) Q E s
  exact wpAny_newObj_type h hs
end L3
namespace L3
open PySem L2
noncomputable def Itz (x y : Str) : It :=
  ⟨fun i _ => i < y.cps.size, fun i H v H' => ∃ p c d, H p = none ∧ v = .ref p ∧ x.cps[i]? = some c ∧ y.cps[i]? = some d ∧ H' = upd H p (.tup [.str ⟨#[c]⟩, .str ⟨#[d]⟩]), fun i _ => i = y.cps.size⟩
theorem turn_zipS {P : Program} {w : World} {K : PySem.W.Frag} {elts : List Expr} {x1 : Nat} {pos : Pos} {x y : Str} {t1 t2 : Tok} {z TI TO i1 i2 : Addr} (d : [z, TI, TO, i1, i2].Nodup) (hlt : y.cps.size < x.cps.size) :
    Turn P w K (.Tuple elts x1 pos) (Itz x y) [z, TI, TO, i1, i2] z (fun i h => IsZip h z TI TO .none ∧ IsPair h TI (.ref i1) (.ref i2) ∧ (∃ a b, IsPair h TO a b) ∧ h.IsStrIter i1 "str_ascii_iterator" x t1 i ∧ h.IsStrIter i2 "str_ascii_iterator" y t2 i) where
  mem := by simp
  obj := fun i h st b hb => by
    obtain ⟨hz, hTI, ⟨a, c, hTO⟩, ⟨o1, e1, _, d1⟩, ⟨o2, e2, _, d2⟩⟩ := st
    have hb' : b = z ∨ b = TI ∨ b = TO ∨ b = i1 ∨ b = i2 := by simpa using hb
    rcases hb' with rfl | rfl | rfl | rfl | rfl
    · exact ⟨_, hz, fun v q => by cases (show Data.fields _ = Data.cell v from q)⟩
    · exact ⟨_, hTI, fun v q => by cases (show Data.seq _ _ = Data.cell v from q)⟩
    · exact ⟨_, hTO, fun v q => by cases (show Data.seq _ _ = Data.cell v from q)⟩
    · exact ⟨o1, e1, fun v q => by rw [d1] at q; cases q⟩
    · exact ⟨o2, e2, fun v q => by rw [d2] at q; cases q⟩
  keep := fun i h h' st k => by
    obtain ⟨hz, hTI, ⟨a, c, hTO⟩, ⟨o1, e1, c1, d1⟩, ⟨o2, e2, c2, d2⟩⟩ := st
    exact ⟨k z (by simp) _ hz, k TI (by simp) _ hTI, ⟨a, c, k TO (by simp) _ hTO⟩, ⟨o1, k i1 (by simp) o1 e1, c1, d1⟩, ⟨o2, k i2 (by simp) o2 e2, c2, d2⟩⟩
  item := by
    intro X hP hw hK hc i pins s σ H E I hf st hg
    subst hP hw hK
    obtain ⟨hz, hTI, ⟨a, b, hTO⟩, h1, h2⟩ := st
    have hi : i < y.cps.size := hg
    have hix : i < x.cps.size := Nat.lt_trans hi hlt
    have lts : ∀ b ∈ [z, TI, TO, i1, i2], b < s.heap.objs.size := fun b hb => by
      have hb' : b = z ∨ b = TI ∨ b = TO ∨ b = i1 ∨ b = i2 := by simpa using hb
      rcases hb' with rfl | rfl | rfl | rfl | rfl
      · exact Heap.lt_size hz
      · exact Heap.lt_size hTI
      · exact Heap.lt_size hTO
      · obtain ⟨o, e, _⟩ := h1; exact Heap.lt_size e
      · obtain ⟨o, e, _⟩ := h2; exact Heap.lt_size e
    refine nextZipS_item d hz hTI hTO h1 h2 (c1 := x.cps[i]) (c2 := y.cps[i]) (by simp [hix]) (by simp [hi]) fun g1 gz gTO gi1 gi2 gT gsz gk => ?_
    refine ⟨_, rfl, wpAny_letOwnedTupleGo_zip gz fun g2 hz2 hs2 => ?_⟩
    replace hs2 : Heap.SameBut z g1 g2 := hs2
    have hpn : H s.heap.objs.size = none := I.hok.fresh (Nat.le_refl _)
    have k2 : ∀ b o, b ∉ [z, TI, TO, i1, i2] → s.heap.get? b = some o → g2.get? b = some o := fun b o n q => by
      simp only [List.mem_cons, List.not_mem_nil, or_false, not_or] at n
      exact hs2.extBut b o n.1 (gk b o n.1 n.2.2.1 n.2.2.2.1 n.2.2.2.2 q)
    have hTI2 : IsPair g2 TI (.ref i1) (.ref i2) := by
      simp only [List.nodup_cons, List.mem_cons, List.not_mem_nil, or_false, not_or] at d
      exact hs2.extBut _ _ (Ne.symm d.1.1) (gk _ _ (Ne.symm d.1.1) d.2.1.1 d.2.1.2.1 d.2.1.2.2 hTI)
    have ht2 : g2.get? s.heap.objs.size = some { cls := .type "tuple", data := .seq #[.str ⟨#[x.cps[i]]⟩ s.toks, .str ⟨#[y.cps[i]]⟩ (s.toks + 1)] } := hs2.extBut _ _ (Nat.ne_of_gt (lts z (by simp))) gT
    have ne1 : ∀ b o, H b = some o → b ∉ [z, TI, TO, i1, i2] := fun b o q hb => by rw [(hf b hb).1] at q; cases q
    have lt : ∀ b o, s.heap.get? b = some o → b ≠ s.heap.objs.size := fun b o q => Nat.ne_of_lt (Heap.lt_size q)
    have hok : HOk X.prog X.w (upd H s.heap.objs.size (.tup [.str ⟨#[x.cps[i]]⟩, .str ⟨#[y.cps[i]]⟩])) g2 := fun b o q => by
      by_cases hb : b = s.heap.objs.size
      · subst hb
        rw [upd_same] at q
        cases q
        refine ⟨(by show 2 ≤ sizeLine; decide), [.str ⟨#[x.cps[i]]⟩ s.toks, .str ⟨#[y.cps[i]]⟩ (s.toks + 1)], .cons ⟨_, rfl⟩ (.cons ⟨_, rfl⟩ .nil), ⟨_, ht2, rfl, _, rfl⟩⟩
      · rw [upd_ne hb] at q
        refine (I.hok b o q).stay (fun c v hc' z => ?_) (fun c z => by rw [upd_ne (ne_of_none z hpn)]; exact z) fun c xs z => by rw [upd_ne (ne_of_none z hpn)]; exact z
        refine k2 c v ?_ z
        rcases hc' with rfl | hc'
        · exact ne1 _ _ q
        · exact ne1 _ _ hc'
    have un : Un (frs X.stack) [z, TI, TO, i1, i2] H (upd H s.heap.objs.size (.tup [.str ⟨#[x.cps[i]]⟩, .str ⟨#[y.cps[i]]⟩])) s.heap g2 := by
      refine ⟨fun b o q _ _ hb => k2 b o hb q, fun b o q _ _ hb => ⟨o.slots, k2 b o hb q⟩, fun b o q n _ => by rw [upd_ne (lt b o q)]; exact n,
        fun b o q hb => ⟨o, k2 b o hb q⟩, fun b xs q => by rw [upd_ne (ne_of_none q hpn)]; exact q, fun b o xs q => by rw [upd_ne (ne_of_none q hpn)]; exact q, fun b ps q => ⟨#[], by rw [upd_ne (ne_of_none q hpn), q]; simp⟩⟩
    have I2 : Inv X pins σ (upd H s.heap.objs.size (.tup [.str ⟨#[x.cps[i]]⟩, .str ⟨#[y.cps[i]]⟩])) { s with heap := g2, toks := s.toks + 2 } := I.call' (s' := { s with heap := g2, toks := s.toks + 2 }) rfl un hok I.bare fun b hb => by
      have q := hf b hb
      exact ⟨q.2.2.2.1, q.2.1, q.2.2.2.2.1, q.2.2.2.2.2⟩
    obtain ⟨a', b', gTO⟩ := gTO
    have d' := d
    simp only [List.nodup_cons, List.mem_cons, List.not_mem_nil, or_false, not_or] at d'
    refine ⟨.ref s.heap.objs.size, _, I2, rfl, ⟨s.heap.objs.size, x.cps[i], y.cps[i], hpn, rfl, by simp [hix], by simp [hi], rfl⟩, ⟨hz2, hTI2, ⟨_, _, hs2.extBut _ _ (Ne.symm d'.1.2.1) gTO⟩, gi1.extBut hs2.extBut (Ne.symm d'.1.2.2.1), gi2.extBut hs2.extBut (Ne.symm d'.1.2.2.2)⟩, fun b hb => ?_⟩
    rw [upd_ne (Nat.ne_of_lt (lts b hb))]
    exact (hf b hb).1
  done := by
    intro X hP hw hK hc i pins s σ H E I hf st hg
    subst hP hw hK
    obtain ⟨hz, hTI, ⟨a, b, hTO⟩, h1, h2⟩ := st
    have hi : i = y.cps.size := hg
    have hix : i < x.cps.size := by omega
    refine nextZipS_end (I.ok.hd hc) d hz hTI hTO h1 h2 (c1 := x.cps[i]) (by simp [hix]) (by simp [hi]) fun g2 gk => ⟨rfl, ?_⟩
    have k2 : ∀ b o, b ∉ [z, TI, TO, i1, i2] → s.heap.get? b = some o → g2.get? b = some o := fun b o n q => by
      simp only [List.mem_cons, List.not_mem_nil, or_false, not_or] at n
      exact gk b o n.1 n.2.2.1 n.2.2.2.1 n.2.2.2.2 q
    have ne1 : ∀ b o, H b = some o → b ∉ [z, TI, TO, i1, i2] := fun b o q hb => by rw [(hf b hb).1] at q; cases q
    have hok : HOk X.prog X.w H g2 := fun b o q => by
      refine (I.hok b o q).stay (fun c v hc' z => ?_) (fun c z => z) fun c xs z => z
      refine k2 c v ?_ z
      rcases hc' with rfl | hc'
      · exact ne1 _ _ q
      · exact ne1 _ _ hc'
    have un : Un (frs X.stack) [z, TI, TO, i1, i2] H H s.heap g2 := by
      refine ⟨fun b o q _ _ hb => k2 b o hb q, fun b o q _ _ hb => ⟨o.slots, k2 b o hb q⟩, fun b o q n _ => n,
        fun b o q hb => ⟨o, k2 b o hb q⟩, fun b xs q => q, fun b o xs q => q, fun b ps q => ⟨#[], by rw [q]; simp⟩⟩
    exact I.call' (s' := { s with heap := g2, toks := s.toks + 1 }) rfl un hok I.bare fun b hb => by
      have q := hf b hb
      exact ⟨q.2.2.2.1, q.2.1, q.2.2.2.2.1, q.2.2.2.2.2⟩
  self := fun _ _ _ _ _ st h => wpAny_pyIter_zip st.1 h
theorem nd5 (n : Nat) : [n + 4, n + 2, n + 3, n, n + 1].Nodup := by
  simp only [List.nodup_cons, List.mem_cons, List.not_mem_nil, or_false, not_or, not_false_eq_true, List.nodup_nil, and_true]
  omega
end L3
namespace L2
open PySem PySem.Spec PyProof.Rows
noncomputable abbrev tT2 (x y : Str) (px py : Pos) (kt : Nat) (pt : Pos) : Expr := .Tuple [.Name x px, .Name y py] kt pt
structure CompTwo (scope : Scope) (M : List Str) (ix : List (Option Nat)) (j2 : Nat) (y : Str) : Prop where
  tgt : M[j2]? = some y
  loc : scope.names.lookup y = some .local
  own : ix[j2]? = some none
theorem set_weak2 {c : St} {j j2 : Nat} {v u : V} (h : c[j]? = some none) (h2 : c[j2]? = some none) : ∀ (i : Nat) (z : V), c[i]? = some (some z) → ((c.set j (some v)).set j2 (some u))[i]? = some (some z) := fun i z e => by
  have n1 : j ≠ i := fun q => by subst q; rw [h] at e; cases e
  have n2 : j2 ≠ i := fun q => by subst q; rw [h2] at e; cases e
  rw [List.getElem?_set_ne n2, List.getElem?_set_ne n1]; exact e
noncomputable def CompGo2 (K : PySem.W.Frag) (J : It) (ix : List (Option Nat)) (j j2 : Nat) (σ : St) (tf : TT) (te : TE) (Q : VK) (H1 : Hp) (acc : Addr) : Prop := ∃ W : Nat → Nat → Hp → Prop, (∃ m, W 0 m (upd H1 acc (.lst []))) ∧ ∀ i m H', W i m H' →
  (J.stop i H' ∧ Q (.ref acc) H') ∨ (J.go i H' ∧ ∀ x H2, J.yld i H' x H2 → ∃ a u1 u2, x = .ref a ∧ SqT K H2 a [u1, u2] ∧ tf (((cap ix σ).set j (some u1)).set j2 (some u2)) H2 fun b H3 =>
    if b = true then te (((cap ix σ).set j (some u1)).set j2 (some u2)) H3 fun y H4 => ∃ ys, H4 acc = some (.lst ys) ∧ ys.length < sizeLine ∧ ∃ m', m' < m ∧ W (i + 1) m' (upd H4 acc (.lst (ys ++ [y])))
    else ∃ m', m' < m ∧ W (i + 1) m' H3)
noncomputable def tComp2 (K : PySem.W.Frag) (wi : TI) (ix : List (Option Nat)) (j j2 : Nat) (tf : TT) (te : TE) : TE := fun σ H Q => wi σ H fun J H1 => ∀ acc, H1 acc = none → CompGo2 K J ix j j2 σ tf te Q H1 acc
section
variable {X : Cx} {scope : Scope} {M : List Str} {ix : List (Option Nat)} {j : Nat} {x : Str}
theorem comp_block2 {elt iter : Expr} {px py pt : Pos} {kt j2 : Nat} {y : Str} {ifs : List Expr} {pos : Pos} {tf : TT} {te : TE} {pins : List (Addr × Obj)} {σ : St} {H : Hp} {s : Shared} {fp : List Addr} {it : Addr} {tn : Nat → Heap → Prop} {J : It} {h1 : Heap} {tk : Nat} {Q : VK} {R : Result → Shared → Prop}
    (S : CompScope X.env.scope X.N scope M ix j x) (S2 : CompTwo scope M ix j2 y) (hc : X.calm = true) (I : Inv X pins σ H s)
    (hF : PF (cxComp X M scope (s.heap.objs.size + 1) s H fp) ifs tf) (hE : PE (cxComp X M scope (s.heap.objs.size + 1) s H fp) elt te)
    (T : Turn X.prog X.w X.K (tT2 x y px py kt pt) J fp it tn) (st : tn 0 s.heap) (hf : ∀ b ∈ fp, FpOk X pins H b)
    (I0 : Inv (cxComp X M scope (s.heap.objs.size + 1) s H fp) [] (cap ix σ) (upd H s.heap.objs.size (.lst [])) { s with heap := h1, toks := tk }) (old : ∀ b o, s.heap.get? b = some o → h1.get? b = some o)
    (q : CompGo2 X.K J ix j j2 σ tf te Q H s.heap.objs.size)
    (hR : ∀ H' s', Inv (cxComp X M scope (s.heap.objs.size + 1) s H fp) [] (cap ix σ) H' s' → Q (.ref s.heap.objs.size) H' → R (.ok .next) s') :
    codeAny (model X.prog X.w) X.A (.compLoop (.ListComp elt [⟨tT2 x y px py kt pt, iter, ifs, 0⟩] scope pos) 0 (.ref it) (.ref s.heap.objs.size) (compEnvC scope (clOf X.env.cells scope.names []) (s.heap.objs.size + 1) X.env)) R { s with heap := h1, toks := tk } := by
  obtain ⟨W, ⟨m0, w0⟩, turn⟩ := q
  have hD : s.heap.objs.size ∉ fp := fun z => by
    obtain ⟨o, e, _⟩ := T.obj 0 s.heap st _ z
    exact absurd (Heap.lt_size e) (Nat.lt_irrefl _)
  have hlt : ∀ b ∈ fp, b < s.heap.objs.size := fun b hb => by
    obtain ⟨o, e, _⟩ := T.obj 0 s.heap st b hb
    exact Heap.lt_size e
  have stat : ∀ {H' : Hp}, (∀ b ∈ fp, H' b = none) → ∀ b ∈ fp, FpOk (cxComp X M scope (s.heap.objs.size + 1) s H fp) [] H' b := fun hn b hb =>
    ⟨hn b hb, Nat.ne_of_lt (Nat.lt_succ_of_lt (hlt b hb)), I0.ok.exfs b hb, .inl hb, (I0.ok.exf b hb).2, fun p hp => absurd (show p ∈ ([] : List (Addr × Obj)) from hp) (by simp)⟩
  have own := cap_own S.own σ
  have own2 := cap_own S2.own σ
  refine compLoop_own rfl (fun n s' => ∃ i H', Inv (cxComp X M scope (s.heap.objs.size + 1) s H fp) [] (cap ix σ) H' s' ∧ tn i s'.heap ∧ (∀ b ∈ fp, H' b = none) ∧ W i n H') ?_ m0
    ⟨0, _, I0, T.keep 0 _ _ st fun b _ o e => old b o e, fun b hb => by rw [upd_ne (Nat.ne_of_lt (hlt b hb))]; exact (hf b hb).1, w0⟩
  rintro n s3 ⟨i, H3, I3, st3, fr3, w3⟩
  rcases turn i n H3 w3 with ⟨stop, qn⟩ | ⟨go, step⟩
  · refine wpAny_mono (T.done (cxComp X M scope (s.heap.objs.size + 1) s H fp) rfl rfl rfl hc i [] s3 (cap ix σ) H3 (fun _ _ => False) I3 (stat fr3) st3 stop) (fun r s4 ⟨hr, I4⟩ => ?_) (fun _ _ z => z.elim)
    subst hr
    exact hR H3 s4 I4 qn
  · refine wpAny_mono (T.item (cxComp X M scope (s.heap.objs.size + 1) s H fp) rfl rfl rfl hc i [] s3 (cap ix σ) H3 (fun _ _ => False) I3 (stat fr3) st3 go) (fun r s4 ⟨u, hr, h4⟩ => ?_) (fun _ _ z => z.elim)
    subst hr
    refine wpAny_mono h4 (fun _ s5 ⟨yv, H5, I5, r5, y5, st5, fr5⟩ => ?_) (fun _ _ z => z.elim)
    have I5' := I5.pinned (stat fr5) (T.obj _ _ st5)
    have pg : PG (cxComp X M scope (s.heap.objs.size + 1) s H fp) (tT2 x y px py kt pt) (gTup X.K 2 (gCons (gName j) (gCons (gName j2) gNil))) :=
      pg_tup hc (pgs_cons (pg_name S.nd S.tgt (.inl (by show (relabel scope X.env).names.lookup x = some .local; exact lookup_relabel_local S.loc)) (.inr (by show (relabel scope X.env).names.lookup x = some .local; exact lookup_relabel_local S.loc)))
        (pgs_cons (pg_name S.nd S2.tgt (.inl (by show (relabel scope X.env).names.lookup y = some .local; exact lookup_relabel_local S2.loc)) (.inr (by show (relabel scope X.env).names.lookup y = some .local; exact lookup_relabel_local S2.loc))) pgs_nil))
    obtain ⟨ta, u1, u2, et, sq, step⟩ := step yv _ y5
    refine wpAny_mono (pg _ s5 (cap ix σ) H5 yv u (fun σ2 H2 => σ2 = ((cap ix σ).set j (some u1)).set j2 (some u2) ∧ H2 = H5) I5' r5 ⟨ta, [u1, u2], et, sq, rfl, u1, [u2], rfl, u2, [], rfl, rfl, rfl, rfl⟩) (fun _ s6 ⟨σ6, H6, I6, e6, eh6⟩ => ?_) (fun _ _ z => z.elim)
    subst e6; subst eh6
    have again : ∀ {H7 : Hp} {s7 : Shared}, Inv (cxComp X M scope (s.heap.objs.size + 1) s H fp) ([] ++ pinsAt fp s5.heap) (((cap ix σ).set j (some u1)).set j2 (some u2)) H7 s7 → (∃ m', m' < n ∧ W (i + 1) m' H7) →
        ∃ m, m < n ∧ ∃ i H', Inv (cxComp X M scope (s.heap.objs.size + 1) s H fp) [] (cap ix σ) H' s7 ∧ tn i s7.heap ∧ (∀ b ∈ fp, H' b = none) ∧ W i m H' := fun {H7 s7} I7 ⟨m', hm, w7⟩ => by
      have Iw : Inv (cxComp X M scope (s.heap.objs.size + 1) s H fp) [] (cap ix σ) H7 s7 := (Inv.unpinned (pins := []) I7).weak (by simp) (set_weak2 own own2)
      refine ⟨m', hm, i + 1, H7, Iw, T.keep _ _ _ st5 fun b hb o e => (I7.pin (b, o) (List.mem_append_right _ (List.mem_append_right _ (mem_pinsAt hb e)))).1, fun b hb => ?_, w7⟩
      obtain ⟨o, e, d⟩ := T.obj _ _ st5 b hb
      exact (I7.pin (b, o) (List.mem_append_right _ (List.mem_append_right _ (mem_pinsAt hb e)))).2.1
    refine wpAny_mono (hF _ s6 _ _ _ I6 step) (fun b s7 ⟨H7, I7, q7⟩ => ?_) (fun _ _ z => z.elim)
    cases b with
    | false =>
      simp only [Bool.false_eq_true, if_false] at q7 ⊢
      exact again I7 q7
    | true =>
      simp only [if_true] at q7 ⊢
      refine wpAny_mono (hE _ s7 _ H7 _ I7 q7) (fun v s8 ⟨z, H8, I8, r8, ys, hy, hz, q8⟩ => ?_) (fun _ _ z => z.elim)
      refine wpAny_mono (mt_append (X := cxComp X M scope (s.heap.objs.size + 1) s H fp) _ s8 _ H8 (.ref s.heap.objs.size) [z] (.ref s.heap.objs.size) [v] (fun _ H' => H' = upd H8 s.heap.objs.size (.lst (ys ++ [z]))) I8 rfl (.cons r8 .nil) ⟨s.heap.objs.size, ys, z, rfl, rfl, hy, hz, rfl⟩) (fun w s9 ⟨_, H9, I9, _, e9⟩ => ?_) (fun _ _ z => z.elim)
      subst e9
      exact again I9 q8
theorem pe_comp2 {elt iter : Expr} {px py pt : Pos} {kt j2 : Nat} {y : Str} {ifs : List Expr} {pos : Pos} {wi : TI} {tf : TT} {te : TE} (S : CompScope X.env.scope X.N scope M ix j x) (S2 : CompTwo scope M ix j2 y) (hc : X.calm = true) (hi : PI X (tT2 x y px py kt pt) iter wi)
    (hb : ∀ C s H fp, PF (cxComp X M scope C s H fp) ifs tf ∧ PE (cxComp X M scope C s H fp) elt te) (hs : ∀ x, foldedSetIterable iter X.env x = pure x := by intro _; rfl) :
    PE X (.ListComp elt [⟨tT2 x y px py kt pt, iter, ifs, 0⟩] scope pos) (tComp2 X.K wi ix j j2 tf te) := by
  intro pins s σ H Q I h
  rw [eval_ListComp]
  refine wpAny_comprehension_free (use := none) rfl hs (closureFor_cl fun y hy e => I.ok.has y.1 (S.free y hy e)) S.kind S.names (wpAny_mono (hi pins s σ H _ I h) (fun xv s₁ h₁ => wpAny_mono h₁ (fun it s₂ h₂ => ?_) fun _ _ e => e) fun _ _ e => e)
  obtain ⟨it, fp, tn, J, H2, rfl, I2, T, st2, f2, q⟩ := h₂
  refine wpAny_newObj_type (wpAny_newFunctionEnv S.nocell (by intro y hy; simp at hy) (fun h₁ hns₁ hsb₁ => ?_) S.kind)
  dsimp only at hns₁ hsb₁ ⊢
  have hC : (s₂.heap.push { cls := .type "list", dict := none, data := .seq ([] : List Value).toArray }).objs.size = s₂.heap.objs.size + 1 := Heap.size_push ..
  rw [hC] at hns₁ hsb₁ ⊢
  have below : ∀ b, b < s₂.heap.objs.size → b ≠ s₂.heap.objs.size + 1 := fun b hb => Nat.ne_of_lt (Nat.lt_succ_of_lt hb)
  have old : ∀ b o, s₂.heap.get? b = some o → h₁.get? b = some o := fun b o e => hsb₁.extBut b o (below b (Heap.lt_size e)) (Heap.get?_push_of_some _ (Heap.get?_push_of_some _ e))
  have hD : h₁.get? s₂.heap.objs.size = some { cls := .type "list", data := .seq ([] : List Value).toArray 0 } := hsb₁.extBut _ _ (Nat.ne_of_lt (Nat.lt_succ_self _)) (Heap.get?_push_of_some _ (Heap.get?_push_size _ rfl))
  have ns : h₁.Ns (s₂.heap.objs.size + 1) fun _ => none := hns₁
  have hft : ∀ b ∈ fp, b < s₂.heap.objs.size := fun b hb => by
    obtain ⟨o, e, _⟩ := T.obj 0 s₂.heap st2 b hb
    exact Heap.lt_size e
  have I0 := (comp_start (h1 := h₁) S I2 f2 hft old hD ns).tok s₂.toks
  have hfr : H2 s₂.heap.objs.size = none := I2.hok.fresh (Nat.le_refl _)
  have loop : codeAny (model X.prog X.w) X.A (.compLoop (.ListComp elt [⟨tT2 x y px py kt pt, iter, ifs, 0⟩] scope pos) 0 (.ref it) (.ref s₂.heap.objs.size) (compEnvC scope (clOf X.env.cells scope.names []) (s₂.heap.objs.size + 1) X.env))
      (compPost (model X.prog X.w) X.A X.xe none (EP X pins σ Q) (.ref s₂.heap.objs.size) (s₂.heap.objs.size + 1)) { s₂ with heap := h₁, toks := s₂.toks } := by
    refine comp_block2 (Q := Q) S S2 hc I2 (hb _ _ _ _).1 (hb _ _ _ _).2 T st2 f2 I0 old (q _ hfr) fun H' s' I' qq => ?_
    obtain ⟨m, hn, _⟩ := I'.loc
    exact ⟨m, hn, fun h' hb' => ⟨.ref s₂.heap.objs.size, H', comp_end I2 (Nat.le_succ _) f2 I' hb', rfl, qq⟩⟩
  exact codeAny_compStart_list loop (T.self _ 0 _ _ _ (T.keep 0 _ _ st2 fun b _ o e => old b o e) loop)
end
end L2
namespace L3
open PySem L2
theorem u200 {k : Nat} {A : Around} (r : Room k A) : A.units + 200 < cLine := by have := r.un; omega
theorem ex2 {α : Type} {P Q : α → Prop} {t : α} (a : P t) (b : Q t) : ∃ t, P t ∧ Q t := ⟨t, a, b⟩
theorem boot_isinst : bootBuiltins "isinstance" = some (.builtin "isinstance") := by decide +kernel
theorem boot_int : bootBuiltins "int" = some (.type "int") := by decide +kernel
theorem boot_bool : bootBuiltins "bool" = some (.type "bool") := by decide +kernel
theorem boot_str : bootBuiltins "str" = some (.type "str") := by decide +kernel
theorem boot_tuple : bootBuiltins "tuple" = some (.type "tuple") := by decide +kernel
theorem boot_list : bootBuiltins "list" = some (.type "list") := by decide +kernel
theorem boot_rangeT : bootBuiltins "range" = some (.type "range") := by decide +kernel
theorem boot_all : bootBuiltins "all" = some (.builtin "all") := by decide +kernel
theorem boot_max : bootBuiltins "max" = some (.builtin "max") := by decide +kernel
theorem boot_sum : bootBuiltins "sum" = some (.builtin "sum") := by decide +kernel
theorem boot_sorted : bootBuiltins "sorted" = some (.builtin "sorted") := by decide +kernel
noncomputable def bnames : List Str := ["isinstance", "int", "bool", "str", "tuple", "list", "range", "all", "any", "max", "sum", "sorted", "len", "enumerate", "min", "zip", "set", "dict"]
noncomputable def BN (mg : Str → Option Value) : Prop := ∀ x : Str, bnames.contains x = true → mg x = none
theorem BN.len {mg : Str → Option Value} (h : BN mg) : mg "len" = none := h _ (by decide +kernel)
theorem BN.isinstance {mg : Str → Option Value} (h : BN mg) : mg "isinstance" = none := h _ (by decide +kernel)
theorem BN.int {mg : Str → Option Value} (h : BN mg) : mg "int" = none := h _ (by decide +kernel)
theorem BN.bool {mg : Str → Option Value} (h : BN mg) : mg "bool" = none := h _ (by decide +kernel)
theorem BN.str {mg : Str → Option Value} (h : BN mg) : mg "str" = none := h _ (by decide +kernel)
theorem BN.tuple {mg : Str → Option Value} (h : BN mg) : mg "tuple" = none := h _ (by decide +kernel)
theorem BN.list {mg : Str → Option Value} (h : BN mg) : mg "list" = none := h _ (by decide +kernel)
theorem BN.range {mg : Str → Option Value} (h : BN mg) : mg "range" = none := h _ (by decide +kernel)
theorem BN.all {mg : Str → Option Value} (h : BN mg) : mg "all" = none := h _ (by decide +kernel)
theorem BN.max {mg : Str → Option Value} (h : BN mg) : mg "max" = none := h _ (by decide +kernel)
theorem BN.sum {mg : Str → Option Value} (h : BN mg) : mg "sum" = none := h _ (by decide +kernel)
theorem BN.sorted {mg : Str → Option Value} (h : BN mg) : mg "sorted" = none := h _ (by decide +kernel)
section
variable {X : Cx} {e : Expr} {es : List Expr} {t : A2} {p pos : Pos}
theorem jc_len (B : BN X.mg) (ha : JA X (e :: es) t) (hg : Gl X "len" := by rfl) (he : starEach (e :: es) X.env = (false, eval e X.env) :: starEach es X.env := by rfl) (hpl : (backTo pos (starEach es X.env)).any (·.1) = false := by rfl) : JE X (.Call (.Name "len" p) (e :: es) [] pos) (eCl len2 t) := j_callB c_len B.len PySem.boot_len ha hg (by decide) (by decide) he hpl
theorem jc_inst (B : BN X.mg) (ha : JA X (e :: es) t) (hg : Gl X "isinstance" := by rfl) (he : starEach (e :: es) X.env = (false, eval e X.env) :: starEach es X.env := by rfl) (hpl : (backTo pos (starEach es X.env)).any (·.1) = false := by rfl) : JE X (.Call (.Name "isinstance" p) (e :: es) [] pos) (eCl inst2 t) := j_callB c_inst B.isinstance boot_isinst ha hg (by decide) (by decide) he hpl
theorem jc_all (B : BN X.mg) (hc : X.calm = true) (ha : JA X (e :: es) t) (hg : Gl X "all" := by rfl) (he : starEach (e :: es) X.env = (false, eval e X.env) :: starEach es X.env := by rfl) (hpl : (backTo pos (starEach es X.env)).any (·.1) = false := by rfl) : JE X (.Call (.Name "all" p) (e :: es) [] pos) (eCl all2 t) := j_callB (c_all hc) B.all boot_all ha hg (by decide) (by decide) he hpl
theorem jc_max (B : BN X.mg) (hc : X.calm = true) (ha : JA X (e :: es) t) (hg : Gl X "max" := by rfl) (he : starEach (e :: es) X.env = (false, eval e X.env) :: starEach es X.env := by rfl) (hpl : (backTo pos (starEach es X.env)).any (·.1) = false := by rfl) : JE X (.Call (.Name "max" p) (e :: es) [] pos) (eCl max22 t) := j_callB (c_max2 hc) B.max boot_max ha hg (by decide) (by decide) he hpl
theorem jc_sum (B : BN X.mg) (hc : X.calm = true) (ha : JA X (e :: es) t) (hg : Gl X "sum" := by rfl) (he : starEach (e :: es) X.env = (false, eval e X.env) :: starEach es X.env := by rfl) (hpl : (backTo pos (starEach es X.env)).any (·.1) = false := by rfl) : JE X (.Call (.Name "sum" p) (e :: es) [] pos) (eCl sum2 t) := j_callB (c_sum hc) B.sum boot_sum ha hg (by decide) (by decide) he hpl
theorem jc_list (B : BN X.mg) (hc : X.calm = true) (ha : JA X (e :: es) t) (hg : Gl X "list" := by rfl) (he : starEach (e :: es) X.env = (false, eval e X.env) :: starEach es X.env := by rfl) (hpl : (backTo pos (starEach es X.env)).any (·.1) = false := by rfl) : JE X (.Call (.Name "list" p) (e :: es) [] pos) (eCl list2 t) := j_callTy (c_list hc) B.list boot_list ha hg (by decide) (by decide) he hpl
theorem jc_tuple (B : BN X.mg) (ha : JA X (e :: es) t) (hg : Gl X "tuple" := by rfl) (he : starEach (e :: es) X.env = (false, eval e X.env) :: starEach es X.env := by rfl) (hpl : (backTo pos (starEach es X.env)).any (·.1) = false := by rfl) : JE X (.Call (.Name "tuple" p) (e :: es) [] pos) (eCl tuple2 t) := j_callTy c_tuple B.tuple boot_tuple ha hg (by decide) (by decide) he hpl
theorem jc_range (B : BN X.mg) (ha : JA X (e :: es) t) (hg : Gl X "range" := by rfl) (he : starEach (e :: es) X.env = (false, eval e X.env) :: starEach es X.env := by rfl) (hpl : (backTo pos (starEach es X.env)).any (·.1) = false := by rfl) : JE X (.Call (.Name "range" p) (e :: es) [] pos) (eCl range2 t) := j_callTy c_range B.range boot_rangeT ha hg (by decide) (by decide) he hpl
theorem jn_int (B : BN X.mg) (hg : Gl X "int" := by rfl) : JE X (.Name "int" pos) (eC (.ty "int")) := j_ty B.int boot_int hg
theorem jn_bool (B : BN X.mg) (hg : Gl X "bool" := by rfl) : JE X (.Name "bool" pos) (eC (.ty "bool")) := j_ty B.bool boot_bool hg
theorem jn_str (B : BN X.mg) (hg : Gl X "str" := by rfl) : JE X (.Name "str" pos) (eC (.ty "str")) := j_ty B.str boot_str hg
theorem jn_tuple (B : BN X.mg) (hg : Gl X "tuple" := by rfl) : JE X (.Name "tuple" pos) (eC (.ty "tuple")) := j_ty B.tuple boot_tuple hg
end
section
variable {X : Cx} {a b : Expr} {ta tb : E2} {pos : Pos}
theorem jb_add (ha : JE X a ta) (hb : JE X b tb) : JE X (.BinOp a .Add b pos) (eOp add2 ta tb) := j_op o_add ha hb
theorem jb_sub (ha : JE X a ta) (hb : JE X b tb) : JE X (.BinOp a .Sub b pos) (eOp sub2 ta tb) := j_op o_sub ha hb
theorem jb_mul (ha : JE X a ta) (hb : JE X b tb) : JE X (.BinOp a .Mult b pos) (eOp mul2 ta tb) := j_op o_mul ha hb
theorem jb_mod (ha : JE X a ta) (hb : JE X b tb) : JE X (.BinOp a .Mod b pos) (eOp mod2 ta tb) := j_op o_mod ha hb
theorem jb_fdiv (ha : JE X a ta) (hb : JE X b tb) : JE X (.BinOp a .FloorDiv b pos) (eOp fdiv2 ta tb) := j_op o_fdiv ha hb
theorem jb_pow (ha : JE X a ta) (hb : JE X b tb) : JE X (.BinOp a .Pow b pos) (eOp pow2 ta tb) := j_op o_pow ha hb
theorem jk_eq (hu : X.A.units + 200 < cLine) (ha : JE X a ta) (hb : JE X b tb) : JE X (.Compare a [.Eq] [b] pos) (eOp eq2 ta tb) := j_cmp (op_eqD hu) ha hb (nomark _)
theorem jk_ne (hu : X.A.units + 200 < cLine) (ha : JE X a ta) (hb : JE X b tb) : JE X (.Compare a [.NotEq] [b] pos) (eOp ne2 ta tb) := j_cmp (op_neD hu) ha hb (nomark _)
theorem jk_in (ha : JE X a ta) (hb : JE X b tb) (hm : behindInMarks .In b = false) : JE X (.Compare a [.In] [b] pos) (eOp (in2 false) ta tb) := j_cmp o_in ha hb hm
theorem jt_eq (hu : X.A.units + 200 < cLine) (ha : JE X a ta) (hb : JE X b tb) : JT X (.Compare a [.Eq] [b] pos) (tBl (eOp eq2 ta tb)) := jt_cmp (op_eqD hu) ha hb (nomark _)
theorem jt_ne (hu : X.A.units + 200 < cLine) (ha : JE X a ta) (hb : JE X b tb) : JT X (.Compare a [.NotEq] [b] pos) (tBl (eOp ne2 ta tb)) := jt_cmp (op_neD hu) ha hb (nomark _)
theorem jt_lt (ha : JE X a ta) (hb : JE X b tb) : JT X (.Compare a [.Lt] [b] pos) (tBl (eOp lt2 ta tb)) := jt_cmp o_lt ha hb (nomark _)
theorem jt_gt (ha : JE X a ta) (hb : JE X b tb) : JT X (.Compare a [.Gt] [b] pos) (tBl (eOp gt2 ta tb)) := jt_cmp o_gt ha hb (nomark _)
theorem jt_in (ha : JE X a ta) (hb : JE X b tb) (hm : behindInMarks .In b = false) : JT X (.Compare a [.In] [b] pos) (tBl (eOp (in2 false) ta tb)) := jt_cmp o_in ha hb hm
theorem jt_notin (ha : JE X a ta) (hb : JE X b tb) (hm : behindInMarks .NotIn b = false) : JT X (.Compare a [.NotIn] [b] pos) (tBl (eOp (in2 true) ta tb)) := jt_cmp o_notin ha hb hm
theorem jt_isN (ha : JE X a ta) (hb : JE X b tb) (hm : behindInMarks .Is b = false) : JT X (.Compare a [.Is] [b] pos) (tBl (eOp isN2 ta tb)) := jt_cmp o_isN ha hb hm
theorem jt_isnN (ha : JE X a ta) (hb : JE X b tb) (hm : behindInMarks .IsNot b = false) : JT X (.Compare a [.IsNot] [b] pos) (tBl (eOp isnN2 ta tb)) := jt_cmp o_isnN ha hb hm
theorem j_ixS (ha : JE X a ta) (hb : JE X b tb) (hs : PlainIx b := by exact fun _ _ => rfl) : JE X (.Subscript a b pos) (eOp ix2 ta tb) := j_ix x_seq ha hb hs
theorem jw_t (h : JW X a tA) : JT X a tA := h.jt
end
section
variable {X : Cx} {o e : Expr} {to : E2} {t : A2} {apos cpos pos : Pos}
theorem jm_append (ho : JE X o to) (ha : JA X [e] t)
    (hbase : attributeBase o "append" X.env (eval o X.env) = eval o X.env := by rfl) (hfew : ((backTo cpos (starEach [e] X.env)).all (fun x => !x.1) && (backToKw cpos (keywordEach [] X.env)).all (fun x => x.1.isSome) && decide (([e] : List Expr).length + ([] : List Keyword).length + (if ([] : List Keyword).isEmpty then 0 else 1) < 30)) = true := by rfl)
    (hline : (apos.endLine == cpos.line) = true := by rfl) (hs : starEach [e] X.env = (false, eval e X.env) :: starEach [] X.env := by rfl) : JE X (.Call (.Attribute o "append" apos) [e] [] cpos) (eMtL append2 to t) := j_mtL PySem.F.slot_list_append PySem.F.type_list_append m_append ho ha hbase hfew hline hs rfl
theorem jm_extend (ho : JE X o to) (ha : JA X [e] t)
    (hbase : attributeBase o "extend" X.env (eval o X.env) = eval o X.env := by rfl) (hfew : ((backTo cpos (starEach [e] X.env)).all (fun x => !x.1) && (backToKw cpos (keywordEach [] X.env)).all (fun x => x.1.isSome) && decide (([e] : List Expr).length + ([] : List Keyword).length + (if ([] : List Keyword).isEmpty then 0 else 1) < 30)) = true := by rfl)
    (hline : (apos.endLine == cpos.line) = true := by rfl) (hs : starEach [e] X.env = (false, eval e X.env) :: starEach [] X.env := by rfl) : JE X (.Call (.Attribute o "extend" apos) [e] [] cpos) (eMtL extend2 to t) := j_mtL PySem.F.slot_list_extend PySem.F.type_list_extend m_extend ho ha hbase hfew hline hs rfl
theorem jm_join (ho : JE X o to) (ha : JA X [e] t)
    (hbase : attributeBase o "join" X.env (eval o X.env) = eval o X.env := by rfl) (hfew : ((backTo cpos (starEach [e] X.env)).all (fun x => !x.1) && (backToKw cpos (keywordEach [] X.env)).all (fun x => x.1.isSome) && decide (([e] : List Expr).length + ([] : List Keyword).length + (if ([] : List Keyword).isEmpty then 0 else 1) < 30)) = true := by rfl)
    (hline : (apos.endLine == cpos.line) = true := by rfl) (hs : starEach [e] X.env = (false, eval e X.env) :: starEach [] X.env := by rfl) : JE X (.Call (.Attribute o "join" apos) [e] [] cpos) (eMtS join2 to t) := j_mtS PySem.F.slot_str_join PySem.F.type_str_join m_join ho ha hbase hfew hline hs rfl
theorem jm_pop (ho : JE X o to) (hbase : attributeBase o "pop" X.env (eval o X.env) = eval o X.env := by rfl) (hline : (apos.endLine == cpos.line) = true := by rfl) : JE X (.Call (.Attribute o "pop" apos) [] [] cpos) (eMtL0 pop2 to) := j_mtL0 PySem.F.slot_list_pop PySem.F.type_list_pop m_pop ho hbase hline
end
end L3
namespace L3
open PySem L2
noncomputable def cGo2 (items : List PV) (c : Gp → Prop) (ix : List (Option Nat)) (j j2 : Nat) (τ : St2) (tf : T2) (te : E2) (Q : K2) (G1 : Gp) (acc : Addr) : Prop :=
  ∃ W : Nat → List PV → Gp → Prop, W 0 [] (up G1 acc (.lst [])) ∧ (∀ i ys G, i ≤ items.length → W i ys G → c G ∧ G acc = some (.lst ys) ∧ ys.length < 1000000) ∧
    (∀ i ys G x, items[i]? = some x → W i ys G → ∃ p q, x = .tup [p, q] ∧ tf (st (st (cap2 ix τ) j (some p)) j2 (some q)) G fun b G2 => way2 b (te (st (st (cap2 ix τ) j (some p)) j2 (some q)) G2 fun y G3 => G3 acc = some (.lst ys) ∧ W (i + 1) (ys ++ [y]) (up G3 acc (.lst (ys ++ [y])))) (W (i + 1) ys G2)) ∧ ∀ ys G, W items.length ys G → Q (.ref acc) G
noncomputable abbrev eComp2 (ti : TI2) (ix : List (Option Nat)) (j j2 : Nat) (tf : T2) (te : E2) : E2 := fun τ G Q => ti τ G fun items c G1 => ∀ acc, G1 acc = none → cGo2 items c ix j j2 τ tf te Q G1 acc
section
variable {X : Cx}
theorem low_comp2 {ti : TI2} {ix : List (Option Nat)} {j j2 : Nat} {tf : T2} {te : E2} {σ : L2.St} {H : Hp} {Q : VK} (q : lowE X.K (eComp2 ti ix j j2 tf te) σ H Q) : tComp2 X.K (lowI X.K ti) ix j j2 (lowT X.K tf) (lowE X.K te) σ H Q := by
  obtain ⟨τ, G, Q2, rs, rp, q, cl⟩ := q
  refine ⟨τ, G, _, rs, rp, q, fun items c G1 J H1 q1 r1 k1 ok acc hacc => ?_⟩
  obtain ⟨W, w0, hW, turn, done⟩ := q1 acc (r1.none hacc)
  have kn : Keep X.K H1 (upd H1 acc (.lst [])) := keep_new hacc
  refine ⟨fun i m H' => m = items.length - i ∧ i ≤ items.length ∧ ∃ ys G', W i ys G' ∧ Rep X.K H' G' ∧ Keep X.K H1 H', ⟨_, rfl, Nat.zero_le _, [], _, w0, r1.new hacc .nil, kn⟩, ?_⟩
  rintro i m H2 ⟨rfl, hi, ys, G2, w2, r2, k2⟩
  obtain ⟨hc, hacc2, hys⟩ := hW i ys G2 hi w2
  obtain ⟨o1, o2, o3⟩ := ok i H2 G2 k2 r2 hc
  by_cases hlt : i < items.length
  · refine .inr ⟨o1 hlt, fun x H3 y => ?_⟩
    obtain ⟨p, ep, k3, r3, d3⟩ := o3 x H3 hlt y
    obtain ⟨pa, pb, rfl, turn'⟩ := turn i ys G2 p ep w2
    obtain ⟨ta, vs, rfl, sq, u1, vr, rfl, du1, u2, vr2, rfl, du2, e3⟩ := d3
    obtain rfl : vr2 = [] := e3
    have k13 := k2.trans k3
    refine ⟨ta, u1, u2, rfl, sq, ?_⟩
    have rs3 : RSt X.K H3 (((cap ix σ).set j (some u1)).set j2 (some u2)) (st (st (cap2 ix τ) j (some pa)) j2 (some pb)) := ((cap_rst ix (rs.keep (k1.trans k13))).set du1 j).set du2 j2
    refine ⟨_, G2, _, rs3, r3, turn', fun b G4 H4 q4 r4 k4 => ?_⟩
    have k14 := k13.trans k4
    cases b with
    | false => exact iteF ⟨items.length - (i + 1), by omega, rfl, hlt, ys, G4, q4, r4, k14⟩
    | true =>
      refine iteT ⟨_, G4, _, rs3.keep k4, r4, q4, fun y G5 v H5 q5 d5 r5 k5 => ?_⟩
      obtain ⟨ea, w5⟩ := q5
      obtain ⟨vs, hv, dv⟩ := r5.lst ea
      refine ⟨vs, hv, by rw [dv.length]; exact bigLt (Nat.le_of_lt hys), items.length - (i + 1), by omega, rfl, hlt, ys ++ [y], _, w5, r5.put hv (dv.append (.cons d5 .nil)), (k14.trans k5).trans (keep_lst hv)⟩
  · have e : i = items.length := by omega
    subst e
    exact .inl ⟨o2 rfl, cl _ _ _ _ (done ys G2 w2) rfl r2 (k1.trans k2)⟩
theorem j_comp2 {scope : Scope} {M : List Str} {ix : List (Option Nat)} {j j2 kt : Nat} {x y : Str} {elt iter : Expr} {px py pt pos : Pos} {ifs : List Expr} {ti : TI2} {tf : T2} {te : E2} (S : compOkB X.env.scope X.N scope M ix j x = true) (S2 : CompTwo scope M ix j2 y) (hc : X.calm = true) (hi : JI X (tT2 x y px py kt pt) iter ti)
    (hb : ∀ C s H fp, JF (cxComp X M scope C s H fp) ifs tf ∧ JE (cxComp X M scope C s H fp) elt te) (hs : ∀ x, foldedSetIterable iter X.env x = pure x := by intro _; rfl) :
    JE X (.ListComp elt [⟨tT2 x y px py kt pt, iter, ifs, 0⟩] scope pos) (eComp2 ti ix j j2 tf te) := .of (pe_comp2 (compS S) S2 hc hi.h (fun C s H fp => ⟨(hb C s H fp).1.h, (hb C s H fp).2.h⟩) hs) fun σ H Q q => low_comp2 q
end
noncomputable abbrev eChain (r r' : B2) (ta tb tc : E2) : E2 := fun τ G Q => ta τ G fun x G1 => tb τ G1 fun y G2 => r x y G2 fun z G3 => match z with
  | .bl k => way2 k (tc τ G3 fun w G4 => r' y w G4 Q) (Q (.bl false) G3)
  | _ => False
section
variable {X : Cx} {a b c : Expr} {ta tb tc : E2} {pos : Pos}
theorem low_chain {r r' : B2} {σ : L2.St} {H : Hp} {Q : VK} (q : lowE X.K (eChain r r' ta tb tc) σ H Q) : tChain (lowB X.K r) (lowB X.K r') (lowE X.K ta) (lowE X.K tb) (lowE X.K tc) σ H Q := by
  obtain ⟨τ, G, Q2, rs, rp, q, cl⟩ := q
  refine ⟨τ, G, _, rs, rp, q, fun x G1 vx H1 q1 d1 r1 k1 => ⟨τ, G1, _, rs.keep k1, r1, q1, fun y G2 vy H2 q2 d2 r2 k2 => ⟨x, y, G2, _, d1.keep k2, d2, r2, q2, fun z G3 vz H3 q3 d3 r3 k3 => ?_⟩⟩⟩
  split at q3
  · rename_i k
    obtain rfl : vz = .bl k := d3
    refine ⟨k, rfl, ?_⟩
    cases k with
    | false => exact iteF (cl _ _ _ _ q3 rfl r3 ((k1.trans k2).trans k3))
    | true =>
      exact iteT ⟨τ, G3, _, rs.keep ((k1.trans k2).trans k3), r3, q3, fun w' G4 vw H4 q4 d4 r4 k4 => ⟨y, w', G4, Q2, d2.keep (k3.trans k4), d4, r4, q4, cl.keep (((k1.trans k2).trans k3).trans k4)⟩⟩
  · exact q3.elim
theorem j_chain {op op' : CmpOp} {r r' : B2} (ho : OpR X (compareOp op) (lowB X.K r)) (ho' : OpR X (compareOp op') (lowB X.K r')) (ha : JE X a ta) (hb : JE X b tb) (hc : JE X c tc) (hm : lastMarks [op, op'] [b, c] = false := by with_unfolding_all rfl) :
    JE X (.Compare a [op, op'] [b, c] pos) (eChain r r' ta tb tc) := .of (pe_chain ho ho' ha.h hb.h hc.h hm) fun σ H Q q => low_chain q
theorem jt_chain {op op' : CmpOp} {r r' : B2} (ho : OpR X (compareOp op) (lowB X.K r)) (ho' : OpR X (compareOp op') (lowB X.K r')) (ha : JE X a ta) (hb : JE X b tb) (hc : JE X c tc) (hm : lastMarks [op, op'] [b, c] = false := by with_unfolding_all rfl) :
    JT X (.Compare a [op, op'] [b, c] pos) (tBl (eChain r r' ta tb tc)) := .of (pt_chain ho ho' ha.h hb.h hc.h hm) fun σ H Q q => low_tBl (fun σ H Q q => low_chain q) q
end
section
variable {X : Cx} {a b e : Expr} {ta tb : E2} {t : A2} {es : List Expr} {p pos : Pos}
end
end L3
namespace L3
open PySem L2
end L3
namespace L3
open PySem L2
theorem BN.zip {mg : Str → Option Value} (h : BN mg) : mg "zip" = none := h _ (by decide +kernel)
end L3
namespace L3
open PySem L2
structure DGet (P : Program) (w : World) (K : PySem.W.Frag) (d : Addr) (f : Str → Option Int) : Prop where
  ns : (d == sysModules) = false
  lk : ∃ o es ep, K.lookup d = some o ∧ o.ExactDict ∧ o.data = .dict es ep ∧ KeysOf (mixKind P w) es ∧ ∀ k : Str, (findBy keyIs es (.inr k) = none ∧ f k = none) ∨ ∃ n t, findBy keyIs es (.inr k) = some (.int n t) ∧ f k = some n
@[reducible] noncomputable def getD2 (f : Str → Option Int) (p : PV) (G : Gp) (Q : K2) : Prop := match p with
  | .str k => match f k with
    | some n => Q (.int n) G
    | none => Q .non G
  | _ => False
noncomputable abbrev eGetD (f : Str → Option Int) (te : E2) : E2 := fun τ G Q => te τ G fun p G1 => getD2 f p G1 Q
theorem j_getD {X : Cx} {x : Str} {e : Expr} {te : E2} {d : Addr} {f : Str → Option Int} {px apos cpos : Pos} (D : DGet X.prog X.w X.K d f) (hm : X.mg x = some (.ref d)) (he : JE X e te) (hg : Gl X x := by rfl) (hdb : (x == ("__debug__" : Str)) = false := by decide)
    (hbase : attributeBase (.Name x px) "get" X.env (eval (.Name x px) X.env) = eval (.Name x px) X.env := by rfl)
    (hfew : ((backTo cpos (starEach [e] X.env)).all (fun x => !x.1) && (backToKw cpos (keywordEach [] X.env)).all (fun x => x.1.isSome)
      && decide (([e] : List Expr).length + ([] : List Keyword).length + (if ([] : List Keyword).isEmpty then 0 else 1) < 30)) = true := by rfl)
    (hline : (apos.endLine == cpos.line) = true := by rfl) (hs : backTo cpos (starEach [e] X.env) = [(false, eval e X.env)] := by rfl) :
    JE X (.Call (.Attribute (.Name x px) "get" apos) [e] [] cpos) (eGetD f te) := ⟨by
  intro pins s σ H Q I h
  obtain ⟨τ, G, Q2, rs, rp, q, cl⟩ := h
  obtain ⟨o, es, ep, ho, ex, hdat, hk, hf⟩ := D.lk
  refine wpAny_Call_method_late hbase hfew hline rfl (ld_glob I hg hm ?_ hdb)
  refine ⟨"dict", "dict.get", F.plainAttrs_dict, F.slot_dict_get, F.type_dict_get, ⟨o, I.kIn d o ho, ex.1⟩, fun a e => ?_, ?_⟩
  · cases e
    exact ⟨o, I.kIn d o ho, ex.2.1⟩
  · rw [hs]
    refine wpAny_dict_get1 (knd := mixKind X.prog X.w) D.ns (thn (he.h pins s σ H (fun y H1 => ∃ p G1, Dv X.K H1 p y ∧ Rep X.K H1 G1 ∧ Keep X.K H H1 ∧ getD2 f p G1 Q2) I ⟨τ, G, _, rs, rp, q, fun p G1 y H1 q1 d1 r1 k1 => ⟨p, G1, d1, r1, k1, q1⟩⟩) fun u s1 ⟨y, H1, I1, r1, p, G1, d1, rp1, k1, q1⟩ => ?_)
    unfold getD2 at q1
    split at q1
    · rename_i k
      obtain rfl : y = .str k := d1
      obtain ⟨t, rfl⟩ := r1
      refine ⟨.inr k, findBy keyIs es, by show Value.isStrOf k (.str k t) = true; simp [Value.isStrOf], ⟨o, es, ep, I1.kIn d o ho, ex, hdat, hk, fun k => rfl⟩, ?_⟩
      rcases hf k with ⟨e1, e2⟩ | ⟨n, t', e1, e2⟩
      · rw [e1]
        rw [e2] at q1
        exact ⟨.non, H1, I1.tok _, rfl, cl _ _ _ _ q1 rfl rp1 k1⟩
      · rw [e1]
        rw [e2] at q1
        exact ⟨.int n, H1, I1.tok _, ⟨_, rfl⟩, cl _ _ _ _ q1 rfl rp1 k1⟩
    · exact q1.elim⟩
theorem j_gint {X : Cx} {x : Str} {i : Int} {t : Tok} {pos : Pos} (hm : X.mg x = some (.int i t)) (hg : Gl X x := by rfl) (hd : (x == ("__debug__" : Str)) = false := by decide) : JE X (.Name x pos) (eC (.int i)) := j_glob (v := .int i) hm ⟨t, rfl⟩ (fun _ => rfl) hg hd
theorem j_gstr {X : Cx} {x z : Str} {t : Tok} {pos : Pos} (hm : X.mg x = some (.str z t)) (hg : Gl X x := by rfl) (hd : (x == ("__debug__" : Str)) = false := by decide) : JE X (.Name x pos) (eC (.str z)) := j_glob (v := .str z) hm ⟨t, rfl⟩ (fun _ => rfl) hg hd
end L3
namespace L3
open PySem L2
end L3
namespace L3
open PySem L2
theorem lek {n : Nat} (h : Nat.ble n 1000 = true := by rfl) : n ≤ 1000 := Nat.le_of_ble_eq_true h
theorem lk_lst {G : Gp} {a : Addr} {ps : List PV} (h : G a = some (.lst ps)) : lk G a = some ps := by unfold lk; rw [h]
theorem lk_up {G : Gp} {a : Addr} {ps : List PV} : lk (up G a (.lst ps)) a = some ps := lk_lst up_same
theorem up_none {G : Gp} {a b : Addr} {o : MO} (h : up G a o b = none) : b ≠ a ∧ G b = none := by
  have ne : b ≠ a := fun z => by subst z; rw [up_same] at h; cases h
  exact ⟨ne, by rw [up_ne ne] at h; exact h⟩
theorem GE.mod {G0 G : Gp} {a : Addr} {o : MO} (h : GE G0 G) (n : G0 a = none) : GE G0 (up G a o) := fun b u q => by
  have : b ≠ a := fun z => by subst z; rw [n] at q; cases q
  rw [up_ne this]; exact h b u q
theorem GE.at {G0 G : Gp} {a : Addr} {o : MO} (h : GE G0 G) (n : G a = some o) : GE (up G0 a o) G := fun b u q => by
  by_cases hb : b = a
  · subst hb; rw [up_same] at q; cases q; exact n
  · rw [up_ne hb] at q; exact h b u q
section
variable {G : Gp} {a b : Addr} {xs ys : List PV} {x y : PV} {i k : Int} {j : Nat} {Q : K2}
theorem pop_i (h : G a = some (.lst (xs ++ [y]))) (q : Q y (up G a (.lst xs))) : pop2 (.ref a) [] G Q := by
  unfold pop2
  simp only [h]
  rw [List.length_append, List.getElem?_append_right (by simp)]
  simp only [List.length_cons, List.length_nil, Nat.add_sub_cancel, Nat.sub_self, List.getElem?_cons_zero, List.dropLast_concat]
  exact q
theorem append_i (h : G a = some (.lst xs)) (hl : xs.length < 1000000) (q : Q .non (up G a (.lst (xs ++ [y])))) : append2 (.ref a) [y] G Q := by
  unfold append2; simp only [h]; exact ⟨hl, q⟩
theorem extT_i (h : G a = some (.lst xs)) (hl : xs.length + ys.length ≤ 1000000) (q : Q .non (up G a (.lst (xs ++ ys)))) : extend2 (.ref a) [.tup ys] G Q := by
  unfold extend2; simp only [h]; exact ⟨hl, q⟩
theorem extL_i (h : G a = some (.lst xs)) (h2 : G b = some (.lst ys)) (hl : xs.length + ys.length ≤ 1000000) (q : Q .non (up G a (.lst (xs ++ ys)))) : extend2 (.ref a) [.ref b] G Q := by
  unfold extend2; simp only [h, h2]; exact ⟨hl, q⟩
theorem len_i (h : lk G a = some xs) (q : Q (.int xs.length) G) : len2 [.ref a] G Q := by
  unfold len2; simp only [h]; exact q
theorem ixL_i (h : lk G a = some xs) (e : atI xs i = some x) (q : Q x G) : ix2 (.ref a) (.int i) G Q := by
  unfold ix2; simp only [h, e]; exact q
theorem addR_i (h : lk G a = some xs) (hl : xs.length + ys.length ≤ 1000000) (q : ∀ c, G c = none → Q (.ref c) (up G c (.lst (xs ++ ys)))) : add2 (.ref a) (.ro ys) G Q := by
  unfold add2; simp only [h]; exact ⟨hl, q⟩
theorem ixT_i (e : atI xs i = some x) (q : Q x G) : ix2 (.tup xs) (.int i) G Q := by
  unfold ix2; simp only [e]; exact q
theorem ixS_i {z : Str} {c : Nat} (hz : z.length ≤ 1000000) (e : atI z.cps.toList i = some c) (q : Q (.str ⟨#[c]⟩) G) : ix2 (.str z) (.int i) G Q := by
  unfold ix2; simp only [e]; exact ⟨hz, q⟩
theorem setL_i {v : PV} {R : Gp → Prop} (h : G a = some (.lst xs)) (e : ixN xs.length k = some j) (q : R (up G a (.lst (xs.set j v)))) : setL (.ref a) (.int k) v G R := by
  unfold setL; simp only [h, e]; exact q
theorem addL_i (h : lk G a = some xs) (h2 : lk G b = some ys) (hl : xs.length + ys.length ≤ 1000000) (q : ∀ c, G c = none → Q (.ref c) (up G c (.lst (xs ++ ys)))) : add2 (.ref a) (.ref b) G Q := by
  unfold add2; simp only [h, h2]; exact ⟨hl, q⟩
theorem eqL_i (h : lk G a = some xs) (h2 : lk G b = some ys) (f1 : pureL 100 xs = true) (f2 : pureL 100 ys = true) (q : Q (.bl (deqs xs ys)) G) : eq2 (.ref a) (.ref b) G Q := by
  unfold eq2; simp only [h, h2]; exact ⟨f1, f2, q⟩
theorem tupL_i (h : lk G a = some xs) (q : Q (.tup xs) G) : tuple2 [.ref a] G Q := by
  unfold tuple2; simp only [h]; exact q
theorem sumL_i {ns : List Int} (h : lk G a = some (ns.map PV.int)) (q : Q (.int ns.sum) G) : sum2 [.ref a] G Q := by
  unfold sum2; simp only [h, intsOf_map]; exact q
theorem allL_i {bs : List Bool} (h : lk G a = some (bs.map PV.bl)) (q : Q (.bl (bs.all id)) G) : all2 [.ref a] G Q := by
  unfold all2; simp only [h, blsOf_map]; exact q
theorem joinL_i {z : Str} {zs : List Str} (h : lk G a = some (zs.map PV.str)) (hl : (zs.map (·.length)).sum + zs.length * z.length ≤ 1000000) (q : Q (.str (Txt.join z zs)) G) : join2 (.str z) [.ref a] G Q := by
  unfold join2; simp only [h, strsOf_map]; exact ⟨hl, q⟩
end
theorem way_keep {c : Bool} {A B : Prop} (hB : B) (hA : c = true → B → A) : way2 c A B := by
  cases c with
  | true => exact hA rfl hB
  | false => exact hB
noncomputable def Ch (l : List Addr) (G G' : Gp) : Prop := ∀ c o, c ∉ l → G c = some o → G' c = some o
theorem Ch.refl {l : List Addr} {G : Gp} : Ch l G G := fun _ _ _ h => h
theorem Ch.trans {l : List Addr} {G G1 G2 : Gp} (a : Ch l G G1) (b : Ch l G1 G2) : Ch l G G2 := fun c o n h => b c o n (a c o n h)
theorem Ch.new {l : List Addr} {G G1 : Gp} {a : Addr} {o : MO} (h : Ch l G G1) (n : G1 a = none) : Ch l G (up G1 a o) := fun b u hb q => by
  have := h b u hb q
  have ne : b ≠ a := fun z => by subst z; rw [n] at this; cases this
  rw [up_ne ne]; exact this
theorem Ch.put {l : List Addr} {G G1 : Gp} {a : Addr} {o : MO} (h : Ch l G G1) (n : a ∈ l) : Ch l G (up G1 a o) := fun b u hb q => by
  have ne : b ≠ a := fun z => by subst z; exact hb n
  rw [up_ne ne]; exact h b u hb q
theorem Ch.mod' {l : List Addr} {G G1 : Gp} {a : Addr} {o : MO} (h : Ch l G G1) (n : G a = none) : Ch l G (up G1 a o) := fun b u hb q => by
  have ne : b ≠ a := fun z => by subst z; rw [n] at q; cases q
  rw [up_ne ne]; exact h b u hb q
theorem Ch.mono {l l' : List Addr} {G G1 : Gp} (h : Ch l G G1) (s : ∀ a ∈ l, a ∈ l') : Ch l' G G1 := fun b u hb q => h b u (fun z => hb (s b z)) q
theorem Ch.ge {l : List Addr} {G G1 : Gp} (h : Ch l G G1) (n : ∀ a ∈ l, G a = none) : GE G G1 := fun b u q => h b u (fun z => by rw [n b z] at q; cases q) q
theorem GE.ch {l : List Addr} {G G1 : Gp} (h : GE G G1) : Ch l G G1 := fun b u _ q => h b u q
noncomputable def Pool (G : Gp) (a : Addr) : Prop := ∃ x y z : Int, G a = some (.lst [.int x, .int y, .int z]) ∧ 0 ≤ x
theorem Pool.new {G : Gp} {a b : Addr} {o : MO} (h : Pool G a) (n : G b = none) : Pool (up G b o) a := by
  obtain ⟨x, y, z, e, hx⟩ := h
  exact ⟨x, y, z, by rw [up_ne (fun q => by subst q; rw [n] at e; cases e)]; exact e, hx⟩
theorem Pool.ne {G : Gp} {a b : Addr} {o : MO} (h : Pool G a) (n : b ≠ a) : Pool (up G b o) a := by
  obtain ⟨x, y, z, e, hx⟩ := h
  exact ⟨x, y, z, by rw [up_ne (Ne.symm n)]; exact e, hx⟩
theorem ne_none {G : Gp} {a b : Addr} {o : MO} (h : G a = some o) (n : G b = none) : a ≠ b := fun z => by subst z; rw [h] at n; cases n
theorem Pool.some {G : Gp} {a : Addr} (h : Pool G a) : ∃ o, G a = some o := by obtain ⟨x, y, z, e, _⟩ := h; exact ⟨_, e⟩
theorem never_ok {P : Program} {w : World} {K : PySem.W.Frag} {mg : Str → Option Value} {base : Heap} {k : Nat} {f : Addr} {fd : FuncData} {ps : List Str} {sp : Sp2} (h : ∀ as G Q, ¬ sp as G Q) : Ok2 P w K mg base k f fd ps sp :=
  ⟨fun vs H Q E ⟨as, G, Q2, _, _, q, _⟩ => absurd q (h as G Q2), fun A outer s H args us vs Q E _ _ _ _ ⟨as, G, Q2, _, _, q, _⟩ => absurd q (h as G Q2)⟩
noncomputable def spPool : Sp2 := fun ps G Q => ∃ c : Int, ps = [.int c] ∧ ∀ a G', G a = none → Pool G' a → Ch [a] G G' → Q (.ref a) G'
noncomputable def spNext : Sp2 := fun ps G Q => ∃ (a : Addr) (b : Int), ps = [.ref a, .int b] ∧ Pool G a ∧ 1 ≤ b ∧ b ≤ 1000000 ∧ ∀ (n : Int) G', 0 ≤ n → n < b → Pool G' a → Ch [a] G G' → Q (.int n) G'
inductive Pt where
  | none | blank | sign (s : Str) | row (ps : List Pt) | pick (ps : List Pt) | again (p : Pt) | held (n : Str) (p : Pt) | price (n : Int) (p : Pt)
mutual
noncomputable def enc : Pt → PV
  | .none => .tup [.str "none"]
  | .blank => .tup [.str "blank"]
  | .sign s => .tup [.str "sign", .str s]
  | .row ps => .tup [.str "row", .tup (encs ps)]
  | .pick ps => .tup [.str "pick", .tup (encs ps)]
  | .again p => .tup [.str "again", enc p]
  | .held n p => .tup [.str "held", .str n, enc p]
  | .price n p => .tup [.str "price", .int n, enc p]
noncomputable def encs : List Pt → List PV
  | [] => []
  | p :: ps => enc p :: encs ps
end
theorem encs_map : ∀ ps : List Pt, encs ps = ps.map enc
  | [] => rfl
  | p :: ps => by show enc p :: encs ps = _; rw [encs_map ps]; rfl
theorem encs_append (ps qs : List Pt) : encs (ps ++ qs) = encs ps ++ encs qs := by rw [encs_map, encs_map, encs_map, List.map_append]
theorem encs_length (ps : List Pt) : (encs ps).length = ps.length := by rw [encs_map, List.length_map]
noncomputable def inner : Pt → List Pt
  | .row ps => ps
  | .pick ps => ps
  | .again p => [p]
  | .held _ p => [p]
  | .price _ p => [p]
  | _ => []
mutual
noncomputable def size : Pt → Nat
  | .row ps => 1 + sizes ps
  | .pick ps => 1 + sizes ps
  | .again p => 1 + size p
  | .held _ p => 1 + size p
  | .price _ p => 1 + size p
  | _ => 1
noncomputable def sizes : List Pt → Nat
  | [] => 0
  | p :: ps => size p + sizes ps
end
theorem size_inner (p : Pt) : size p = 1 + sizes (inner p) := by
  cases p <;> simp [size, inner, sizes]
theorem size_pos (p : Pt) : 0 < size p := by rw [size_inner]; omega
theorem sizes_append (ps qs : List Pt) : sizes (ps ++ qs) = sizes ps + sizes qs := by
  induction ps with
  | nil => simp [sizes]
  | cons p ps ih => simp [sizes, ih]; omega
theorem length_le_sizes : ∀ ps : List Pt, ps.length ≤ sizes ps
  | [] => Nat.zero_le _
  | p :: ps => by
    have := length_le_sizes ps
    have := size_pos p
    simp [sizes]; omega
noncomputable def oneS (c : Nat) : Str := ⟨#[c]⟩
theorem join_cps : ∀ zs : List Str, (Str.join (Str.ofString "") zs).cps.toList = (zs.map fun z => z.cps.toList).flatten
  | [] => rfl
  | [z] => by simp [Str.join]
  | z :: y :: r => by
    show (z ++ Str.ofString "" ++ Str.join (Str.ofString "") (y :: r)).cps.toList = _
    have h := join_cps (y :: r)
    rw [List.map_cons, List.flatten_cons, ← h]
    show (z.cps ++ (Str.ofString "").cps ++ (Str.join (Str.ofString "") (y :: r)).cps).toList = _
    rw [Array.toList_append, Array.toList_append]
    simp [show (Str.ofString "").cps.toList = [] from rfl]
theorem joinE_cps (zs : List Str) : (Txt.join (Str.ofString "") zs).cps.toList = (zs.map fun z => z.cps.toList).flatten := by
  have e : Txt.join (Str.ofString "") zs = Str.join (Str.ofString "") zs := StrLaws.glued_eq_join _ _
  rw [e, join_cps]
theorem join_chars (cs : List Nat) : (Txt.join (Str.ofString "") (cs.map oneS)).cps.toList = cs := by
  rw [joinE_cps]
  induction cs with
  | nil => rfl
  | cons c cs ih => rw [List.map_cons, List.map_cons, List.flatten_cons, ih]; rfl
theorem signs_at {z : Str} {i : Nat} {x : PV} (h : (signsP z)[i]? = some x) : ∃ c, z.cps.toList[i]? = some c ∧ x = .str (oneS c) := by
  unfold signsP at h
  rw [List.getElem?_map] at h
  cases e : z.cps.toList[i]? with
  | none => rw [e] at h; cases h
  | some c => rw [e] at h; cases h; exact ⟨c, rfl, rfl⟩
theorem pure_strs (cs : List Nat) : pureL 100 (cs.map fun c => .str (oneS c)) = true := by
  induction cs with
  | nil => rfl
  | cons c cs ih => rw [List.map_cons]; unfold pureL; rw [ih]; rfl
theorem sum_ones (cs : List Nat) : ((cs.map oneS).map (·.length)).sum = cs.length := by
  induction cs with
  | nil => rfl
  | cons c cs ih => rw [List.map_cons, List.map_cons, List.sum_cons, ih, List.length_cons]; show 1 + cs.length = _; omega
mutual
noncomputable def depth : Pt → Nat
  | .row ps => 1 + depths ps
  | .pick ps => 1 + depths ps
  | .again p => 1 + depth p
  | .held _ p => 1 + depth p
  | .price _ p => 1 + depth p
  | _ => 1
noncomputable def depths : List Pt → Nat
  | [] => 0
  | p :: ps => max (depth p) (depths ps)
end
mutual
noncomputable def canB : Pt → Bool
  | .none => false
  | .blank => true
  | .sign _ => false
  | .row ps => allB ps
  | .pick ps => anyB ps
  | .again _ => true
  | .held _ p => canB p
  | .price _ p => canB p
noncomputable def allB : List Pt → Bool
  | [] => true
  | p :: ps => canB p && allB ps
noncomputable def anyB : List Pt → Bool
  | [] => false
  | p :: ps => canB p || anyB ps
end
theorem allB_append (ps qs : List Pt) : allB (ps ++ qs) = (allB ps && allB qs) := by
  induction ps with
  | nil => simp [allB]
  | cons p ps ih => simp [allB, ih, Bool.and_assoc]
theorem anyB_at : ∀ {ps : List Pt}, anyB ps = true → ∃ (i : Nat) (p : Pt), ps[i]? = some p ∧ canB p = true
  | [], e => by simp [anyB] at e
  | p :: ps, e => by
    simp [anyB] at e
    rcases e with e | e
    · exact ⟨0, p, rfl, e⟩
    · obtain ⟨i, q, h, c⟩ := anyB_at e
      exact ⟨i + 1, q, by simpa using h, c⟩
theorem size_depth_inner (p : Pt) : depth p = 1 + depths (inner p) := by
  cases p <;> simp [depth, inner, depths]
theorem atI_of {α : Type} {xs : List α} {n : Int} (h0 : 0 ≤ n) (h1 : n < xs.length) : ∃ x, atI xs n = some x ∧ x ∈ xs := by
  have hl : n.toNat < xs.length := by omega
  refine ⟨xs[n.toNat], ?_, List.getElem_mem hl⟩
  have := atI_nat (xs := xs) (j := n.toNat) (v := xs[n.toNat]) (List.getElem?_eq_getElem hl)
  rwa [show ((n.toNat : Nat) : Int) = n by omega] at this
theorem depth_pos (p : Pt) : 1 ≤ depth p := by rw [size_depth_inner]; omega
end L3
namespace L3
open PySem L2
mutual
theorem deq_refl : ∀ (n : Nat) (p : PV), pureP n p = true → deq p p = true
  | _, .non, _ => rfl
  | _, .bl b, _ => by unfold deq; simp
  | _, .int b, _ => by unfold deq; simp
  | _, .str b, _ => by unfold deq; simp
  | n, .tup xs, h => by
    cases n with
    | zero => cases h
    | succ n => unfold deq; exact deqs_refl n xs h
  | n, .ref _, h => by cases n <;> cases h
  | n, .ty _, h => by cases n <;> cases h
  | n, .ro _, h => by cases n <;> cases h
theorem deqs_refl : ∀ (n : Nat) (xs : List PV), pureL n xs = true → deqs xs xs = true
  | _, [], _ => rfl
  | n, x :: xs, h => by
    unfold pureL at h
    rw [Bool.and_eq_true] at h
    unfold deqs
    rw [deq_refl n x h.1, deqs_refl n xs h.2]
    rfl
end
end L3
namespace L3
open PySem L2
section
variable {G : Gp} {a b : Addr} {xs ys : List PV} {x y p : PV} {i k : Int} {j : Nat} {Q : K2}
theorem inst_i {ty T : String} (h : tyN p G = some ty) (hT : T ∈ Tys) (q : Q (.bl (isT ty T)) G) : inst2 [p, .ty T] G Q := by
  unfold inst2; simp only [h]; exact ⟨hT, q⟩
theorem neP_i (f1 : pureP 100 x = true) (f2 : pureP 100 y = true) (q : Q (.bl (!deq x y)) G) : ne2 x y G Q := by
  cases x with
  | ref a => cases f1
  | ty a => cases f1
  | ro a => cases f1
  | _ => cases y with
    | ref a => cases f2
    | ty a => cases f2
    | ro a => cases f2
    | _ => exact ⟨f1, f2, q⟩
theorem eqP_i (f1 : pureP 100 x = true) (f2 : pureP 100 y = true) (q : Q (.bl (deq x y)) G) : eq2 x y G Q := by
  cases x with
  | ref a => cases f1
  | ty a => cases f1
  | ro a => cases f1
  | _ => cases y with
    | ref a => cases f2
    | ty a => cases f2
    | ro a => cases f2
    | _ => exact ⟨f1, f2, q⟩
theorem listR_i {lo hi : Int} (h : G a = some (.rng lo hi)) (hb : -(2 ^ 62) ≤ lo ∧ lo < 2 ^ 62 ∧ -(2 ^ 62) ≤ hi ∧ hi < 2 ^ 62) (hl : (hi - lo).toNat ≤ 1000000) (q : ∀ c, G c = none → Q (.ref c) (up G c (.lst (intsP lo (hi - lo).toNat)))) : list2 [.ref a] G Q := by
  unfold list2; simp only [h]; exact ⟨hb, hl, q⟩
end
theorem depth_part {q c : Pt} {k : Nat} (h : (inner q)[k]? = some c) : depth c + 1 ≤ depth q := by
  rw [size_depth_inner q]
  have : ∀ (ps : List Pt) (k : Nat), ps[k]? = some c → depth c ≤ depths ps := by
    intro ps
    induction ps with
    | nil => intro k h; simp at h
    | cons p ps ih =>
      intro k h
      cases k with
      | zero => simp at h; subst h; simp [depths]; omega
      | succ k => have := ih k (by simpa using h); simp [depths]; omega
  have := this _ k h
  omega
end L3
namespace PyProof.Rows
open PySem
section
variable {prog : Program} {w : World} {A : Around} {E : Value → Shared → Prop} {s : Shared}
theorem strsAre_items {x : Str} : ∀ (n : Nat) {vs : List Value}, vs.length = n → (∀ (j : Nat) (v : Value), vs[j]? = some v → ∃ (c : Nat) (u : Tok), x.cps[j]? = some c ∧ v = Value.str ⟨#[c]⟩ u) → n ≤ x.cps.size → StrsAre vs ((x.cps.toList.take n).map fun c => ⟨#[c]⟩) := by
  intro n
  induction n with
  | zero => intro vs hl _ _; rw [List.eq_nil_of_length_eq_zero hl]; exact .nil
  | succ n ih =>
    intro vs hl h hn
    have e : vs = vs.take n ++ [vs[n]'(by omega)] := by
      have := List.take_append_drop n vs
      rw [List.drop_eq_getElem_cons (by omega), List.drop_of_length_le (by omega)] at this
      exact this.symm
    obtain ⟨c, u, hc, hv⟩ := h n _ (List.getElem?_eq_getElem (by omega))
    have hc' : x.cps.toList[n]? = some c := by simpa using hc
    rw [e, List.take_add_one, hc', Option.toList_some, List.map_append]
    have one : StrsAre [vs[n]'(by omega)] (List.map (fun c => (⟨#[c]⟩ : Str)) [c]) := by rw [hv]; exact .cons _ _ .nil
    have base := ih (vs := vs.take n) (by rw [List.length_take]; omega) (fun j v hj => by
      rw [List.getElem?_take] at hj
      split at hj
      · exact h j v hj
      · cases hj) (by omega)
    clear e
    revert base one
    generalize vs.take n = as
    generalize (x.cps.toList.take n).map (fun c => (⟨#[c]⟩ : Str)) = ss
    intro one base
    induction base with
    | nil => exact one
    | cons y t _ ih2 => exact .cons y t ih2
set_option maxHeartbeats 2000000 in
theorem sorted_str {Q : Value → Shared → Prop} (hh : A.handled = none) (x : Str) (t : Tok) (h64 : x.cps.size < 64)
    (h : ∀ (s' : Shared) (l : Addr) (out : Array Value) (ss' : List Str) (e : Nat), (∀ b o, s.heap.get? b = some o → s'.heap.get? b = some o) → s'.gens = s.gens → s'.drawn = s.drawn → s'.os = s.os → s.heap.get? l = none → s'.heap.get? l = some (seqObj "list" out e) → StrsAre out.toList ss' → ss'.Perm (x.cps.toList.map fun c => ⟨#[c]⟩) → Q (.ref l) s') :
    wpAny (model prog w) A (call (.builtin "sorted") [.str x t]) Q E s := by
  refine Calls.call_function_entry kind_sorted plain_sorted entry_sorted (args_sorted1 _) ?_
  unfold Builtin.«sorted»
  refine wpAny_bind (m := checkCount "sorted" 1 1 _) (wpAny_pure ?_)
  refine wpAny_bind (wpAny_collect_str (A := A.in1) (show A.in1.handled = none from hh) x t (fun s' acc hk hg hd ho hacc => ?_) (by rw [sizeLine_eq]; omega))
  have hS : StrsAre acc.toList (x.cps.toList.map fun c => ⟨#[c]⟩) := by
    have := strsAre_items (x := x) x.cps.size (vs := acc.toList) (by simpa using hacc.1) (fun j v hj => hacc.2 j v (by simpa using hj)) (Nat.le_refl _)
    rwa [List.take_of_length_le (by simp)] at this
  have hl : acc.toList.length < 64 := by rw [Array.length_toList, hacc.1]; exact h64
  refine wpAny_bind (wpAny_newList ?_)
  have hoL : (s'.heap.push (seqObj "list" acc.toList.toArray 0)).get? s'.heap.objs.size = some (seqObj "list" acc.toList.toArray 0) := Heap.get?_push_size _ rfl
  have hle : s.heap.get? s'.heap.objs.size = none := by
    cases e : s.heap.get? s'.heap.objs.size with
    | none => rfl
    | some o =>
      have := hk _ o e
      rw [Heap.get?_none_of_le (Nat.le_refl _)] at this
      cases this
  show wpAny _ _ _ _ _ { s' with heap := s'.heap.push (seqObj "list" acc.toList.toArray 0) }
  refine wpAny_bind (wpAny_holding (wpAny_call_entry slot_list_sort ⟨_, hoL, rfl⟩ entry_list_sort (list_sort_treeK strKind_oneLt hoL hS.keysOf (fun v₁ v₂ rest e => keyKind_strs (by rw [← e]; exact hS)) hl fun st' a1 a2 => ⟨_, rfl, ?_⟩) (args_list_sort _)))
  obtain ⟨ss', h1, h2, h3⟩ := sorted_out_str hS a1 a2
  obtain ⟨e, he⟩ := sortedHeap_at (out := (arrOf st').map (·.2)) hoL
  refine wpAny_pure ⟨_, rfl, h _ s'.heap.objs.size _ ss' e (fun b o q => ?_) hg hd ho hle he h1 h2⟩
  have q' := hk b o q
  have hb : b < s'.heap.objs.size := Heap.lt_size q'
  show (sortedHeap _ _ _ _).get? b = some o
  rw [sortedHeap_old (Nat.ne_of_lt hb) (Heap.lt_size (Heap.get?_push_of_some _ q'))]
  exact Heap.get?_push_of_some _ q'
end
end PyProof.Rows
namespace PySem
open Sem (wp)
open Builtin
end PySem
namespace L3
open PySem L2
noncomputable def sortedS2 : C2 := fun ps G Q => match ps with
  | [.str z] => z.length < 64 ∧ ∀ (cs : List Nat) c, cs.Perm z.cps.toList → G c = none → Q (.ref c) (up G c (.lst (cs.map fun c => .str (oneS c))))
  | _ => False
theorem vals_strs {ns : List Str} {us : List Value} (h : PyProof.Rows.StrsAre us ns) : Vals (ns.map V.str) us := by
  induction h with
  | nil => exact .nil
  | cons n t _ ih => exact .cons ⟨t, rfl⟩ ih
theorem strs_D {K : PySem.W.Frag} {H : Hp} : ∀ (l : List Str), Dvs K H (l.map PV.str) (l.map V.str)
  | [] => rfl
  | i :: l => ⟨_, _, rfl, rfl, strs_D l⟩
section
variable {X : Cx}
theorem c_sortedS (hc : X.calm = true) : CallR X (.builtin "sorted") (lowC X.K sortedS2) := by
  intro pins s σ H xs us Q I rs h
  obtain ⟨ps, G, Q2, d, rp, h, cl⟩ := h
  unfold sortedS2 at h
  split at h
  · rename_i z
    obtain ⟨h64, h⟩ := h
    obtain ⟨v, rfl, dv⟩ := one_arg d
    obtain rfl : v = .str z := dv
    obtain ⟨u, rfl, t, rfl⟩ := rs.one
    refine PyProof.Rows.sorted_str (I.ok.hd hc) z t h64 fun s' l out ss e hk hg hd ho hn he hs hp => ?_
    obtain ⟨cs, hcs, rfl⟩ : ∃ cs : List Nat, cs.Perm z.cps.toList ∧ ss = cs.map oneS := by
      refine ⟨ss.map fun y => y.cps.getD 0 0, ?_, ?_⟩
      · have := hp.map fun y => y.cps.getD 0 0
        rw [List.map_map] at this
        have e2 : ((fun y : Str => y.cps.getD 0 0) ∘ fun c => (⟨#[c]⟩ : Str)) = id := by funext c; rfl
        rwa [e2, List.map_id] at this
      · rw [List.map_map]
        have hall : ∀ y ∈ ss, oneS (y.cps.getD 0 0) = y := by
          intro y hy
          have := hp.mem_iff.mp hy
          obtain ⟨c, _, rfl⟩ := List.mem_map.mp this
          rfl
        exact (List.map_id ss).symm.trans (List.map_congr_left fun y hy => (hall y hy).symm)
    have hHl : H l = none := I.hok.none_of hn
    obtain ⟨hp', g', d', t', o'⟩ := s'
    obtain rfl : g' = s.gens := hg
    obtain rfl : d' = s.drawn := hd
    obtain rfl : o' = s.os := ho
    have e1 : (cs.map oneS).map V.str = cs.map fun c => V.str (oneS c) := by rw [List.map_map]; rfl
    have e2 : (cs.map oneS).map PV.str = cs.map fun c => PV.str (oneS c) := by rw [List.map_map]; rfl
    refine ⟨.ref l, upd H l (.lst ((cs.map oneS).map V.str)), I.un (t' := t') (Un.laidN hk hn hHl) (I.hok.laidN hk hHl ?_), rfl, cl _ _ _ _ (h cs l hcs (rp.none hHl)) rfl ?_ (keep_new hHl)⟩
    · have lm : cs.length = z.length := by rw [hcs.length_eq, Array.length_toList]; rfl
      exact ⟨by rw [List.length_map, List.length_map, lm]; exact big (by omega), out.toList, e, vals_strs hs, by simpa using he⟩
    · rw [← e2]
      exact rp.new hHl (strs_D _)
  · exact h.elim
noncomputable def mulT2 : B2 := fun p q G Q => match p, q with
  | .tup xs, .int k => xs ≠ [] ∧ 2 ≤ k ∧ xs.length * k.toNat ≤ 1000000 ∧ k ≤ 1000000 ∧ Q (.tup (List.replicate k.toNat xs).flatten) G
  | _, _ => False
noncomputable def inNone2 : B2 := fun p q G Q => match p, q with
  | .non, .tup ps => pureL 100 ps = true ∧ Q (.bl (ps.any fun y => deq y .non)) G
  | _, _ => False
noncomputable def isNoneU : Value → Bool
  | .none => true
  | _ => false
theorem noneU_eq {K : PySem.W.Frag} {H : Hp} {p : PV} {v : V} {u : Value} (f : pureP 100 p = true) (d : Dv K H p v) (r : RelV v u) : isNoneU u = deq p .non := by
  cases p with
  | non => obtain rfl : v = .non := d; cases r; rfl
  | bl b => obtain rfl : v = .bl b := d; cases r; rfl
  | int b => obtain rfl : v = .int b := d; obtain ⟨t, rfl⟩ := r; rfl
  | str b => obtain rfl : v = .str b := d; obtain ⟨t, rfl⟩ := r; rfl
  | tup ps => obtain ⟨a, vs, rfl, _⟩ := d; cases r; rfl
  | ref a => cases f
  | ty a => cases f
  | ro a => cases f
theorem o_inNone (hu : X.A.units + 200 < cLine) : OpR X (compareOp .In) (lowB X.K inNone2) := by
  intro pins s σ H x y v u Q I rx ry h
  obtain ⟨p, q, G, Q2, d1, d2, rp, h, cl⟩ := h
  unfold inNone2 at h
  split at h
  · rename_i ps
    obtain ⟨f, hq⟩ := h
    obtain rfl : x = .non := d1
    cases rx
    obtain ⟨a, vs, rfl, sa, da⟩ := d2
    cases ry
    obtain ⟨its, r, pl, hz⟩ := I.tuple sa
    have main : ∀ {ps : List PV} {vs : List V} {its : List Value}, pureL 100 ps = true → Dvs X.K H ps vs → Vals vs its → (∀ y ∈ its, SeqAt.EqAt X.A.in1 s y .none (isNoneU y)) ∧ its.any isNoneU = ps.any fun y => deq y .non := by
      intro ps
      induction ps with
      | nil =>
        intro vs its _ d r
        obtain rfl : vs = [] := d
        cases r
        exact ⟨fun y hy => by simp at hy, rfl⟩
      | cons p ps ih =>
        intro vs its f d r
        obtain ⟨v, vr, rfl, dp, d⟩ := d
        cases r with
        | cons r1 r2 =>
          unfold pureL at f
          rw [Bool.and_eq_true] at f
          obtain ⟨h1, h2⟩ := ih f.2 d r2
          have e := noneU_eq f.1 dp r1
          refine ⟨fun y hy => ?_, by rw [List.any_cons, List.any_cons, e, h2]⟩
          rcases List.mem_cons.mp hy with rfl | hy
          · rw [e]
            exact eq_D I 100 1 p .non X.A.in1 dp r1 rfl rfl f.1 rfl (by rw [PySem.Around.in1_units]; omega)
          · exact h1 y hy
    obtain ⟨h1, h2⟩ := main f da r
    refine SeqAt.in_tupleAt isNoneU pl (fun y hy => h1 y (by simpa using hy)) ⟨.bl _, H, I, rfl, ?_⟩
    rw [show its.toArray.any isNoneU = its.any isNoneU by simp, h2]
    exact cl _ _ _ _ hq rfl rp .refl
  · exact h.elim
end
end L3
namespace L3
open PySem L2
noncomputable abbrev isnB2 : B2 := fun p q G Q => match p, q with
  | .bl a, .bl b => Q (.bl (!(a == b))) G
  | _, _ => False
section
variable {X : Cx} {a b : Expr} {ta tb : E2} {pos : Pos}
theorem o_isnB : OpR X (compareOp .IsNot) (lowB X.K isnB2) := by
  intro pins s σ H x y v u Q I rx ry h
  obtain ⟨p, q, G, Q2, d1, d2, rp, h, cl⟩ := h
  unfold isnB2 at h
  split at h
  · rename_i a b
    obtain rfl : x = .bl a := d1
    obtain rfl : y = .bl b := d2
    cases rx
    cases ry
    have e : (Value.bool a == Value.bool b) = (a == b) := by cases a <;> cases b <;> rfl
    show wpAny _ _ (do let r ← isSame (.bool a) (.bool b); pure (Value.bool !r)) _ _ _
    refine wpAny_bind (wpAny_pure (wpAny_pure ?_))
    rw [e]
    exact ⟨.bl _, H, I, rfl, cl _ _ _ _ h rfl rp .refl⟩
  · exact h.elim
theorem jt_isnB (ha : JE X a ta) (hb : JE X b tb) (hm : behindInMarks .IsNot b = false) : JT X (.Compare a [.IsNot] [b] pos) (tBl (eOp isnB2 ta tb)) := jt_cmp o_isnB ha hb hm
end
end L3
namespace PySem
open Sem (wp)
open Builtin
end PySem
namespace L3
open PySem L2
section
variable {X : Cx} {a b : Expr} {ta tb : E2} {pos : Pos}
end
end L3
namespace L3
open PySem L2
noncomputable abbrev itL (t : E2) : TI2 := fun τ G R => t τ G fun p G1 => match p with
  | .ref a => match lk G1 a with
    | some ps => R ps (fun G => lk G a = some ps) G1
    | none => False
  | _ => False
theorem ji_list {X : Cx} {l tg : Expr} {t : E2} (hl : JE X l t) : JI X tg l (itL t) := .of (pi_list hl.h) fun σ H R ⟨τ, G, R2, rs, rp, h, cl⟩ => by
  refine ⟨τ, G, _, rs, rp, h, fun p G1 v H1 q d r k => ?_⟩
  cases p with
  | ref a =>
    obtain rfl : v = .ref a := d
    dsimp only at q
    split at q
    · rename_i ps e
      obtain ⟨vs, sq, dv⟩ := lk_sq r e
      exact ⟨a, rfl, ⟨vs, sq⟩, cl _ _ _ _ _ q r k it_lst⟩
    · exact q.elim
  | _ => exact q.elim
end L3
namespace L3
open PySem L2
noncomputable def asc (z : Str) : Prop := (z.cps.all fun x => decide (x < 128)) = true
noncomputable def okT (z : Str) : Prop := asc z ∧ z.length ≤ 1000
@[reducible] noncomputable def inS (S : Str) : PV → Bool
  | .str i => !(Builtin.Str.occurrences S i 0 S.length 1).isEmpty
  | _ => false
noncomputable def SIG : Str := " !\"#$&'()*+,-./0123456789:;<=>?@ABCDEFGHIJKLMNOPQRSTUVWXYZ[\\]^_`abcdefghijklmnopqrstuvwxyz{|}~"
noncomputable def textB (z : Str) : Bool := (signsP z).all (inS SIG)
noncomputable def textV : PV → Bool
  | .str z => textB z
  | _ => false
end L3
namespace L3
open PySem L2
theorem size_mem : ∀ {ps : List Pt} {c : Pt}, c ∈ ps → size c ≤ sizes ps
  | p :: ps, c, h => by
    rcases List.mem_cons.mp h with rfl | h
    · simp only [sizes]; omega
    · have := size_mem h; simp only [sizes]; omega
theorem depth_mem : ∀ {ps : List Pt} {c : Pt}, c ∈ ps → depth c ≤ depths ps
  | p :: ps, c, h => by
    rcases List.mem_cons.mp h with rfl | h
    · simp only [depths]; omega
    · have := depth_mem h; simp only [depths]; omega
theorem depths_le {n : Nat} : ∀ {ps : List Pt}, (∀ c ∈ ps, depth c ≤ n) → depths ps ≤ n
  | [], _ => Nat.zero_le _
  | p :: ps, h => by
    simp only [depths]
    exact Nat.max_le.mpr ⟨h p (by simp), depths_le fun c hc => h c (by simp [hc])⟩
end L3
namespace L3
open PySem L2
mutual
noncomputable def okV : PV → Prop
  | .str z => okT z
  | .int _ => True
  | .tup xs => okVs xs
  | _ => False
noncomputable def okVs : List PV → Prop
  | [] => True
  | x :: xs => okV x ∧ okVs xs
end
theorem okVs_mem : ∀ {xs : List PV}, okVs xs ↔ ∀ x ∈ xs, okV x
  | [] => by simp [okVs]
  | p :: ps => by rw [okVs, okVs_mem (xs := ps)]; simp
end L3
namespace L3
open PySem L2
noncomputable def EntsOk : List DictEntry → List (Str × Int) → Prop
  | [], [] => True
  | e :: es, x :: xs => (∃ t, e.key = .str x.1 t) ∧ (∃ t, e.val = .int x.2 t) ∧ EntsOk es xs
  | _, _ => False
noncomputable def LenO (P : Program) (w : World) (o : Obj) (l : List (Str × Int)) : Prop := o.ExactDict ∧ ∃ es ep, o.data = .dict es ep ∧ KeysOf (mixKind P w) es ∧ EntsOk es.toList l
theorem key_ok {P : Program} {w : World} (x : Str) (t : Tok) : ∃ k, (mixKind P w).is k (.str x t) = true ∧ PyData.keyHash w.params x = (mixKind P w).hash k := ⟨.inr x, by show Value.isStrOf x (.str x t) = true; simp [Value.isStrOf], rfl⟩
theorem ents_find (k : Str) : ∀ {es : List DictEntry} {l : List (Str × Int)}, EntsOk es l →
    ((es.find? fun e => keyIs (.inr k) e.key).map (·.val) = none ∧ (l.find? fun x => x.1 == k).map (·.2) = none) ∨ ∃ n t, (es.find? fun e => keyIs (.inr k) e.key).map (·.val) = some (.int n t) ∧ (l.find? fun x => x.1 == k).map (·.2) = some n
  | [], [], _ => .inl ⟨rfl, rfl⟩
  | [], _ :: _, h => h.elim
  | _ :: _, [], h => h.elim
  | e :: es, x :: xs, ⟨⟨t, hk⟩, ⟨t', hv⟩, h⟩ => by
    have e1 : keyIs (.inr k) e.key = (x.1 == k) := by rw [hk]; rfl
    rw [List.find?_cons, List.find?_cons, e1]
    cases hb : (x.1 == k) with
    | true => exact .inr ⟨x.2, t', by show some e.val = _; rw [hv], rfl⟩
    | false => exact ents_find k h
theorem len_get {P : Program} {w : World} {K : PySem.W.Frag} {d : Addr} {o : Obj} {l : List (Str × Int)} (h : LenO P w o l) (hk : K.lookup d = some o) (hs : (d == sysModules) = false) : DGet P w K d fun k => (l.find? fun x => x.1 == k).map (·.2) := by
  obtain ⟨ex, es, ep, hd, hks, hv⟩ := h
  refine ⟨hs, o, es, ep, hk, ex, hd, hks, fun k => ?_⟩
  have := ents_find k hv
  unfold findBy
  rw [← Array.find?_toList]
  exact this
end L3
namespace L3
open PySem L2
end L3
namespace L3
open PySem L2
inductive Tr where
  | blank | sign (s : Str) | row (ts : List Tr) | pick (k : Int) (t : Tr) | again (ts : List Tr) | held (n : Str) (t : Tr) | price (n : Int) (t : Tr)
mutual
noncomputable def ent : Tr → PV
  | .blank => .tup [.str "blank"]
  | .sign s => .tup [.str "sign", .str s]
  | .row ts => .tup [.str "row", .tup (ents ts)]
  | .pick k t => .tup [.str "pick", .int k, ent t]
  | .again ts => .tup [.str "again", .tup (ents ts)]
  | .held n t => .tup [.str "held", .str n, ent t]
  | .price n t => .tup [.str "price", .int n, ent t]
noncomputable def ents : List Tr → List PV
  | [] => []
  | t :: ts => ent t :: ents ts
end
theorem ents_map : ∀ ts : List Tr, ents ts = ts.map ent
  | [] => rfl
  | t :: ts => by show ent t :: ents ts = _; rw [ents_map ts]; rfl
theorem ents_append (ts us : List Tr) : ents (ts ++ us) = ents ts ++ ents us := by rw [ents_map, ents_map, ents_map, List.map_append]
theorem ents_reverse (ts : List Tr) : ents ts.reverse = (ents ts).reverse := by rw [ents_map, ents_map, List.map_reverse]
theorem ents_length (ts : List Tr) : (ents ts).length = ts.length := by rw [ents_map, List.length_map]
theorem ents_at {ps : List Tr} {i : Nat} {x : PV} (h : (ents ps)[i]? = some x) : ∃ c, ps[i]? = some c ∧ x = ent c := by
  rw [ents_map, List.getElem?_map] at h
  cases e : ps[i]? with
  | none => rw [e] at h; cases h
  | some c => rw [e] at h; exact ⟨c, rfl, (Option.some.inj h).symm⟩
noncomputable def tinn : Tr → List Tr
  | .row ts => ts
  | .again ts => ts
  | .pick _ t => [t]
  | .held _ t => [t]
  | .price _ t => [t]
  | _ => []
mutual
noncomputable def tsz : Tr → Nat
  | .row ts => 1 + tszs ts
  | .again ts => 1 + tszs ts
  | .pick _ t => 1 + tsz t
  | .held _ t => 1 + tsz t
  | .price _ t => 1 + tsz t
  | _ => 1
noncomputable def tszs : List Tr → Nat
  | [] => 0
  | t :: ts => tsz t + tszs ts
end
mutual
noncomputable def tdp : Tr → Nat
  | .row ts => 1 + tdps ts
  | .again ts => 1 + tdps ts
  | .pick _ t => 1 + tdp t
  | .held _ t => 1 + tdp t
  | .price _ t => 1 + tdp t
  | _ => 1
noncomputable def tdps : List Tr → Nat
  | [] => 0
  | t :: ts => max (tdp t) (tdps ts)
end
theorem tsz_inn (t : Tr) : tsz t = 1 + tszs (tinn t) := by cases t <;> simp [tsz, tinn, tszs]
theorem tdp_inn (t : Tr) : tdp t = 1 + tdps (tinn t) := by cases t <;> simp [tdp, tinn, tdps]
theorem tsz_pos (t : Tr) : 0 < tsz t := by rw [tsz_inn]; omega
theorem tszs_append (ts us : List Tr) : tszs (ts ++ us) = tszs ts + tszs us := by
  induction ts with
  | nil => simp [tszs]
  | cons p ps ih => simp [tszs, ih]; omega
theorem tszs_len : ∀ ts : List Tr, ts.length ≤ tszs ts
  | [] => Nat.zero_le _
  | t :: ts => by
    have := tszs_len ts
    have := tsz_pos t
    simp [tszs]; omega
theorem tsz_mem : ∀ {ts : List Tr} {c : Tr}, c ∈ ts → tsz c ≤ tszs ts
  | p :: ps, c, h => by
    rcases List.mem_cons.mp h with rfl | h
    · simp only [tszs]; omega
    · have := tsz_mem h; simp only [tszs]; omega
theorem tdp_mem : ∀ {ts : List Tr} {c : Tr}, c ∈ ts → tdp c ≤ tdps ts
  | p :: ps, c, h => by
    rcases List.mem_cons.mp h with rfl | h
    · simp only [tdps]; omega
    · have := tdp_mem h; simp only [tdps]; omega
theorem tdps_le {n : Nat} : ∀ {ts : List Tr}, (∀ c ∈ ts, tdp c ≤ n) → tdps ts ≤ n
  | [], _ => Nat.zero_le _
  | p :: ps, h => by
    simp only [tdps]
    exact Nat.max_le.mpr ⟨h p (by simp), tdps_le fun c hc => h c (by simp [hc])⟩
mutual
noncomputable def tin : Tr → List Tr
  | .row ts => .row ts :: tins ts
  | .again ts => .again ts :: tins ts
  | .pick k t => .pick k t :: tin t
  | .held n t => .held n t :: tin t
  | .price n t => .price n t :: tin t
  | t => [t]
noncomputable def tins : List Tr → List Tr
  | [] => []
  | t :: ts => tin t ++ tins ts
end
theorem tin_inn (t : Tr) : tin t = t :: tins (tinn t) := by cases t <;> simp [tin, tinn, tins]
theorem tins_append (ps qs : List Tr) : tins (ps ++ qs) = tins ps ++ tins qs := by
  induction ps with
  | nil => simp [tins]
  | cons p ps ih => simp [tins, ih]
theorem tin_len : ∀ (n : Nat) (t : Tr), tsz t ≤ n → (tin t).length = tsz t
  | 0, t, h => by have := tsz_pos t; omega
  | n + 1, t, h => by
    have key : ∀ ts : List Tr, tszs ts ≤ n → (tins ts).length = tszs ts := by
      intro ts
      induction ts with
      | nil => intro _; rfl
      | cons a l ih =>
        intro h
        simp only [tszs] at h ⊢
        simp only [tins, List.length_append]
        rw [tin_len n a (by omega), ih (by omega)]
    have e := tsz_inn t
    rw [tin_inn, List.length_cons, key _ (by omega)]
    omega
noncomputable def wt1 : Tr → Prop
  | .sign s => s.length = 1
  | .held n _ => n.length ≤ 100
  | _ => True
noncomputable abbrev wt (t : Tr) : Prop := ∀ c ∈ tin t, wt1 c
theorem tins_mem : ∀ {ts : List Tr} {c : Tr}, c ∈ tins ts ↔ ∃ t ∈ ts, c ∈ tin t
  | [], c => by simp [tins]
  | p :: ps, c => by
    show c ∈ tin p ++ tins ps ↔ _
    rw [List.mem_append, tins_mem (ts := ps)]
    simp
theorem wt_inn {t c : Tr} (h : wt t) (hc : c ∈ tinn t) : wt c := fun d hd => h d (by
  rw [tin_inn]; exact List.mem_cons.mpr (.inr (tins_mem.mpr ⟨c, hc, hd⟩)))
theorem wt_of {t : Tr} (h : wt1 t) (hi : ∀ c ∈ tinn t, wt c) : wt t := fun d hd => by
  rw [tin_inn] at hd
  rcases List.mem_cons.mp hd with rfl | hd
  · exact h
  · obtain ⟨c, hc, hd⟩ := tins_mem.mp hd
    exact hi c hc d hd
noncomputable def sgO : Tr → Option Str
  | .sign s => some s
  | _ => none
noncomputable def tcsL (l : List Tr) : List Nat := ((l.filterMap sgO).map fun z => z.cps.toList).flatten
noncomputable abbrev tcs (t : Tr) : List Nat := tcsL (tin t)
noncomputable abbrev tln (t : Tr) : Nat := (tcs t).length
theorem tcsL_append (a b : List Tr) : tcsL (a ++ b) = tcsL a ++ tcsL b := by unfold tcsL; rw [List.filterMap_append, List.map_append, List.flatten_append]
theorem tcs_sign (s : Str) : tcs (.sign s) = s.cps.toList := by simp [tcs, tcsL, tin, sgO]
theorem tcs_inn {t : Tr} (h : sgO t = none) : tcs t = tcsL (tins (tinn t)) := by
  unfold tcs
  rw [tin_inn]
  unfold tcsL
  rw [List.filterMap_cons, h]
theorem tcs_cons (t : Tr) (ts : List Tr) : tcsL (tins (t :: ts)) = tcs t ++ tcsL (tins ts) := tcsL_append _ _
noncomputable def tx (t : Tr) : Str := ⟨(tcs t).toArray⟩
theorem tx_cps (t : Tr) : (tx t).cps.toList = tcs t := rfl
theorem join_str (zs : List Str) : Txt.join (Str.ofString "") zs = ⟨((zs.map fun z => z.cps.toList).flatten).toArray⟩ := by
  have h := joinE_cps zs
  generalize Txt.join (Str.ofString "") zs = y at h
  obtain ⟨⟨l⟩⟩ := y
  have h' : l = _ := h
  rw [h']
theorem tln_len (t : Tr) : (tx t).length = tln t := by simp [tx, Str.length]
theorem tcsL_le : ∀ {l : List Tr}, (∀ c ∈ l, wt1 c) → (tcsL l).length ≤ l.length
  | [], _ => Nat.zero_le _
  | c :: l, h => by
    have ih := tcsL_le (l := l) fun d hd => h d (by simp [hd])
    have e : tcsL (c :: l) = tcsL [c] ++ tcsL l := tcsL_append [c] l
    rw [e, List.length_append, List.length_cons]
    have : (tcsL [c]).length ≤ 1 := by
      cases c with
      | sign s =>
        have hs : s.length = 1 := h (.sign s) (by simp)
        have e1 : s.cps.toList.length = s.length := by simp [Str.length]
        simp only [tcsL, sgO, List.filterMap_cons, List.filterMap_nil, List.map_cons, List.map_nil, List.flatten_cons, List.flatten_nil, List.append_nil]
        omega
      | _ => exact Nat.zero_le 1
    omega
theorem tln_le {t : Tr} (h : wt t) : tln t ≤ tsz t := by
  have := tcsL_le h
  rw [tin_len _ t (Nat.le_refl _)] at this
  exact this
mutual
theorem ent_pure : ∀ (p : Tr) (n : Nat), 2 * tdp p ≤ n → pureP n (ent p) = true
  | .blank, n, h => by
    simp [tdp] at h
    obtain ⟨n, rfl⟩ : ∃ m, n = m + 1 := ⟨n - 1, by omega⟩
    simp [ent, pureP, pureL]
  | .sign s, n, h => by
    simp [tdp] at h
    obtain ⟨n, rfl⟩ : ∃ m, n = m + 1 := ⟨n - 1, by omega⟩
    simp [ent, pureP, pureL]
  | .row ps, n, h => by
    simp [tdp] at h
    obtain ⟨n, rfl⟩ : ∃ m, n = m + 2 := ⟨n - 2, by omega⟩
    simp [ent, pureP, pureL, ents_pure ps n (by omega)]
  | .again ps, n, h => by
    simp [tdp] at h
    obtain ⟨n, rfl⟩ : ∃ m, n = m + 2 := ⟨n - 2, by omega⟩
    simp [ent, pureP, pureL, ents_pure ps n (by omega)]
  | .pick s p, n, h => by
    simp [tdp] at h
    obtain ⟨n, rfl⟩ : ∃ m, n = m + 1 := ⟨n - 1, by omega⟩
    simp [ent, pureP, pureL, ent_pure p n (by omega)]
  | .held s p, n, h => by
    simp [tdp] at h
    obtain ⟨n, rfl⟩ : ∃ m, n = m + 1 := ⟨n - 1, by omega⟩
    simp [ent, pureP, pureL, ent_pure p n (by omega)]
  | .price s p, n, h => by
    simp [tdp] at h
    obtain ⟨n, rfl⟩ : ∃ m, n = m + 1 := ⟨n - 1, by omega⟩
    simp [ent, pureP, pureL, ent_pure p n (by omega)]
theorem ents_pure : ∀ (ps : List Tr) (n : Nat), 2 * tdps ps ≤ n → pureL n (ents ps) = true
  | [], n, h => by simp [ents, pureL]
  | p :: ps, n, h => by
    simp [tdps] at h
    simp [ents, pureL, ent_pure p n (by omega), ents_pure ps n (by omega)]
end
end L3
namespace L3
open PySem L2
section
variable {X : Cx} {a b e : Expr} {es : List Expr} {ta tb : E2} {t : A2} {p pos : Pos}
theorem jc_sortedS (B : BN X.mg) (hc : X.calm = true) (ha : JA X (e :: es) t) (hg : Gl X "sorted" := by rfl) (he : starEach (e :: es) X.env = (false, eval e X.env) :: starEach es X.env := by rfl) (hpl : (backTo pos (starEach es X.env)).any (·.1) = false := by rfl) : JE X (.Call (.Name "sorted" p) (e :: es) [] pos) (eCl sortedS2 t) := j_callB (c_sortedS hc) B.sorted boot_sorted ha hg (by decide) (by decide) he hpl
theorem jt_inNone (hu : X.A.units + 200 < cLine) (ha : JE X a ta) (hb : JE X b tb) (hm : behindInMarks .In b = false) : JT X (.Compare a [.In] [b] pos) (tBl (eOp inNone2 ta tb)) := jt_cmp (o_inNone hu) ha hb hm
end
end L3
namespace L2
open PySem PySem.Spec PyProof.Rows
section
variable {X : Cx} {scope : Scope} {M : List Str} {ix : List (Option Nat)} {j : Nat} {x : Str}
end
end L2
namespace L3
open PySem L2
section
variable {X : Cx}
end
end L3
namespace L3
open PySem L2
section
variable {prog : Program} {w : World} {A : Around} {E : Value → Shared → Prop} {s : Shared}
theorem nextOf_tuple_item {it l : Addr} {i : Nat} {items : Array Value} {x : Value} {Q : Value → Shared → Prop} (hit : s.heap.IsTupleIter it l i)
    (hl : s.heap.IsTuple l items) (hx : items[i]? = some x)
    (hQ : ∀ h' : Heap, h'.IsTupleIter it l (i + 1) → Heap.SameBut it s.heap h' → Q x { s with heap := h' }) :
    wpAny (model prog w) A (Builtin.SmallTypes.nextOf (.ref it)) Q E s := by
  obtain ⟨o, ho, hc, hd⟩ := id hit
  obtain ⟨ol, hol, _, nl, hdl⟩ := hl
  unfold Builtin.SmallTypes.nextOf
  refine wpAny_bind (wpAny_callSpecial?_slot (name := Str.ofString "__next__") hit.typeIs F.slot_tuple_iterator_next
    (wpAny_call_entry F.slot_tuple_iterator_next hit.typeIs F.entry_tuple_iterator_next ?_ (F.args_tuple_iterator_next_1 _)))
  show wpAny _ _ (field (.ref it) 0 >>= _) _ _ s
  refine wpAny_bind (wpAny_field ho hd (x := .ref l) rfl ?_)
  show wpAny _ _ (if (Value.ref l == Value.none) = true then _ else _) _ _ s
  rw [if_neg (show ¬ ((Value.ref l == Value.none) = true) from Bool.false_ne_true)]
  show wpAny _ _ (field (.ref it) 1 >>= _) _ _ s
  refine wpAny_bind (wpAny_field ho hd (x := .int i 0) rfl ?_)
  show wpAny _ _ (seqItems? (.ref l) >>= _) _ _ s
  refine wpAny_bind (wpAny_seqItems hol hdl ?_)
  simp only [Int.toNat_natCast, hx]
  refine wpAny_bind (wpAny_setField ho hd (by simp) (wpAny_pure ⟨x, rfl, wpAny_pure (hQ _ ?_ (Heap.SameBut.update ..))⟩))
  exact ⟨_, Heap.get?_update_self _ ho (Obj.isFreed_of_fields (Obj.data_mapFields hd _)), (Obj.cls_mapFields ..).trans hc, by
    rw [Obj.data_mapFields hd]; simp [rawInt]⟩
theorem nextOf_tuple_end {it l : Addr} {i : Nat} {items : Array Value} {Q : Value → Shared → Prop} (hh : A.handled = none)
    (hit : s.heap.IsTupleIter it l i) (hl : s.heap.IsTuple l items) (hx : items[i]? = none)
    (hE : ∀ (h' : Heap) (e : Addr), Heap.ExtBut it s.heap h' → (∃ o, h'.get? e = some o ∧ o.cls = .type "StopIteration") → E (.ref e) { s with heap := h' }) :
    wpAny (model prog w) A (Builtin.SmallTypes.nextOf (.ref it)) Q E s := by
  obtain ⟨o, ho, hc, hd⟩ := id hit
  obtain ⟨ol, hol, _, nl, hdl⟩ := hl
  unfold Builtin.SmallTypes.nextOf
  refine wpAny_bind (wpAny_callSpecial?_slot (name := Str.ofString "__next__") hit.typeIs F.slot_tuple_iterator_next
    (wpAny_call_entry F.slot_tuple_iterator_next hit.typeIs F.entry_tuple_iterator_next ?_ (F.args_tuple_iterator_next_1 _)))
  show wpAny _ _ (field (.ref it) 0 >>= _) _ _ s
  refine wpAny_bind (wpAny_field ho hd (x := .ref l) rfl ?_)
  show wpAny _ _ (if (Value.ref l == Value.none) = true then _ else _) _ _ s
  rw [if_neg (show ¬ ((Value.ref l == Value.none) = true) from Bool.false_ne_true)]
  show wpAny _ _ (field (.ref it) 1 >>= _) _ _ s
  refine wpAny_bind (wpAny_field ho hd (x := .int i 0) rfl ?_)
  show wpAny _ _ (seqItems? (.ref l) >>= _) _ _ s
  refine wpAny_bind (wpAny_seqItems hol hdl ?_)
  simp only [Int.toNat_natCast, hx]
  refine wpAny_bind (wpAny_rule (wpAny_bind (wpAny_setField ho hd (by simp) ?_)))
  show wpAny _ _ (newExc (.type "StopIteration") [] >>= _) _ _ _
  refine wpAny_bind ?_
  simp only [newExc, newTuple]
  refine wpAny_bind (wpAny_newObj_type ?_ (by size_fits))
  refine wpAny_bind (m := firstArgMember _ _) (wpAny_of_eq (a := Value.none) (by first | rfl | (simp only [firstArgMember]; rfl)) ?_)
  refine wpAny_newObj_type ?_ (by size_fits)
  simp only [raiseNew]
  refine wpAny_bind (wpAny_handled ?_)
  first | rw [show A.in1.handled = none from hh] | rw [hh]
  refine wpAny_bind (wpAny_pure (wpAny_throw ?_))
  exact hE _ _ (((Heap.SameBut.update ..).extBut.push _).push _) ⟨_, Heap.get?_push_size _ rfl, rfl⟩
end
theorem zipT_item {prog : Program} {w : World} {A : Around} {E : Value → Shared → Prop} {s : Shared} {z TI TO i1 i2 l1 l2 : Addr} {k : Nat} {xs ys : Array Value} {c1 c2 : Value} {a b : Value} {Q : Value → Shared → Prop}
    (d : [z, TI, TO, i1, i2].Nodup) (hz : IsZip s.heap z TI TO .none) (hTI : IsPair s.heap TI (.ref i1) (.ref i2)) (hTO : IsPair s.heap TO a b)
    (h1 : s.heap.IsTupleIter i1 l1 k) (h2 : s.heap.IsTupleIter i2 l2 k) (t1 : s.heap.IsTuple l1 xs) (t2 : s.heap.IsTuple l2 ys) (n1 : l1 ∉ [z, TI, TO, i1, i2]) (n2 : l2 ∉ [z, TI, TO, i1, i2]) (hx : xs[k]? = some c1) (hy : ys[k]? = some c2)
    (hQ : ∀ h' : Heap, IsZip h' z TI TO (rawInt ↑s.heap.objs.size) → (∃ a b, IsPair h' TO a b) → h'.IsTupleIter i1 l1 (k + 1) → h'.IsTupleIter i2 l2 (k + 1) →
      IsPair h' s.heap.objs.size c1 c2 → h'.objs.size = s.heap.objs.size + 1 →
      (∀ c o, c ≠ z → c ≠ TO → c ≠ i1 → c ≠ i2 → s.heap.get? c = some o → h'.get? c = some o) → Q (.ref s.heap.objs.size) { s with heap := h' }) :
    wpAny (model prog w) A (Builtin.«zip.__next__» { pos := [.ref z] }) (fun fin s' => ∃ v, fin = Fin.done (Flow.ret v) ∧ Q v s') E s := by
  simp only [List.nodup_cons, List.mem_cons, List.not_mem_nil, or_false, not_or] at d n1 n2
  obtain ⟨⟨zTI, zTO, z1, z2⟩, ⟨TITO, TI1, TI2⟩, ⟨TO1, TO2⟩, i12, _⟩ := d
  obtain ⟨lz1, _, lO1, l11, l12⟩ := n1
  obtain ⟨lz2, _, lO2, l21, l22⟩ := n2
  refine wpAny_bind (show wpAny _ _ (pure (Value.ref z, ([] : List Value))) _ _ _ from wpAny_pure ?_)
  refine wpAny_bind (wpAny_field hz rfl rfl ?_)
  refine wpAny_bind (wpAny_field hz rfl rfl ?_)
  refine wpAny_bind (wpAny_seqItems hTI rfl ?_)
  refine wpAny_bind (wpAny_bind (wpAny_field hz rfl rfl (wpAny_pure ?_)))
  simp only [if_true]
  refine wpAny_bind (wpAny_rule (wpAny_bind (wpAny_field hz rfl rfl ?_)))
  refine wpAny_bind (wpAny_setField_rec hz (by simp) fun h₁ hz₁ hs₁ => ?_)
  have hz1 : IsZip h₁ z TI TO .ellipsis := hz₁
  refine wpAny_bind ?_
  simp only [List.zipIdx_cons, List.zipIdx_nil, List.forIn_cons, List.forIn_nil]
  refine wpAny_bind (wpAny_bind (wpAny_onRaise ?_))
  change wpAny _ _ (bind (Builtin.SmallTypes.nextOf (Value.ref i1)) fun x => pure (some x)) _ _ _
  refine wpAny_bind (nextOf_tuple_item (h1.extBut hs₁.extBut (Ne.symm z1)) (t1.extBut hs₁.extBut lz1) hx fun h₂ j2 sb2 => wpAny_pure ?_)
  have hTO2 : IsPair h₂ TO a b := sb2.extBut _ _ TO1 (hs₁.extBut _ _ (Ne.symm zTO) hTO)
  refine wpAny_bind (wpAny_seqItems hTO2 rfl (wpAny_bind (wpAny_updateSeq_pair hTO2 fun h₃ p3 sb3 => wpAny_bind (wpAny_letGo (wpAny_pure ?_)))))
  refine wpAny_bind (wpAny_bind (wpAny_onRaise ?_))
  change wpAny _ _ (bind (Builtin.SmallTypes.nextOf (Value.ref i2)) fun x => pure (some x)) _ _ _
  have k2 : h₃.IsTupleIter i2 l2 k := ((h2.extBut hs₁.extBut (Ne.symm z2)).extBut sb2.extBut (Ne.symm i12)).extBut sb3.extBut (Ne.symm TO2)
  have t2' : h₃.IsTuple l2 ys := ((t2.extBut hs₁.extBut lz2).extBut sb2.extBut l21).extBut sb3.extBut lO2
  refine wpAny_bind (nextOf_tuple_item k2 t2' hy fun h₄ j4 sb4 => wpAny_pure ?_)
  have hTO4 : IsPair h₄ TO c1 b := sb4.extBut _ _ TO2 p3
  refine wpAny_bind (wpAny_seqItems hTO4 rfl (wpAny_bind (wpAny_updateSeq_pair hTO4 fun h₅ p5 sb5 => wpAny_bind (wpAny_letGo (wpAny_pure (wpAny_pure ?_))))))
  have hTO5 : IsPair h₅ TO c1 c2 := p5
  refine wpAny_bind (wpAny_seqItems hTO5 rfl (wpAny_bind (wpAny_newTuple ?_)))
  have sz5 : h₅.objs.size = s.heap.objs.size := by rw [sb5.1, sb4.1, sb3.1, sb2.1, hs₁.1]
  have hz5 : IsZip h₅ z TI TO .ellipsis := sb5.extBut _ _ zTO (sb4.extBut _ _ z2 (sb3.extBut _ _ zTO (sb2.extBut _ _ z1 hz1)))
  rw [sz5]
  have zl : z < s.heap.objs.size := Heap.lt_size hz
  refine wpAny_bind (wpAny_bind (wpAny_setField_rec (s := { s with heap := h₅.push _ }) (Heap.get?_push_of_some _ hz5) (by simp) fun h₆ hz6 sb6 => ?_))
  refine wpAny_setField_rec hz6 (by simp) fun h₇ hz7 sb7 => wpAny_pure ⟨_, rfl, ?_⟩
  have up : ∀ c o, c ≠ z → h₅.get? c = some o → h₇.get? c = some o := fun c o n e => sb7.extBut _ _ n (sb6.extBut _ _ n (Heap.get?_push_of_some _ e))
  have j1 : h₅.IsTupleIter i1 l1 (k + 1) := ((j2.extBut sb3.extBut (Ne.symm TO1)).extBut sb4.extBut i12).extBut sb5.extBut (Ne.symm TO1)
  have j2' : h₅.IsTupleIter i2 l2 (k + 1) := j4.extBut sb5.extBut (Ne.symm TO2)
  refine hQ h₇ hz7 ⟨_, _, up _ _ (Ne.symm zTO) hTO5⟩ (j1.extBut (fun c o n e => up c o n e) (Ne.symm z1)) (j2'.extBut (fun c o n e => up c o n e) (Ne.symm z2)) ?_ ?_ ?_
  · refine sb7.extBut _ _ (Nat.ne_of_gt zl) (sb6.extBut _ _ (Nat.ne_of_gt zl) ?_)
    rw [← sz5]
    exact Heap.get?_push_size _ rfl
  · rw [sb7.1, sb6.1, Heap.size_push, sz5]
  · intro c o n1 n2 n3 n4 e
    exact up c o n1 (sb5.extBut _ _ n2 (sb4.extBut _ _ n4 (sb3.extBut _ _ n2 (sb2.extBut _ _ n3 (hs₁.extBut _ _ n1 e)))))
theorem zipT_end {prog : Program} {w : World} {A : Around} {E : Value → Shared → Prop} {s : Shared} {z TI TO i1 i2 l1 : Addr} {k : Nat} {xs : Array Value} {a b : Value} {Q : Fin → Shared → Prop}
    (hh : A.handled = none) (d : [z, TI, TO, i1, i2].Nodup) (hz : IsZip s.heap z TI TO .none) (hTI : IsPair s.heap TI (.ref i1) (.ref i2)) (hTO : IsPair s.heap TO a b)
    (h1 : s.heap.IsTupleIter i1 l1 k) (t1 : s.heap.IsTuple l1 xs) (n1 : l1 ∉ [z, TI, TO, i1, i2]) (hx : xs[k]? = none)
    (hE : ∀ (h' : Heap) (e : Addr), (∀ c o, c ≠ z → c ≠ TO → c ≠ i1 → c ≠ i2 → s.heap.get? c = some o → h'.get? c = some o) → (∃ o, h'.get? e = some o ∧ o.cls = .type "StopIteration") → E (.ref e) { s with heap := h' }) :
    wpAny (model prog w) A (Builtin.«zip.__next__» { pos := [.ref z] }) Q E s := by
  simp only [List.nodup_cons, List.mem_cons, List.not_mem_nil, or_false, not_or] at d n1
  obtain ⟨⟨zTI, zTO, z1, z2⟩, ⟨TITO, TI1, TI2⟩, ⟨TO1, TO2⟩, i12, _⟩ := d
  obtain ⟨lz1, _, lO1, l11, l12⟩ := n1
  refine wpAny_bind (show wpAny _ _ (pure (Value.ref z, ([] : List Value))) _ _ _ from wpAny_pure ?_)
  refine wpAny_bind (wpAny_field hz rfl rfl ?_)
  refine wpAny_bind (wpAny_field hz rfl rfl ?_)
  refine wpAny_bind (wpAny_seqItems hTI rfl ?_)
  refine wpAny_bind (wpAny_bind (wpAny_field hz rfl rfl (wpAny_pure ?_)))
  simp only [if_true]
  refine wpAny_bind (wpAny_rule (wpAny_bind (wpAny_field hz rfl rfl ?_)))
  refine wpAny_bind (wpAny_setField_rec hz (by simp) fun h₁ hz₁ hs₁ => ?_)
  have hz1 : IsZip h₁ z TI TO .ellipsis := hz₁
  refine wpAny_bind ?_
  simp only [List.zipIdx_cons, List.zipIdx_nil, List.forIn_cons, List.forIn_nil]
  refine wpAny_bind (wpAny_bind (wpAny_onRaise ?_))
  change wpAny _ _ (bind (Builtin.SmallTypes.nextOf (Value.ref i1)) fun x => pure (some x)) _ _ _
  refine wpAny_bind (nextOf_tuple_end hh (h1.extBut hs₁.extBut (Ne.symm z1)) (t1.extBut hs₁.extBut lz1) hx fun h₄ e sb4 he => ?_)
  have hz4 : IsZip h₄ z TI TO .ellipsis := sb4 _ _ z1 hz1
  obtain ⟨o, ho, hc⟩ := he
  refine wpAny_setField_rec hz4 (by simp) fun h₅ hz5 sb5 => hE h₅ e (fun c u n1 n2 n3 n4 q => ?_) ⟨o, sb5.extBut _ _ (fun q => ?_) ho, hc⟩
  · exact sb5.extBut _ _ n1 (sb4 _ _ n3 (hs₁.extBut _ _ n1 q))
  · subst q
    rw [show h₄.get? e = _ from hz4] at ho
    cases ho
    exact absurd (Value.type.inj hc) (by decide)
theorem nextZipT_item {prog : Program} {w : World} {A : Around} {E : Value → Shared → Prop} {s : Shared} {z TI TO i1 i2 l1 l2 : Addr} {k : Nat} {xs ys : Array Value} {c1 c2 : Value} {a b : Value} {Q : Option Value → Shared → Prop}
    (d : [z, TI, TO, i1, i2].Nodup) (hz : IsZip s.heap z TI TO .none) (hTI : IsPair s.heap TI (.ref i1) (.ref i2)) (hTO : IsPair s.heap TO a b)
    (h1 : s.heap.IsTupleIter i1 l1 k) (h2 : s.heap.IsTupleIter i2 l2 k) (t1 : s.heap.IsTuple l1 xs) (t2 : s.heap.IsTuple l2 ys) (n1 : l1 ∉ [z, TI, TO, i1, i2]) (n2 : l2 ∉ [z, TI, TO, i1, i2]) (hx : xs[k]? = some c1) (hy : ys[k]? = some c2)
    (hQ : ∀ h' : Heap, IsZip h' z TI TO (rawInt ↑s.heap.objs.size) → (∃ a b, IsPair h' TO a b) → h'.IsTupleIter i1 l1 (k + 1) → h'.IsTupleIter i2 l2 (k + 1) →
      IsPair h' s.heap.objs.size c1 c2 → h'.objs.size = s.heap.objs.size + 1 →
      (∀ c o, c ≠ z → c ≠ TO → c ≠ i1 → c ≠ i2 → s.heap.get? c = some o → h'.get? c = some o) → Q (some (.ref s.heap.objs.size)) { s with heap := h' }) :
    wpAny (model prog w) A (pyNext (.ref z)) Q E s := by
  have hT : s.TypeIs (.ref z) "zip" := ⟨_, hz, rfl⟩
  exact wpAny_bind (wpAny_attempt (wpAny_callSpecial?_slot hT F.slot_zip_next (wpAny_call_entry F.slot_zip_next hT F.entry_zip_next
    (zipT_item d hz hTI hTO h1 h2 t1 t2 n1 n2 hx hy fun h' a1 a2 a3 a4 a5 a6 a7 => wpAny_pure (hQ h' a1 a2 a3 a4 a5 a6 a7)) (F.args_zip_next_1 (Value.ref z)))))
theorem nextZipT_end {prog : Program} {w : World} {A : Around} {E : Value → Shared → Prop} {s : Shared} {z TI TO i1 i2 l1 : Addr} {k : Nat} {xs : Array Value} {a b : Value} {Q : Option Value → Shared → Prop}
    (hh : A.handled = none) (d : [z, TI, TO, i1, i2].Nodup) (hz : IsZip s.heap z TI TO .none) (hTI : IsPair s.heap TI (.ref i1) (.ref i2)) (hTO : IsPair s.heap TO a b)
    (h1 : s.heap.IsTupleIter i1 l1 k) (t1 : s.heap.IsTuple l1 xs) (n1 : l1 ∉ [z, TI, TO, i1, i2]) (hx : xs[k]? = none)
    (hQ : ∀ h' : Heap, (∀ c o, c ≠ z → c ≠ TO → c ≠ i1 → c ≠ i2 → s.heap.get? c = some o → h'.get? c = some o) → Q none { s with heap := h' }) :
    wpAny (model prog w) A (pyNext (.ref z)) Q E s := by
  have hT : s.TypeIs (.ref z) "zip" := ⟨_, hz, rfl⟩
  exact wpAny_bind (wpAny_attempt (wpAny_callSpecial?_slot hT F.slot_zip_next (wpAny_call_entry F.slot_zip_next hT F.entry_zip_next
    (zipT_end hh d hz hTI hTO h1 t1 n1 hx fun h' e hk ⟨o, ho, hc⟩ => wpAny_bind (wpAny_isInstance ⟨o, ho, hc⟩ isSubtype_stop (wpAny_pure (hQ h' hk)))) (F.args_zip_next_1 (Value.ref z)))))
theorem zipT_new (l1 l2 : Addr) :
    Meets (Builtin.«zip.__new__» { pos := [.type "zip", .ref l1, .ref l2] }) fun A R s =>
      (∃ xs ys, s.heap.IsTuple l1 xs ∧ s.heap.IsTuple l2 ys) ∧
      ∀ h' : Heap, IsZip h' (s.heap.objs.size + 4) (s.heap.objs.size + 2) (s.heap.objs.size + 3) .none → IsPair h' (s.heap.objs.size + 2) (.ref s.heap.objs.size) (.ref (s.heap.objs.size + 1)) → IsPair h' (s.heap.objs.size + 3) .none .none →
        h'.IsTupleIter s.heap.objs.size l1 0 → h'.IsTupleIter (s.heap.objs.size + 1) l2 0 → h'.objs.size = s.heap.objs.size + 5 → (∀ c o, s.heap.get? c = some o → h'.get? c = some o) →
        R (.ok (.ret (.ref (s.heap.objs.size + 4)))) { s with heap := h' } := by
  refine Meets.of_wp fun prog w A R s h => ?_
  obtain ⟨⟨xs, ys, t1, t2⟩, h⟩ := h
  refine wpAny_bind (wpAny_bind (show wpAny _ _ (pure _) _ _ _ from wpAny_pure ?_))
  refine wpAny_ite_false rfl (wpAny_bind (wpAny_of_eq sub_zip (wpAny_ite_false rfl (wpAny_pure (wpAny_ite_false rfl ?_)))))
  refine wpAny_bind (wpAny_bind ?_)
  refine wpAny_bind (wpAny_bind (wpAny_holding (wpAny_pyIter_tuple t1 (wpAny_pure ?_))))
  refine wpAny_bind (wpAny_bind (wpAny_holding (wpAny_pyIter_tuple (t2.push _) (wpAny_pure ?_))))
  refine wpAny_pure (wpAny_pure ?_)
  refine wpAny_bind (wpAny_newTuple ?_ (show 2 ≤ sizeLine by decide))
  refine wpAny_bind (wpAny_newTuple ?_ (show 2 ≤ sizeLine by decide))
  refine wpAny_bind (newRec ?_ (show 5 ≤ sizeLine + 2 by decide))
  have z1 := Heap.size_push s.heap { cls := Value.type "tuple_iterator", data := Data.fields #[Value.ref l1, Value.int 0 0] }
  generalize e1 : s.heap.push { cls := Value.type "tuple_iterator", data := Data.fields #[Value.ref l1, Value.int 0 0] } = g1 at *
  have z2 := Heap.size_push g1 { cls := Value.type "tuple_iterator", data := Data.fields #[Value.ref l2, Value.int 0 0] }
  have p1 : g1.get? s.heap.objs.size = some { cls := Value.type "tuple_iterator", data := Data.fields #[Value.ref l1, Value.int 0 0] } := by rw [← e1]; exact Heap.get?_push_size _ rfl
  have q1 : ∀ c o, s.heap.get? c = some o → g1.get? c = some o := fun c o q => by rw [← e1]; exact Heap.get?_push_of_some _ q
  have p2 := Heap.get?_push_size g1 (o := { cls := Value.type "tuple_iterator", data := Data.fields #[Value.ref l2, Value.int 0 0] }) rfl
  have q2 : ∀ c o, g1.get? c = some o → (g1.push { cls := Value.type "tuple_iterator", data := Data.fields #[Value.ref l2, Value.int 0 0] }).get? c = some o := fun c o q => Heap.get?_push_of_some _ q
  generalize g1.push { cls := Value.type "tuple_iterator", data := Data.fields #[Value.ref l2, Value.int 0 0] } = g2 at *
  rw [z1] at z2 p2
  refine wpAny_pure ⟨_, rfl, ?_⟩
  have z3 := Heap.size_push g2 { cls := Value.type "tuple", data := Data.seq #[Value.ref s.heap.objs.size, Value.ref g1.objs.size] }
  have p3 := Heap.get?_push_size g2 (o := { cls := Value.type "tuple", data := Data.seq #[Value.ref s.heap.objs.size, Value.ref g1.objs.size] }) rfl
  have q3 : ∀ c o, g2.get? c = some o → (g2.push { cls := Value.type "tuple", data := Data.seq #[Value.ref s.heap.objs.size, Value.ref g1.objs.size] }).get? c = some o := fun c o q => Heap.get?_push_of_some _ q
  show R (Except.ok (Flow.ret (Value.ref ((g2.push { cls := Value.type "tuple", data := Data.seq #[Value.ref s.heap.objs.size, Value.ref g1.objs.size] }).push { cls := Value.type "tuple", data := Data.seq #[Value.none, Value.none] }).objs.size))) { s with heap := (((g2.push { cls := Value.type "tuple", data := Data.seq #[Value.ref s.heap.objs.size, Value.ref g1.objs.size] }).push { cls := Value.type "tuple", data := Data.seq #[Value.none, Value.none] }).push { cls := Value.type "zip", data := Data.fields #[Value.none, Value.bool false, Value.bool false, Value.ref g2.objs.size, Value.ref (g2.push { cls := Value.type "tuple", data := Data.seq #[Value.ref s.heap.objs.size, Value.ref g1.objs.size] }).objs.size] }) }
  generalize g2.push { cls := Value.type "tuple", data := Data.seq #[Value.ref s.heap.objs.size, Value.ref g1.objs.size] } = g3 at *
  have z4 := Heap.size_push g3 { cls := Value.type "tuple", data := Data.seq #[Value.none, Value.none] }
  have p4 := Heap.get?_push_size g3 (o := { cls := Value.type "tuple", data := Data.seq #[Value.none, Value.none] }) rfl
  have q4 : ∀ c o, g3.get? c = some o → (g3.push { cls := Value.type "tuple", data := Data.seq #[Value.none, Value.none] }).get? c = some o := fun c o q => Heap.get?_push_of_some _ q
  generalize g3.push { cls := Value.type "tuple", data := Data.seq #[Value.none, Value.none] } = g4 at *
  have s2 : g2.objs.size = s.heap.objs.size + 2 := z2
  have s3 : g3.objs.size = s.heap.objs.size + 3 := by rw [z3, s2]
  have s4 : g4.objs.size = s.heap.objs.size + 4 := by rw [z4, s3]
  rw [s2, s3, s4]
  have z5 := Heap.size_push g4 { cls := Value.type "zip", data := Data.fields #[Value.none, Value.bool false, Value.bool false, Value.ref (s.heap.objs.size + 2), Value.ref (s.heap.objs.size + 3)] }
  have p5 := Heap.get?_push_size g4 (o := { cls := Value.type "zip", data := Data.fields #[Value.none, Value.bool false, Value.bool false, Value.ref (s.heap.objs.size + 2), Value.ref (s.heap.objs.size + 3)] }) rfl
  have q5 : ∀ c o, g4.get? c = some o → (g4.push { cls := Value.type "zip", data := Data.fields #[Value.none, Value.bool false, Value.bool false, Value.ref (s.heap.objs.size + 2), Value.ref (s.heap.objs.size + 3)] }).get? c = some o := fun c o q => Heap.get?_push_of_some _ q
  rw [s4] at z5 p5
  rw [s3] at p4
  rw [s2, z1] at p3
  exact h _ p5 (q5 _ _ (q4 _ _ p3)) (q5 _ _ p4) ⟨_, q5 _ _ (q4 _ _ (q3 _ _ (q2 _ _ p1))), rfl, rfl⟩ ⟨_, q5 _ _ (q4 _ _ (q3 _ _ p2)), rfl, rfl⟩ z5 fun c o q => q5 _ _ (q4 _ _ (q3 _ _ (q2 _ _ (q1 _ _ q))))
theorem call_zipT {prog : Program} {w : World} {A : Around} {E : Value → Shared → Prop} {s : Shared} {l1 l2 : Addr} {xs ys : Array Value} {Q : Value → Shared → Prop} (t1 : s.heap.IsTuple l1 xs) (t2 : s.heap.IsTuple l2 ys)
    (h : ∀ h' : Heap, IsZip h' (s.heap.objs.size + 4) (s.heap.objs.size + 2) (s.heap.objs.size + 3) .none → IsPair h' (s.heap.objs.size + 2) (.ref s.heap.objs.size) (.ref (s.heap.objs.size + 1)) → IsPair h' (s.heap.objs.size + 3) .none .none →
        h'.IsTupleIter s.heap.objs.size l1 0 → h'.IsTupleIter (s.heap.objs.size + 1) l2 0 → h'.objs.size = s.heap.objs.size + 5 → (∀ c o, s.heap.get? c = some o → h'.get? c = some o) →
        Q (.ref (s.heap.objs.size + 4)) { s with heap := h' }) :
    wpAny (model prog w) A (call (.type "zip") [.ref l1, .ref l2]) Q E s :=
  callType_new F.called_zip (by decide) (F.typeCall_zip_2 _ _) (F.newCall_zip_2 _ _) (fun obj => F.args_object_init_3 obj _ _) F.entry_zip_new (zipT_new l1 l2)
    ⟨⟨xs, ys, t1, t2⟩, fun h' a1 a2 a3 a4 a5 a6 a7 => ⟨⟨_, a1, rfl⟩, h h' a1 a2 a3 a4 a5 a6 a7⟩⟩
end L3
namespace L3
open PySem L2
noncomputable def Itzt (K : PySem.W.Frag) (a1 a2 : Addr) : It :=
  ⟨fun i H => ∃ xs ys x y, SqT K H a1 xs ∧ SqT K H a2 ys ∧ xs[i]? = some x ∧ ys[i]? = some y,
   fun i H v H' => ∃ p, H p = none ∧ v = .ref p ∧ ∀ xs ys, SqT K H a1 xs → SqT K H a2 ys → ∃ x y, xs[i]? = some x ∧ ys[i]? = some y ∧ H' = upd H p (.tup [x, y]),
   fun i H => ∃ xs, SqT K H a1 xs ∧ xs.length ≤ i⟩
theorem turn_zipT {P : Program} {w : World} {K : PySem.W.Frag} {elts : List Expr} {x1 : Nat} {pos : Pos} {a1 a2 : Addr} {z TI TO i1 i2 : Addr} (d : [z, TI, TO, i1, i2].Nodup) (n1 : a1 ∉ [z, TI, TO, i1, i2]) (n2 : a2 ∉ [z, TI, TO, i1, i2]) :
    Turn P w K (.Tuple elts x1 pos) (Itzt K a1 a2) [z, TI, TO, i1, i2] z (fun i h => IsZip h z TI TO .none ∧ IsPair h TI (.ref i1) (.ref i2) ∧ (∃ a b, IsPair h TO a b) ∧ h.IsTupleIter i1 a1 i ∧ h.IsTupleIter i2 a2 i) where
  mem := by simp
  obj := fun i h st b hb => by
    obtain ⟨hz, hTI, ⟨a, c, hTO⟩, ⟨o1, e1, _, d1⟩, ⟨o2, e2, _, d2⟩⟩ := st
    have hb' : b = z ∨ b = TI ∨ b = TO ∨ b = i1 ∨ b = i2 := by simpa using hb
    rcases hb' with rfl | rfl | rfl | rfl | rfl
    · exact ⟨_, hz, fun v q => by cases (show Data.fields _ = Data.cell v from q)⟩
    · exact ⟨_, hTI, fun v q => by cases (show Data.seq _ _ = Data.cell v from q)⟩
    · exact ⟨_, hTO, fun v q => by cases (show Data.seq _ _ = Data.cell v from q)⟩
    · exact ⟨o1, e1, fun v q => by rw [d1] at q; cases q⟩
    · exact ⟨o2, e2, fun v q => by rw [d2] at q; cases q⟩
  keep := fun i h h' st k => by
    obtain ⟨hz, hTI, ⟨a, c, hTO⟩, ⟨o1, e1, c1, d1⟩, ⟨o2, e2, c2, d2⟩⟩ := st
    exact ⟨k z (by simp) _ hz, k TI (by simp) _ hTI, ⟨a, c, k TO (by simp) _ hTO⟩, ⟨o1, k i1 (by simp) o1 e1, c1, d1⟩, ⟨o2, k i2 (by simp) o2 e2, c2, d2⟩⟩
  item := by
    intro X hP hw hK hc i pins s σ H E I hf st hg
    subst hP hw hK
    obtain ⟨hz, hTI, ⟨a, b, hTO⟩, h1, h2⟩ := st
    obtain ⟨xs, ys, x, y, sq1, sq2, hx, hy⟩ := hg
    obtain ⟨us1, rv1, p1, _⟩ := I.tuple sq1
    obtain ⟨us2, rv2, p2, _⟩ := I.tuple sq2
    obtain ⟨u, hu, ru⟩ := rv1.get hx
    obtain ⟨v, hv, rv⟩ := rv2.get hy
    have lts : ∀ b ∈ [z, TI, TO, i1, i2], b < s.heap.objs.size := fun b hb => by
      have hb' : b = z ∨ b = TI ∨ b = TO ∨ b = i1 ∨ b = i2 := by simpa using hb
      rcases hb' with rfl | rfl | rfl | rfl | rfl
      · exact Heap.lt_size hz
      · exact Heap.lt_size hTI
      · exact Heap.lt_size hTO
      · obtain ⟨o, e, _⟩ := h1; exact Heap.lt_size e
      · obtain ⟨o, e, _⟩ := h2; exact Heap.lt_size e
    refine nextZipT_item d hz hTI hTO h1 h2 (show s.heap.IsTuple a1 us1.toArray from p1) (show s.heap.IsTuple a2 us2.toArray from p2) n1 n2 (c1 := u) (c2 := v) (by simpa using hu) (by simpa using hv) fun g1 gz gTO gi1 gi2 gT gsz gk => ?_
    refine ⟨_, rfl, wpAny_letOwnedTupleGo_zip gz fun g2 hz2 hs2 => ?_⟩
    replace hs2 : Heap.SameBut z g1 g2 := hs2
    have hpn : H s.heap.objs.size = none := I.hok.fresh (Nat.le_refl _)
    have k2 : ∀ b o, b ∉ [z, TI, TO, i1, i2] → s.heap.get? b = some o → g2.get? b = some o := fun b o n q => by
      simp only [List.mem_cons, List.not_mem_nil, or_false, not_or] at n
      exact hs2.extBut b o n.1 (gk b o n.1 n.2.2.1 n.2.2.2.1 n.2.2.2.2 q)
    have hTI2 : IsPair g2 TI (.ref i1) (.ref i2) := by
      simp only [List.nodup_cons, List.mem_cons, List.not_mem_nil, or_false, not_or] at d
      exact hs2.extBut _ _ (Ne.symm d.1.1) (gk _ _ (Ne.symm d.1.1) d.2.1.1 d.2.1.2.1 d.2.1.2.2 hTI)
    have ht2 : g2.get? s.heap.objs.size = some { cls := .type "tuple", data := .seq #[u, v] } := hs2.extBut _ _ (Nat.ne_of_gt (lts z (by simp))) gT
    have ne1 : ∀ b o, H b = some o → b ∉ [z, TI, TO, i1, i2] := fun b o q hb => by rw [(hf b hb).1] at q; cases q
    have lt : ∀ b o, s.heap.get? b = some o → b ≠ s.heap.objs.size := fun b o q => Nat.ne_of_lt (Heap.lt_size q)
    have hok : HOk X.prog X.w (upd H s.heap.objs.size (.tup [x, y])) g2 := fun b o q => by
      by_cases hb : b = s.heap.objs.size
      · subst hb
        rw [upd_same] at q
        cases q
        refine ⟨(by show 2 ≤ sizeLine; decide), [u, v], .cons ru (.cons rv .nil), ⟨_, ht2, rfl, _, rfl⟩⟩
      · rw [upd_ne hb] at q
        refine (I.hok b o q).stay (fun c v hc' z => ?_) (fun c z => by rw [upd_ne (ne_of_none z hpn)]; exact z) fun c xs z => by rw [upd_ne (ne_of_none z hpn)]; exact z
        refine k2 c v ?_ z
        rcases hc' with rfl | hc'
        · exact ne1 _ _ q
        · exact ne1 _ _ hc'
    have un : Un (frs X.stack) [z, TI, TO, i1, i2] H (upd H s.heap.objs.size (.tup [x, y])) s.heap g2 := by
      refine ⟨fun b o q _ _ hb => k2 b o hb q, fun b o q _ _ hb => ⟨o.slots, k2 b o hb q⟩, fun b o q n _ => by rw [upd_ne (lt b o q)]; exact n,
        fun b o q hb => ⟨o, k2 b o hb q⟩, fun b xs q => by rw [upd_ne (ne_of_none q hpn)]; exact q, fun b o xs q => by rw [upd_ne (ne_of_none q hpn)]; exact q, fun b ps q => ⟨#[], by rw [upd_ne (ne_of_none q hpn), q]; simp⟩⟩
    have I2 : Inv X pins σ (upd H s.heap.objs.size (.tup [x, y])) { s with heap := g2 } := I.call' (s' := { s with heap := g2 }) rfl un hok I.bare fun b hb => by
      have q := hf b hb
      exact ⟨q.2.2.2.1, q.2.1, q.2.2.2.2.1, q.2.2.2.2.2⟩
    obtain ⟨a', b', gTO⟩ := gTO
    have d' := d
    simp only [List.nodup_cons, List.mem_cons, List.not_mem_nil, or_false, not_or] at d'
    refine ⟨.ref s.heap.objs.size, _, I2, rfl, ⟨s.heap.objs.size, hpn, rfl, fun xs' ys' h1 h2 => ⟨x, y, by rw [I.tuple_inj h1 sq1]; exact hx, by rw [I.tuple_inj h2 sq2]; exact hy, rfl⟩⟩, ⟨hz2, hTI2, ⟨_, _, hs2.extBut _ _ (Ne.symm d'.1.2.1) gTO⟩, gi1.extBut hs2.extBut (Ne.symm d'.1.2.2.1), gi2.extBut hs2.extBut (Ne.symm d'.1.2.2.2)⟩, fun b hb => ?_⟩
    rw [upd_ne (Nat.ne_of_lt (lts b hb))]
    exact (hf b hb).1
  done := by
    intro X hP hw hK hc i pins s σ H E I hf st hg
    subst hP hw hK
    obtain ⟨hz, hTI, ⟨a, b, hTO⟩, h1, h2⟩ := st
    obtain ⟨xs, sq1, hx⟩ := hg
    obtain ⟨us1, rv1, p1, _⟩ := I.tuple sq1
    have hl := rv1.length
    refine nextZipT_end (I.ok.hd hc) d hz hTI hTO h1 (show s.heap.IsTuple a1 us1.toArray from p1) n1 (by simp; omega) fun g2 gk => ⟨rfl, ?_⟩
    have k2 : ∀ b o, b ∉ [z, TI, TO, i1, i2] → s.heap.get? b = some o → g2.get? b = some o := fun b o n q => by
      simp only [List.mem_cons, List.not_mem_nil, or_false, not_or] at n
      exact gk b o n.1 n.2.2.1 n.2.2.2.1 n.2.2.2.2 q
    have ne1 : ∀ b o, H b = some o → b ∉ [z, TI, TO, i1, i2] := fun b o q hb => by rw [(hf b hb).1] at q; cases q
    have hok : HOk X.prog X.w H g2 := fun b o q => by
      refine (I.hok b o q).stay (fun c v hc' z => ?_) (fun c z => z) fun c xs z => z
      refine k2 c v ?_ z
      rcases hc' with rfl | hc'
      · exact ne1 _ _ q
      · exact ne1 _ _ hc'
    have un : Un (frs X.stack) [z, TI, TO, i1, i2] H H s.heap g2 := by
      refine ⟨fun b o q _ _ hb => k2 b o hb q, fun b o q _ _ hb => ⟨o.slots, k2 b o hb q⟩, fun b o q n _ => n,
        fun b o q hb => ⟨o, k2 b o hb q⟩, fun b xs q => q, fun b o xs q => q, fun b ps q => ⟨#[], by rw [q]; simp⟩⟩
    exact I.call' (s' := { s with heap := g2 }) rfl un hok I.bare fun b hb => by
      have q := hf b hb
      exact ⟨q.2.2.2.1, q.2.1, q.2.2.2.2.1, q.2.2.2.2.2⟩
  self := fun _ _ _ _ _ st h => wpAny_pyIter_zip st.1 h
noncomputable def iZipT (K : PySem.W.Frag) (ta : TA) : TI := fun σ H R => ta σ H fun vs H1 => ∃ a b xs ys, vs = [.ref a, .ref b] ∧ SqT K H1 a xs ∧ SqT K H1 b ys ∧ R (Itzt K a b) H1
theorem pi_zipT {X : Cx} {a b : Expr} {ta : TA} {p pos : Pos} {elts : List Expr} {x1 : Nat} {tp : Pos} (hg : Gl X "zip") (hm : X.mg "zip" = none) (ha : PA X [a, b] ta) (hs : starEach [a, b] X.env = (false, eval a X.env) :: starEach [b] X.env := by rfl) (hpl : ((backTo pos (starEach [b] X.env)).any fun x => x.fst) = false := by rfl) :
    PI X (.Tuple elts x1 tp) (.Call (.Name "zip" p) [a, b] [] pos) (iZipT X.K ta) := by
  intro pins s σ H R I h
  refine wpAny_Call_Name_kw (ld_blt (u := .type "zip") I hg hm (by decide +kernel) ?_)
  refine PyProof.Rows.callWith_type1 (thn (ha pos pins s σ H _ I h) fun us s1 ⟨vs, H1, I1, r1, q1⟩ => ?_) hs hpl
  obtain ⟨a, b, xs, ys, rfl, sq1, sq2, q⟩ := q1
  obtain ⟨u, v, rfl, r, r'⟩ := r1.two
  cases r
  cases r'
  obtain ⟨us1, rv1, p1, _⟩ := I1.tuple sq1
  obtain ⟨us2, rv2, p2, _⟩ := I1.tuple sq2
  have l1 : a < s1.heap.objs.size := by obtain ⟨o, e, _⟩ := (show s1.heap.IsTuple a us1.toArray from p1); exact Heap.lt_size e
  have l2 : b < s1.heap.objs.size := by obtain ⟨o, e, _⟩ := (show s1.heap.IsTuple b us2.toArray from p2); exact Heap.lt_size e
  refine call_zipT (show s1.heap.IsTuple a us1.toArray from p1) (show s1.heap.IsTuple b us2.toArray from p2) fun h' hz hTI hTO hi1 hi2 hz' hk => ?_
  refine wpAny_pyIter_zip hz ?_
  have nin : ∀ c, c < s1.heap.objs.size → c ∉ [s1.heap.objs.size + 4, s1.heap.objs.size + 2, s1.heap.objs.size + 3, s1.heap.objs.size, s1.heap.objs.size + 1] := fun c hc => by
    simp only [List.mem_cons, List.not_mem_nil, or_false, not_or]
    refine ⟨?_, ?_, ?_, ?_, ?_⟩ <;> exact Nat.ne_of_lt (by omega)
  refine ⟨s1.heap.objs.size + 4, [s1.heap.objs.size + 4, s1.heap.objs.size + 2, s1.heap.objs.size + 3, s1.heap.objs.size, s1.heap.objs.size + 1], _, _, H1, rfl, I1.kept (t' := s1.toks) fun b o e => hk b o e, turn_zipT ?_ (nin a l1) (nin b l2), ⟨hz, hTI, ⟨_, _, hTO⟩, hi1, hi2⟩, fun b hb => ?_, q⟩
  · exact nd5 s1.heap.objs.size
  · have hle : s1.heap.objs.size ≤ b := by
      have hb' : b = s1.heap.objs.size + 4 ∨ b = s1.heap.objs.size + 2 ∨ b = s1.heap.objs.size + 3 ∨ b = s1.heap.objs.size ∨ b = s1.heap.objs.size + 1 := by simpa using hb
      rcases hb' with rfl | rfl | rfl | rfl | rfl <;> first | exact Nat.le_add_right _ _ | exact Nat.le_refl _
    exact I1.fpOk hle (I1.hok.fresh hle)
noncomputable def pairsP : List PV → List PV → List PV
  | x :: xs, y :: ys => .tup [x, y] :: pairsP xs ys
  | _, _ => []
theorem pairsP_length : ∀ {xs ys : List PV}, xs.length = ys.length → (pairsP xs ys).length = xs.length
  | [], [], _ => rfl
  | x :: xs, y :: ys, h => by
    show (pairsP xs ys).length + 1 = xs.length + 1
    rw [pairsP_length (by simpa using h)]
theorem pairsP_at : ∀ {xs ys : List PV} {i : Nat} {x y : PV}, xs[i]? = some x → ys[i]? = some y → (pairsP xs ys)[i]? = some (.tup [x, y])
  | a :: xs, b :: ys, 0, x, y, h, g => by
    cases h; cases g; rfl
  | a :: xs, b :: ys, i + 1, x, y, h, g => by
    show (pairsP xs ys)[i]? = _
    exact pairsP_at (by simpa using h) (by simpa using g)
theorem pairsP_mem : ∀ {xs ys : List PV} {i : Nat} {p : PV}, (pairsP xs ys)[i]? = some p → ∃ x y, p = .tup [x, y] ∧ xs[i]? = some x ∧ ys[i]? = some y
  | a :: xs, b :: ys, 0, p, h => by cases h; exact ⟨a, b, rfl, rfl, rfl⟩
  | a :: xs, b :: ys, i + 1, p, h => pairsP_mem (xs := xs) (ys := ys) (i := i) h
  | [], ys, i, p, h => by simp [pairsP] at h
  | a :: xs, [], i, p, h => by simp [pairsP] at h
theorem it_zipT {K : PySem.W.Frag} {H1 : Hp} {a b : Addr} {us vs : List V} {xs ys : List PV} (s1 : SqT K H1 a us) (s2 : SqT K H1 b vs) (d1 : Dvs K H1 xs us) (d2 : Dvs K H1 ys vs) (hl : xs.length = ys.length) : ItOk K H1 (Itzt K a b) (pairsP xs ys) (fun _ => True) := fun i H G k r _ => by
  have q1 := k.1 _ _ s1
  have q2 := k.1 _ _ s2
  have e1 := d1.keep k
  have e2 := d2.keep k
  have hpl := pairsP_length hl
  refine ⟨fun hi => ?_, fun hi => ⟨us, q1, by rw [d1.length]; omega⟩, fun v H' hi h => ?_⟩
  · rw [hpl] at hi
    obtain ⟨u, hu, _⟩ := e1.at (List.getElem?_eq_getElem hi)
    obtain ⟨v, hv, _⟩ := e2.at (List.getElem?_eq_getElem (show i < ys.length by omega))
    exact ⟨us, vs, u, v, q1, q2, hu, hv⟩
  · obtain ⟨p, hp, rfl, h⟩ := h
    obtain ⟨u, v, hu, hv, rfl⟩ := h us vs q1 q2
    obtain ⟨x, hx, dx⟩ := e1.get hu
    obtain ⟨y, hy, dy⟩ := e2.get hv
    have kn : Keep K H (upd H p (.tup [u, v])) := keep_new hp
    exact ⟨.tup [x, y], pairsP_at hx hy, kn, r.tup hp, p, _, rfl, .of upd_same, .cons (dx.keep kn) (.cons (dy.keep kn) .nil)⟩
noncomputable abbrev itZT (t : A2) : TI2 := fun τ G R => t τ G fun ps G1 => match ps with
  | [.tup xs, .tup ys] => xs.length = ys.length ∧ R (pairsP xs ys) (fun _ => True) G1
  | _ => False
theorem ji_zipT {X : Cx} {a b : Expr} {ta : A2} {p pos tp : Pos} {elts : List Expr} {x1 : Nat} (hm : X.mg "zip" = none) (ha : JA X [a, b] ta) (hg : Gl X "zip" := by rfl) (hs : starEach [a, b] X.env = (false, eval a X.env) :: starEach [b] X.env := by rfl) (hpl : ((backTo pos (starEach [b] X.env)).any fun x => x.fst) = false := by rfl) :
    JI X (.Tuple elts x1 tp) (.Call (.Name "zip" p) [a, b] [] pos) (itZT ta) := .of (pi_zipT hg hm ha.h hs hpl) fun σ H R ⟨τ, G, R2, rs, rp, h, cl⟩ => by
  refine ⟨τ, G, _, rs, rp, h, fun ps G1 vs H1 q d r k => ?_⟩
  split at q
  · rename_i xs ys
    obtain ⟨v, vr, rfl, d1, u, vr2, rfl, d2, d3⟩ := d
    obtain rfl : vr2 = [] := d3
    obtain ⟨a, us, rfl, s1, e1⟩ := d1
    obtain ⟨b, vs, rfl, s2, e2⟩ := d2
    obtain ⟨hl, q⟩ := q
    exact ⟨a, b, us, vs, rfl, s1, s2, cl _ _ _ _ _ q r k (it_zipT s1 s2 e1 e2 hl)⟩
  · exact q.elim
section
variable {X : Cx} {a b c : Expr} {ta tb tc : E2} {pos : Pos}
theorem jk_lelt (ha : JE X a ta) (hb : JE X b tb) (hc : JE X c tc) (hm : lastMarks [.LtE, .Lt] [b, c] = false := by with_unfolding_all rfl) : JE X (.Compare a [.LtE, .Lt] [b, c] pos) (eChain le2 lt2 ta tb tc) := j_chain o_le o_lt ha hb hc hm
theorem jt_lelt (ha : JE X a ta) (hb : JE X b tb) (hc : JE X c tc) (hm : lastMarks [.LtE, .Lt] [b, c] = false := by with_unfolding_all rfl) : JT X (.Compare a [.LtE, .Lt] [b, c] pos) (tBl (eChain le2 lt2 ta tb tc)) := jt_chain o_le o_lt ha hb hc hm
end
end L3
namespace L3
open PySem L2
section
variable {K : PySem.W.Frag} {H : Hp}
end
section
variable {X : Cx} {d e : Expr} {td te : E2} {pos p : Pos}
end
end L3
namespace L3
open PySem L2
section
variable {X : Cx} {p : Pos}
end
end L3
namespace L3
open PySem L2
noncomputable def addE2 : B2 := fun p q G Q => match p, q with
  | .tup [], .tup ys => Q (.tup ys) G
  | p, q => add2 p q G Q
theorem addET_i {xs ys : List PV} {G : Gp} {Q : K2} (hl : xs.length + ys.length ≤ 1000000) (q : Q (.tup (xs ++ ys)) G) : addE2 (.tup xs) (.tup ys) G Q := by
  cases xs with
  | nil => exact q
  | cons x xs => exact ⟨by simp, hl, q⟩
theorem addES_i {x y : Str} {G : Gp} {Q : K2} (hl : x.length + y.length ≤ 1000000) (q : Q (.str (x ++ y)) G) : addE2 (.str x) (.str y) G Q := ⟨hl, q⟩
section
variable {X : Cx} {a b : Expr} {ta tb : E2} {pos : Pos}
theorem o_addE : OpR X (binaryOp .Add) (lowB X.K addE2) := by
  intro pins s σ H x y v u Q I rx ry h
  obtain ⟨p, q, G, Q2, d1, d2, rp, h, cl⟩ := h
  unfold addE2 at h
  split at h
  · rename_i ys
    obtain ⟨a, vs, rfl, sa, da⟩ := d1
    obtain ⟨b, us, rfl, sb, db⟩ := d2
    obtain rfl : vs = [] := da
    cases rx
    cases ry
    obtain ⟨its, r1, p1, _⟩ := I.tuple sa
    obtain ⟨its2, r2, p2, _⟩ := I.tuple sb
    obtain rfl : its = [] := r1.nil_iff.mpr rfl
    obtain ⟨⟨cls, dd, data, sl⟩, ho, hc, n, hd⟩ := id p1
    obtain ⟨⟨cls2, dd2, data2, sl2⟩, ho2, hc2, n2, hd2⟩ := id p2
    simp only at hc hd hc2 hd2
    subst hc hd hc2 hd2
    exact PySem.concat_meets ⟨_, ho, rfl⟩ ⟨_, ho2, rfl⟩ PySem.noFill_tuple_add PySem.seq_tuple_add PySem.F.slot_tuple_add PySem.F.entry_tuple_add (PySem.F.args_tuple_add_2 _ _)
      (PyProof.Rows.tuple_addW0 a b _ _ n n2 dd dd2 sl sl2 rfl) ⟨ho, ho2, .ref b, H, I, rfl, cl _ _ _ _ h ⟨b, us, rfl, sb, db⟩ rp .refl⟩
  · exact o_add pins s σ H x y v u Q I rx ry ⟨p, q, G, Q2, d1, d2, rp, h, cl⟩
theorem jb_addE (ha : JE X a ta) (hb : JE X b tb) : JE X (.BinOp a .Add b pos) (eOp addE2 ta tb) := j_op o_addE ha hb
end
end L3
namespace L3
open PySem L2
noncomputable def baseS : List Nat := (Str.ofString "abc []\\|~x.0").cps.toList
noncomputable def oS (s : Str) : Prop := ∀ c ∈ s.cps.toList, c ∈ baseS
mutual
noncomputable def wq : Pt → Prop
  | .none => True
  | .blank => True
  | .sign s => 1 ≤ s.length ∧ s.length ≤ 6 ∧ oS s
  | .row ps => 2 ≤ ps.length ∧ ps.length ≤ 6 ∧ wqs ps
  | .pick ps => 2 ≤ ps.length ∧ ps.length ≤ 6 ∧ wqs ps
  | .again p => canB p = false ∧ wq p
  | .held n p => (n.length ≤ 100 ∧ asc n) ∧ wq p
  | .price n p => 0 ≤ n ∧ n ≤ 1000 ∧ wq p
noncomputable def wqs : List Pt → Prop
  | [] => True
  | p :: ps => wq p ∧ wqs ps
end
theorem wqs_mem : ∀ {ps : List Pt}, wqs ps ↔ ∀ p ∈ ps, wq p
  | [] => by simp [wqs]
  | p :: ps => by rw [wqs, wqs_mem (ps := ps)]; simp
theorem wq_inn {p c : Pt} (h : wq p) (hc : c ∈ inner p) : wq c := by
  cases p with
  | none => cases hc
  | blank => cases hc
  | sign s => cases hc
  | row ps => exact wqs_mem.mp h.2.2 c hc
  | pick ps => exact wqs_mem.mp h.2.2 c hc
  | again p => cases List.mem_singleton.mp hc; exact h.2
  | held n p => cases List.mem_singleton.mp hc; exact h.2
  | price n p => cases List.mem_singleton.mp hc; exact h.2.2
inductive Fit : Pt → Tr → Prop
  | blank : Fit .blank .blank
  | sign {s : Str} {c : Nat} (h : c ∈ s.cps.toList) : Fit (.sign s) (.sign ⟨#[c]⟩)
  | row {ps : List Pt} {ts : List Tr} (hl : ts.length = ps.length) (h : ∀ (i : Nat) (p : Pt) (t : Tr), ps[i]? = some p → ts[i]? = some t → Fit p t) : Fit (.row ps) (.row ts)
  | pick {ps : List Pt} {i : Nat} {p : Pt} {t : Tr} (hp : ps[i]? = some p) (h : Fit p t) : Fit (.pick ps) (.pick (i : Int) t)
  | again {p : Pt} {ts : List Tr} (h : ∀ t ∈ ts, Fit p t) : Fit (.again p) (.again ts)
  | held {n : Str} {p : Pt} {t : Tr} (h : Fit p t) : Fit (.held n p) (.held n t)
  | price {n : Int} {p : Pt} {t : Tr} (h : Fit p t) : Fit (.price n p) (.price n t)
noncomputable def FitL (ps : List Pt) (ts : List Tr) : Prop := ts.length = ps.length ∧ ∀ (i : Nat) (p : Pt) (t : Tr), ps[i]? = some p → ts[i]? = some t → Fit p t
theorem FitL.nil : FitL [] [] := ⟨rfl, fun i p t h => by simp at h⟩
theorem FitL.snoc {ps : List Pt} {ts : List Tr} {p : Pt} {t : Tr} (h : FitL ps ts) (f : Fit p t) : FitL (ps ++ [p]) (ts ++ [t]) := by
  refine ⟨by simp [h.1], fun i q u hq hu => ?_⟩
  by_cases hi : i < ps.length
  · rw [List.getElem?_append_left hi] at hq
    rw [List.getElem?_append_left (by rw [h.1]; exact hi)] at hu
    exact h.2 i q u hq hu
  · rw [List.getElem?_append_right (by omega)] at hq
    rw [List.getElem?_append_right (by rw [h.1]; omega), h.1] at hu
    by_cases h0 : i - ps.length = 0
    · rw [h0] at hq hu
      cases hq; cases hu
      exact f
    · obtain ⟨m, hm⟩ : ∃ m, i - ps.length = m + 1 := ⟨i - ps.length - 1, by omega⟩
      rw [hm] at hq
      simp at hq
theorem FitL.row {ps : List Pt} {ts : List Tr} (h : FitL ps ts) : Fit (.row ps) (.row ts) := .row h.1 h.2
@[reducible] noncomputable def it1 : PV → PV
  | .tup (_ :: y :: _) => y
  | _ => .non
@[reducible] noncomputable def it2 : PV → PV
  | .tup (_ :: _ :: y :: _) => y
  | _ => .non
noncomputable def kB (k : Str) (n : Nat) : PV → Bool
  | .tup xs => decide (xs.length = n) && (match xs with
    | y :: _ => deq y (.str k)
    | [] => false)
  | _ => false
noncomputable def sgB (s : Str) : PV → Bool
  | .str z => decide (z.length = 1) && !(Builtin.Str.occurrences s z 0 s.length 1).isEmpty
  | _ => false
theorem base_sig : ∀ c ∈ baseS, inS SIG (.str ⟨#[c]⟩) = true := by decide +kernel
theorem one_sign {z : Str} (h : z.length = 1) : ∃ c, z = ⟨#[c]⟩ := by
  obtain ⟨⟨l⟩⟩ := z
  have h' : l.length = 1 := h
  match l, h' with
  | [c], _ => exact ⟨c, rfl⟩
theorem sg_text {s z : Str} (hs : oS s) (h1 : z.length = 1) (h2 : (!(Builtin.Str.occurrences s z 0 s.length 1).isEmpty) = true) : textB z = true := by
  obtain ⟨c, rfl⟩ := one_sign h1
  rw [StrLaws.found_one] at h2
  have hc := hs c (of_decide_eq_true h2)
  unfold textB signsP
  rw [List.all_eq_true]
  intro x hx
  obtain ⟨d, hd, rfl⟩ := List.mem_map.mp hx
  have : d = c := List.mem_singleton.mp hd
  subst this
  exact base_sig d hc
mutual
noncomputable def isT' : Pt → PV → Bool
  | .none, _ => false
  | .blank, x => kB "blank" 1 x
  | .sign s, x => kB "sign" 2 x && sgB s (it1 x)
  | .row ps, x => kB "row" 2 x && (match it1 x with
    | .tup ys => isTs ps ys
    | _ => false)
  | .pick ps, x => kB "pick" 3 x && (match it1 x with
    | .int i => decide (0 ≤ i) && isTn ps i.toNat (it2 x)
    | _ => false)
  | .again p, x => kB "again" 2 x && (match it1 x with
    | .tup ys => ys.all (fun y => isT' p y)
    | _ => false)
  | .held n p, x => kB "held" 3 x && (deq (it1 x) (.str n) && isT' p (it2 x))
  | .price n p, x => kB "price" 3 x && (deq (it1 x) (.int n) && isT' p (it2 x))
noncomputable def isTs : List Pt → List PV → Bool
  | [], [] => true
  | p :: ps, x :: xs => isT' p x && isTs ps xs
  | _, _ => false
noncomputable def isTn : List Pt → Nat → PV → Bool
  | [], _, _ => false
  | p :: _, 0, y => isT' p y
  | _ :: ps, n + 1, y => isTn ps n y
end
theorem isTn_at : ∀ {ps : List Pt} {n : Nat} {y : PV}, isTn ps n y = (match ps[n]? with | some p => isT' p y | none => false)
  | [], n, y => by simp [isTn]
  | p :: ps, 0, y => by simp [isTn]
  | p :: ps, n + 1, y => by
    simp only [isTn, List.getElem?_cons_succ]
    exact isTn_at
theorem isTs_len : ∀ {ps : List Pt} {xs : List PV}, xs.length ≠ ps.length → isTs ps xs = false
  | [], [], h => absurd rfl h
  | p :: ps, x :: xs, h => by
    simp only [isTs]
    rw [isTs_len (ps := ps) (xs := xs) (fun e => h (by simp [e])), Bool.and_false]
  | [], _ :: _, _ => by simp [isTs]
  | _ :: _, [], _ => by simp [isTs]
end L3
namespace L3
open PySem L2
noncomputable def pl (L : Nat) : Nat → PV → Bool
  | _, .int _ => true
  | _, .str z => (z.cps.all fun x => decide (x < 128)) && decide (z.length ≤ 100 + L)
  | n + 1, .tup xs => decide (xs.length ≤ 100000 + L) && xs.all (pl L n)
  | _, _ => false
theorem pl_tup {L n : Nat} {xs : List PV} : pl L (n + 1) (.tup xs) = true ↔ xs.length ≤ 100000 + L ∧ ∀ x ∈ xs, pl L n x = true := by
  simp only [pl, Bool.and_eq_true, decide_eq_true_eq, List.all_eq_true]
theorem pl_mono : ∀ {n n' L L' : Nat} {x : PV}, n ≤ n' → L ≤ L' → pl L n x = true → pl L' n' x = true
  | n, n', L, L', .int i, _, _, _ => by cases n' <;> rfl
  | n, n', L, L', .str z, hn, hL, h => by
    have h' : ((z.cps.all fun x => decide (x < 128)) && decide (z.length ≤ 100 + L)) = true := by cases n <;> exact h
    have : ((z.cps.all fun x => decide (x < 128)) && decide (z.length ≤ 100 + L')) = true := by
      rw [Bool.and_eq_true] at h' ⊢
      refine ⟨h'.1, decide_eq_true ?_⟩
      have := of_decide_eq_true h'.2
      omega
    cases n' <;> exact this
  | 0, n', L, L', .tup xs, hn, hL, h => by cases h
  | n + 1, 0, L, L', .tup xs, hn, hL, h => by omega
  | n + 1, n' + 1, L, L', .tup xs, hn, hL, h => by
    rw [pl_tup] at h ⊢
    exact ⟨by omega, fun x hx => pl_mono (by omega) hL (h.2 x hx)⟩
  | n, n', L, L', .non, _, _, h => by cases n <;> cases h
  | n, n', L, L', .bl b, _, _, h => by cases n <;> cases h
  | n, n', L, L', .ref a, _, _, h => by cases n <;> cases h
  | n, n', L, L', .ty a, _, _, h => by cases n <;> cases h
  | n, n', L, L', .ro a, _, _, h => by cases n <;> cases h
theorem pl_mem {n L : Nat} {xs : List PV} {x : PV} (h : pl L n (.tup xs) = true) (hx : x ∈ xs) : pl L n x = true := by
  cases n with
  | zero => cases h
  | succ n => exact pl_mono (Nat.le_succ _) (Nat.le_refl _) ((pl_tup.mp h).2 x hx)
theorem pl_len {n L : Nat} {xs : List PV} (h : pl L n (.tup xs) = true) : xs.length ≤ 100000 + L := by
  cases n with
  | zero => cases h
  | succ n => exact (pl_tup.mp h).1
theorem pl_str {n L : Nat} {z : Str} : pl L n (.str z) = true ↔ asc z ∧ z.length ≤ 100 + L := by
  have e : pl L n (.str z) = ((z.cps.all fun x => decide (x < 128)) && decide (z.length ≤ 100 + L)) := by cases n <;> rfl
  rw [e, Bool.and_eq_true, decide_eq_true_eq]
  rfl
theorem pl_okV : ∀ {n L : Nat} {x : PV}, L ≤ 900 → pl L n x = true → okV x
  | n, L, .int i, _, _ => trivial
  | n, L, .str z, hL, h => by
    have := pl_str.mp h
    exact ⟨this.1, by omega⟩
  | 0, L, .tup xs, _, h => by cases h
  | n + 1, L, .tup xs, hL, h => okVs_mem.mpr fun x hx => pl_okV hL ((pl_tup.mp h).2 x hx)
  | n, L, .non, _, h => by cases n <;> cases h
  | n, L, .bl b, _, h => by cases n <;> cases h
  | n, L, .ref a, _, h => by cases n <;> cases h
  | n, L, .ty a, _, h => by cases n <;> cases h
  | n, L, .ro a, _, h => by cases n <;> cases h
theorem pureL_of {n : Nat} : ∀ {xs : List PV}, (∀ x ∈ xs, pureP n x = true) → pureL n xs = true
  | [], _ => rfl
  | x :: xs, h => by
    show (pureP n x && pureL n xs) = true
    rw [h x (by simp), pureL_of fun y hy => h y (by simp [hy])]
    rfl
theorem pl_pure : ∀ {n m L : Nat} {x : PV}, n ≤ m → pl L n x = true → pureP m x = true
  | n, m, L, .int i, _, _ => by cases m <;> rfl
  | n, m, L, .str z, _, _ => by cases m <;> rfl
  | 0, m, L, .tup xs, _, h => by cases h
  | n + 1, 0, L, .tup xs, hm, h => by omega
  | n + 1, m + 1, L, .tup xs, hm, h => by
    show pureL m xs = true
    exact pureL_of fun x hx => pl_pure (by omega) ((pl_tup.mp h).2 x hx)
  | n, m, L, .non, _, h => by cases n <;> cases h
  | n, m, L, .bl b, _, h => by cases n <;> cases h
  | n, m, L, .ref a, _, h => by cases n <;> cases h
  | n, m, L, .ty a, _, h => by cases n <;> cases h
  | n, m, L, .ro a, _, h => by cases n <;> cases h
noncomputable abbrev plV (x : PV) : Prop := pl 10 90 x = true
theorem plV.pure {x : PV} (h : plV x) : pureP 100 x = true := pl_pure (by decide) h
theorem plV.ok {x : PV} (h : plV x) : okV x := pl_okV (by decide) h
theorem plV.mem {xs : List PV} {x : PV} (h : plV (.tup xs)) (hx : x ∈ xs) : plV x := pl_mem h hx
noncomputable def isTi (ps : List Pt) (xs : List PV) (i : Nat) : Bool := match ps[i]?, xs[i]? with
  | some p, some x => isT' p x
  | _, _ => true
theorem isTs_range : ∀ {ps : List Pt} {xs : List PV}, xs.length = ps.length → isTs ps xs = ((List.range ps.length).map (isTi ps xs)).all id
  | [], [], _ => rfl
  | p :: ps, x :: xs, h => by
    have ih := isTs_range (ps := ps) (xs := xs) (by simpa using h)
    simp only [isTs]
    rw [ih, List.length_cons, List.range_succ_eq_map, List.map_cons, List.all_cons, List.map_map]
    rfl
  | [], _ :: _, h => by simp at h
  | _ :: _, [], h => by simp at h
theorem cGo2_ix {items : List PV} {c : Gp → Prop} {ix : List (Option Nat)} {j j2 : Nat} {τ : St2} {te : E2} {Q : K2} {G1 : Gp} {acc : Addr} (g : Nat → PV) (hz : items.length < 1000000)
    (hc : ∀ ys, c (up G1 acc (.lst ys))) (he : ∀ i x ys (R : K2), items[i]? = some x → R (g i) (up G1 acc (.lst ys)) → ∃ p q, x = .tup [p, q] ∧ te (L3.st (L3.st (cap2 ix τ) j (some p)) j2 (some q)) (up G1 acc (.lst ys)) R)
    (hq : Q (.ref acc) (up G1 acc (.lst ((List.range items.length).map g)))) : cGo2 items c ix j j2 τ tYes2 te Q G1 acc := by
  refine ⟨fun i ys G => ys = (List.range i).map g ∧ G = up G1 acc (.lst ys), ⟨by simp, rfl⟩, ?_, ?_, ?_⟩
  · rintro i ys G hi ⟨rfl, rfl⟩
    refine ⟨hc _, up_same, ?_⟩
    rw [List.length_map, List.length_range]
    omega
  · rintro i ys G x hx ⟨rfl, rfl⟩
    obtain ⟨p, q, rfl, hr⟩ := he i x ((List.range i).map g) (fun y G3 => y = g i ∧ G3 = up G1 acc (.lst ((List.range i).map g))) hx ⟨rfl, rfl⟩
    refine ⟨p, q, rfl, ifT rfl ?_⟩
    obtain ⟨p', q', e, hr⟩ := he i (.tup [p, q]) ((List.range i).map g) (fun y G3 => G3 acc = some (.lst ((List.range i).map g)) ∧ ((List.range i).map g ++ [y] = (List.range (i + 1)).map g ∧ up G3 acc (.lst ((List.range i).map g ++ [y])) = up G1 acc (.lst ((List.range i).map g ++ [y])))) hx ⟨up_same, by rw [List.range_succ, List.map_append]; rfl, up_up⟩
    cases e
    exact hr
  · rintro ys G ⟨rfl, rfl⟩
    exact hq
theorem cGo_ix {items : List PV} {c : Gp → Prop} {ix : List (Option Nat)} {j : Nat} {τ : St2} {te : E2} {Q : K2} {G1 : Gp} {acc : Addr} (g : Nat → PV) (hz : items.length < 1000000)
    (hc : ∀ ys, c (up G1 acc (.lst ys))) (he : ∀ i x ys (R : K2), items[i]? = some x → R (g i) (up G1 acc (.lst ys)) → te (L3.st (cap2 ix τ) j (some x)) (up G1 acc (.lst ys)) R)
    (hq : Q (.ref acc) (up G1 acc (.lst ((List.range items.length).map g)))) : cGo items c ix j τ tYes2 te Q G1 acc := by
  refine ⟨fun i ys G => ys = (List.range i).map g ∧ G = up G1 acc (.lst ys), ⟨by simp, rfl⟩, ?_, ?_, ?_⟩
  · rintro i ys G hi ⟨rfl, rfl⟩
    refine ⟨hc _, up_same, ?_⟩
    rw [List.length_map, List.length_range]
    omega
  · rintro i ys G x hx ⟨rfl, rfl⟩
    refine ifT rfl ?_
    refine he i x _ _ hx ⟨up_same, ?_, up_up⟩
    rw [List.range_succ, List.map_append]
    rfl
  · rintro ys G ⟨rfl, rfl⟩
    exact hq
end L3
namespace L3
open PySem L2
theorem base_asc : ∀ c ∈ baseS, c < 128 := by decide +kernel
theorem kB_one {k : Str} {n : Nat} {ys : List PV} (h : ys.length + 1 = n) : kB k n (.tup (.str k :: ys)) = true := by
  show (decide ((PV.str k :: ys).length = n) && (k == k)) = true
  rw [decide_eq_true (by rw [List.length_cons]; exact h)]
  simp
theorem pl_ent {p : Pt} {t : Tr} (h : Fit p t) : wq p → tsz t ≤ 100000 → pl 0 (2 * tdp t) (ent t) = true := by
  induction h with
  | blank => intro _ _; decide +kernel
  | @sign s c h =>
    intro hw _
    show pl 0 2 (.tup [.str "sign", .str ⟨#[c]⟩]) = true
    refine pl_tup.mpr ⟨by simp, fun x hx => ?_⟩
    rcases List.mem_cons.mp hx with rfl | hx
    · decide +kernel
    · cases List.mem_singleton.mp hx
      refine pl_str.mpr ⟨?_, by show 1 ≤ _; omega⟩
      have := base_asc c (hw.2.2 c h)
      show ((#[c] : Array Nat).all fun x => decide (x < 128)) = true
      simp [this]
  | @row ps ts hl h ih =>
    intro hw hz
    have hz' : 1 + tszs ts ≤ 100000 := hz
    have hle := tszs_len ts
    show pl 0 (2 * (1 + tdps ts)) (.tup [.str "row", .tup (ents ts)]) = true
    rw [show 2 * (1 + tdps ts) = (2 * tdps ts + 1) + 1 by omega]
    refine pl_tup.mpr ⟨by simp, fun x hx => ?_⟩
    rcases List.mem_cons.mp hx with rfl | hx
    · exact pl_str.mpr ⟨by unfold asc; decide +kernel, by decide +kernel⟩
    · cases List.mem_singleton.mp hx
      refine pl_tup.mpr ⟨by rw [ents_length]; omega, fun y hy => ?_⟩
      rw [ents_map] at hy
      obtain ⟨t, ht, rfl⟩ := List.mem_map.mp hy
      obtain ⟨i, hi⟩ := List.getElem?_of_mem ht
      have hil : i < ps.length := by rw [← hl]; exact (List.getElem?_eq_some_iff.mp hi).1
      have h1 := tsz_mem ht
      have h2 := tdp_mem ht
      exact pl_mono (by omega) (Nat.le_refl _) (ih i ps[i] t (List.getElem?_eq_getElem hil) hi (wqs_mem.mp hw.2.2 _ (List.getElem_mem hil)) (by omega))
  | @pick ps i p t hp h ih =>
    intro hw hz
    have hz' : 1 + tsz t ≤ 100000 := hz
    show pl 0 (2 * (1 + tdp t)) (.tup [.str "pick", .int i, ent t]) = true
    rw [show 2 * (1 + tdp t) = (2 * tdp t + 1) + 1 by omega]
    refine pl_tup.mpr ⟨by simp, fun x hx => ?_⟩
    rcases List.mem_cons.mp hx with rfl | hx
    · exact pl_str.mpr ⟨by unfold asc; decide +kernel, by decide +kernel⟩
    rcases List.mem_cons.mp hx with rfl | hx
    · rfl
    · cases List.mem_singleton.mp hx
      exact pl_mono (by omega) (Nat.le_refl _) (ih (wqs_mem.mp hw.2.2 p (List.mem_of_getElem? hp)) (by omega))
  | @again p ts h ih =>
    intro hw hz
    have hz' : 1 + tszs ts ≤ 100000 := hz
    have hle := tszs_len ts
    show pl 0 (2 * (1 + tdps ts)) (.tup [.str "again", .tup (ents ts)]) = true
    rw [show 2 * (1 + tdps ts) = (2 * tdps ts + 1) + 1 by omega]
    refine pl_tup.mpr ⟨by simp, fun x hx => ?_⟩
    rcases List.mem_cons.mp hx with rfl | hx
    · exact pl_str.mpr ⟨by unfold asc; decide +kernel, by decide +kernel⟩
    · cases List.mem_singleton.mp hx
      refine pl_tup.mpr ⟨by rw [ents_length]; omega, fun y hy => ?_⟩
      rw [ents_map] at hy
      obtain ⟨t, ht, rfl⟩ := List.mem_map.mp hy
      have h1 := tsz_mem ht
      have h2 := tdp_mem ht
      exact pl_mono (by omega) (Nat.le_refl _) (ih t ht hw.2 (by omega))
  | @held n p t h ih =>
    intro hw hz
    have hz' : 1 + tsz t ≤ 100000 := hz
    show pl 0 (2 * (1 + tdp t)) (.tup [.str "held", .str n, ent t]) = true
    rw [show 2 * (1 + tdp t) = (2 * tdp t + 1) + 1 by omega]
    refine pl_tup.mpr ⟨by simp, fun x hx => ?_⟩
    rcases List.mem_cons.mp hx with rfl | hx
    · exact pl_str.mpr ⟨by unfold asc; decide +kernel, by decide +kernel⟩
    rcases List.mem_cons.mp hx with rfl | hx
    · exact pl_str.mpr ⟨hw.1.2, by have := hw.1.1; omega⟩
    · cases List.mem_singleton.mp hx
      exact pl_mono (by omega) (Nat.le_refl _) (ih hw.2 (by omega))
  | @price n p t h ih =>
    intro hw hz
    have hz' : 1 + tsz t ≤ 100000 := hz
    show pl 0 (2 * (1 + tdp t)) (.tup [.str "price", .int n, ent t]) = true
    rw [show 2 * (1 + tdp t) = (2 * tdp t + 1) + 1 by omega]
    refine pl_tup.mpr ⟨by simp, fun x hx => ?_⟩
    rcases List.mem_cons.mp hx with rfl | hx
    · exact pl_str.mpr ⟨by unfold asc; decide +kernel, by decide +kernel⟩
    rcases List.mem_cons.mp hx with rfl | hx
    · rfl
    · cases List.mem_singleton.mp hx
      exact pl_mono (by omega) (Nat.le_refl _) (ih hw.2.2 (by omega))
theorem isTs_fit : ∀ {ps : List Pt} {ts : List Tr}, ts.length = ps.length → (∀ (i : Nat) (p : Pt) (t : Tr), ps[i]? = some p → ts[i]? = some t → isT' p (ent t) = true) → isTs ps (ents ts) = true
  | [], [], _, _ => rfl
  | p :: ps, t :: ts, hl, h => by
    show (isT' p (ent t) && isTs ps (ents ts)) = true
    rw [h 0 p t rfl rfl, isTs_fit (by simpa using hl) fun i q u hq hu => h (i + 1) q u (by simpa using hq) (by simpa using hu)]
    rfl
  | [], _ :: _, h, _ => by simp at h
  | _ :: _, [], h, _ => by simp at h
theorem kB_2 {k : Str} {y : PV} : kB k 2 (.tup [.str k, y]) = true := kB_one rfl
theorem kB_3 {k : Str} {y z : PV} : kB k 3 (.tup [.str k, y, z]) = true := kB_one rfl
theorem fit_isT {p : Pt} {t : Tr} (h : Fit p t) : isT' p (ent t) = true := by
  induction h with
  | blank => decide +kernel
  | @sign s c h =>
    show (kB "sign" 2 _ && sgB s (.str ⟨#[c]⟩)) = true
    rw [show ent (.sign ⟨#[c]⟩) = .tup [.str "sign", .str ⟨#[c]⟩] from rfl, kB_2, Bool.true_and]
    show (decide ((⟨#[c]⟩ : Str).length = 1) && !(Builtin.Str.occurrences s ⟨#[c]⟩ 0 s.length 1).isEmpty) = true
    rw [StrLaws.found_one, decide_eq_true h]
    rfl
  | @row ps ts hl h ih =>
    show (kB "row" 2 (.tup [.str "row", .tup (ents ts)]) && isTs ps (ents ts)) = true
    rw [kB_2, isTs_fit hl fun i p t hp ht => ih i p t hp ht]
    rfl
  | @pick ps i p t hp h ih =>
    show (kB "pick" 3 (.tup [.str "pick", .int i, ent t]) && (decide (0 ≤ (i : Int)) && isTn ps (i : Int).toNat (ent t))) = true
    rw [kB_3, isTn_at, Int.toNat_natCast, hp, decide_eq_true (by omega)]
    simpa using ih
  | @again p ts h ih =>
    show (kB "again" 2 (.tup [.str "again", .tup (ents ts)]) && (ents ts).all (fun y => isT' p y)) = true
    rw [kB_2, Bool.true_and, List.all_eq_true, ents_map]
    intro y hy
    obtain ⟨t, ht, rfl⟩ := List.mem_map.mp hy
    exact ih t ht
  | @held n p t h ih =>
    show (kB "held" 3 (.tup [.str "held", .str n, ent t]) && ((n == n) && isT' p (ent t))) = true
    rw [kB_3, ih]
    simp
  | @price n p t h ih =>
    show (kB "price" 3 (.tup [.str "price", .int n, ent t]) && ((n == n) && isT' p (ent t))) = true
    rw [kB_3, ih]
    simp
end L3
namespace L2
open PySem PySem.Spec PyProof.Rows
theorem holes (h : Heap) : ∀ S : List Addr, ∃ b : Heap, (∀ a ∈ S, b.get? a = none) ∧ ∀ a, a ∉ S → b.get? a = h.get? a
  | [] => ⟨h, by simp, fun _ _ => rfl⟩
  | x :: S => by
    obtain ⟨b, h1, h2⟩ := holes h S
    refine ⟨b.update x fun o => { o with data := .freed }, fun a ha => ?_, fun a ha => ?_⟩
    · by_cases e : x = a
      · subst e
        cases hq : (b.update x fun o => { o with data := .freed }).get? x with
        | none => rfl
        | some o =>
          obtain ⟨e1, e2⟩ := Heap.get?_some_iff.mp hq
          obtain ⟨objs, l⟩ := b
          have e3 : (objs.modify x fun o => { o with data := .freed })[x]? = some o := e1
          rw [Array.getElem?_modify, if_pos rfl] at e3
          cases hx : objs[x]? with
          | none => rw [hx] at e3; cases e3
          | some u =>
            rw [hx] at e3
            cases e3
            cases e2
      · rw [Heap.get?_update_other _ _ e]
        exact h1 a ((List.mem_cons.mp ha).resolve_left (Ne.symm e))
    · rw [Heap.get?_update_other _ _ fun e => ha (by simp [e])]
      exact h2 a fun hm => ha (by simp [hm])
theorem frames_re {h base b : Heap} : ∀ {l : List Env}, h.FunFrames base l → (∀ a ∈ frs l, b.get? a = none) → h.FunFrames b l
  | [], _, _ => trivial
  | env :: l, ⟨hk, ⟨L, o, hf, hn, ho, hd⟩, hr⟩, q => by
    have e : frs (env :: l) = L :: frs l := by unfold frs; rw [List.filterMap_cons, hf]
    rw [e] at q
    exact ⟨hk, ⟨L, o, hf, q L (by simp), ho, hd⟩, frames_re hr fun a ha => q a (by simp [ha])⟩
noncomputable def XTr (h : Heap) (e T : Addr) (cls : Value) : Prop := ∃ oe vs oT ts, h.get? e = some oe ∧ oe.cls = cls ∧ oe.data = .fields vs ∧ vs[1]? = some (.ref T) ∧ T ≠ e ∧ h.get? T = some oT ∧ oT.data = .fields ts ∧ ts[3]? = some .none
noncomputable def LeftS (l : List Env) (e : Addr) (S : List Addr) (cls : Value) (h h' : Heap) : Prop :=
  (∃ T, XTr h' e T cls ∧ (T ∈ S ∨ h.get? T = none)) ∧ (∀ b o, b ∉ frs l → b ≠ e → b ∉ S → h.get? b = some o → h'.get? b = some o) ∧ ∀ b o, b ∈ frs l → h.get? b = some o → ∃ sl, h'.get? b = some { o with slots := sl }
section
variable {M : Model} {A : Around} {E : Value → Shared → Prop} {s : Shared}
theorem leftS_of {B base : Heap} {l : List Env} {e : Addr} {S : List Addr} {cls : Value} {h h' : Heap} (b2 : ∀ a, a ∉ e :: (S ++ frs l) → B.get? a = h.get? a) (hl : h.FunFrames base l) (x : Heap.Left B l e cls h h') : LeftS l e S cls h h' := by
  obtain ⟨x1, x2, ⟨oe, vs, T, oT, ts, h1, h2, h3, h4, h5, h6, h7, h8, h9⟩, x4⟩ := x
  refine ⟨⟨T, ⟨oe, vs, oT, ts, h1, h2, h3, h4, h6, h7, h8, h9⟩, ?_⟩, fun b o n1 n2 n3 q => x1 b o ?_, fun b o hb q => ?_⟩
  · by_cases hS : T ∈ S
    · exact .inl hS
    · refine .inr ?_
      rw [← b2 T ?_]
      · exact h5
      · intro hm
        rcases List.mem_cons.mp hm with e1 | hm
        · exact h6 e1
        · rcases List.mem_append.mp hm with hm | hm
          · exact hS hm
          · obtain ⟨_, o, ho, hnf⟩ := x2.mem hm
            rw [h7] at ho
            cases ho
            exact hnf ts h8
  · rw [b2 b (by simp [n1, n2, n3])]; exact q
  · obtain ⟨_, o', ho', hnf⟩ := hl.mem hb
    rw [q] at ho'
    cases ho'
    exact x4 b o q hnf
theorem leaving_on {base : Heap} {env : Env} {outer : List Env} {e T : Addr} {cls : Value} {Q : Unit → Shared → Prop}
    (hfr : A.frames = some (env :: outer)) (hl : s.heap.FunFrames base (env :: outer)) (ht : XTr s.heap e T cls)
    (h : ∀ h', LeftS (env :: outer) e [T] cls s.heap h' → Q () { s with heap := h' }) : wpAny M A (leaving env (.ref e)) Q E s := by
  obtain ⟨B, b1, b2⟩ := holes s.heap (e :: ([T] ++ frs (env :: outer)))
  obtain ⟨oe, vs, oT, ts, h1, h2, h3, h4, h6, h7, h8, h9⟩ := ht
  obtain ⟨L, _, hf, _⟩ := hl.2.1
  refine wpAny_leaving_next (base := B) hfr (frames_re hl fun a ha => b1 a (by simp [ha])) hf ⟨oe, vs, T, oT, ts, h1, h2, h3, h4, b1 T (by simp), h6, h7, h8, h9⟩ (fun b o q => ?_) (b1 e (by simp)) fun h' x => h h' (leftS_of b2 hl x)
  by_cases hm : b ∈ e :: ([T] ++ frs (env :: outer))
  · rw [b1 b hm] at q; cases q
  · rw [← b2 b hm]; exact q
theorem leaving_new {base : Heap} {env : Env} {outer : List Env} {e : Addr} {oe : Obj} {vs : Array Value} {Q : Unit → Shared → Prop}
    (hfr : A.frames = some (env :: outer)) (hl : s.heap.FunFrames base (env :: outer)) (he : s.heap.get? e = some oe) (hd : oe.data = .fields vs) (h1 : vs[1]? = some .none)
    (h : ∀ h', LeftS (env :: outer) e [] oe.cls s.heap h' → Q () { s with heap := h' }) : wpAny M A (leaving env (.ref e)) Q E s := by
  obtain ⟨B, b1, b2⟩ := holes s.heap (e :: ([] ++ frs (env :: outer)))
  obtain ⟨L, _, hf, _⟩ := hl.2.1
  refine wpAny_leaving_first (base := B) hfr (frames_re hl fun a ha => b1 a (by simp [ha])) hf he (fun b o q => ?_) (b1 e (by simp)) hd h1 fun h' x => h h' (leftS_of b2 hl x)
  by_cases hm : b ∈ e :: ([] ++ frs (env :: outer))
  · rw [b1 b hm] at q; cases q
  · rw [← b2 b hm]; exact q
end
noncomputable def CX1 (P : Program) (w : World) (C : Addr) : CXT := fun outer H s E e s' => ∃ x T H', e = .ref x ∧ XTr s'.heap x T (.ref C) ∧ s.heap.get? x = none ∧ s.heap.get? T = none ∧ H' x = none ∧ H' T = none ∧ s'.os = s.os ∧ AllBare s'.gens ∧
  Un (frs outer) [] H H' s.heap s'.heap ∧ HOk P w H' s'.heap ∧ E (.ref C) none H'
end L2
namespace L2
open PySem PySem.Spec PyProof.Rows
section
variable {X : Cx} {pins : List (Addr × Obj)} {σ : St} {H1 : Hp} {s1 : Shared} {x : Addr} {S : List Addr} {C : Addr} {h' : Heap} {E : XK}
theorem left_end (J : Inv X pins σ H1 s1) (hex : X.ex = []) (hloc : X.s₀.heap.get? X.env.locals = none) (hx : H1 x = none) (hx0 : X.s₀.heap.get? x = none) (hS : ∀ t ∈ S, H1 t = none ∧ X.s₀.heap.get? t = none)
    (hL : LeftS X.stack x S (.ref C) s1.heap h') (hE : E (.ref C) none H1) : CX1 X.prog X.w C X.outer X.H₀ X.s₀ E (.ref x) { s1 with heap := h' } := by
  obtain ⟨⟨T, tr, hT⟩, k1, k2⟩ := hL
  have nst : ∀ b o, X.s₀.heap.get? b = some o → b ∉ X.fs → b ∉ frs X.stack := fun b o q n hm => by
    rcases List.mem_cons.mp (J.stkSub b hm) with e | hm
    · rw [e, hloc] at q; cases q
    · exact n hm
  have nx : ∀ b o, X.s₀.heap.get? b = some o → b ≠ x := fun b o q e => by rw [e, hx0] at q; cases q
  have nS : ∀ b o, X.s₀.heap.get? b = some o → b ∉ S := fun b o q hm => by rw [(hS b hm).2] at q; cases q
  have go : ∀ b o o1, X.s₀.heap.get? b = some o → s1.heap.get? b = some o1 → ∃ sl, h'.get? b = some { o1 with slots := sl } := fun b o o1 q q1 => by
    by_cases hm : b ∈ frs X.stack
    · exact k2 b o1 hm q1
    · exact ⟨o1.slots, k1 b o1 hm (nx b o q) (nS b o q) q1⟩
  have hTn : H1 T = none ∧ X.s₀.heap.get? T = none := by
    rcases hT with hT | hT
    · exact hS T hT
    · refine ⟨J.hok.none_of hT, ?_⟩
      cases q : X.s₀.heap.get? T with
      | none => rfl
      | some o =>
        obtain ⟨o', q'⟩ := J.base.there T o q (by rw [hex]; simp)
        rw [hT] at q'; cases q'
  refine ⟨x, T, H1, rfl, tr, hx0, hTn.2, hx, hTn.1, J.os, J.bare, ⟨fun b o q n nf _ => ?_, fun b o q n hb _ => ?_, fun b o q n _ => J.base.free b o q n (by rw [hex]; simp), fun b o q _ => ?_, J.base.tups, J.base.frzs, J.base.tbls⟩, fun a o e => ?_, hE⟩
  · exact k1 b o (nst b o q nf) (nx b o q) (nS b o q) (J.base.keep b o q n nf (by rw [hex]; simp))
  · obtain ⟨sl, q1⟩ := J.base.slot b o q n hb (by rw [hex]; simp)
    obtain ⟨sl', q2⟩ := go b o _ q q1
    exact ⟨sl', q2⟩
  · obtain ⟨o', q1⟩ := J.base.there b o q (by rw [hex]; simp)
    obtain ⟨sl', q2⟩ := go b o _ q q1
    exact ⟨_, q2⟩
  · have nn : ∀ b, (b = a ∨ H1 b = some (.own a)) → H1 b ≠ none := fun b hb z => by
      rcases hb with rfl | hb
      · rw [e] at z; cases z
      · rw [hb] at z; cases z
    exact (J.hok a o e).stay (fun b u hb q => k1 b u (fun hm => nn b hb (J.stkFree b hm)) (fun z => nn b hb (by rw [z]; exact hx)) (fun hm => nn b hb (hS b hm).1) q) (fun _ q => q) fun _ _ q => q
end
section
variable {P : Program} {w : World} {K : PySem.W.Frag} {mg : Str → Option Value} {base : Heap} {N : List Str} {qual : Str} {scope : Scope} {f : Addr} {cdv : Value} {A : Around} {outer : List Env} {s : Shared} {H : Hp} {E : XK} {C : Addr}
theorem size_none (h : Heap) : h.get? h.objs.size = none := by
  cases q : h.get? h.objs.size with
  | none => rfl
  | some o => exact absurd (Heap.lt_size q) (Nat.lt_irrefl _)
theorem passes1 : Passes (CX1 P w C) (cxOf (CX1 P w C) P w K mg base N qual scope f cdv A outer s H E) E := by
  rintro pins σ H1 s1 e s' I ⟨x, T, H', rfl, tr, nx, nT, hx, hT, os, bare, un, hok, hE⟩
  have J := I.call' (ch := []) os un hok bare (fun b z => absurd z (by simp))
  have hn : ∀ a, s1.heap.get? a = none → s.heap.get? a = none := fun a q => by
    cases q0 : s.heap.get? a with
    | none => rfl
    | some o =>
      obtain ⟨o', q'⟩ := I.base.there a o q0 (by show a ∉ []; simp)
      rw [q] at q'; cases q'
  refine leaving_on (base := base) J.ok.frames J.stack tr fun h' hL => ?_
  exact left_end (X := cxOf (CX1 P w C) P w K mg base N qual scope f cdv A outer s H E) J rfl (size_none _) hx (hn x nx) (fun t ht => by cases List.mem_singleton.mp ht; exact ⟨hT, hn _ nT⟩) hL hE
theorem raised1 {pins : List (Addr × Obj)} {σ : St} {H1 : Hp} {s1 : Shared} {h' : Heap} {x : Addr} {us : List Value} (I : Inv (cxOf (CX1 P w C) P w K mg base N qual scope f cdv A outer s H E) pins σ H1 s1) (m : Heap.MadeExcOf s1.heap h' x (.ref C) us) (hE : E (.ref C) none H1) :
    (cxOf (CX1 P w C) P w K mg base N qual scope f cdv A outer s H E).xe (.ref x) { s1 with heap := h' } := by
  have J := I.kept (t' := s1.toks) m.keeps
  have hn : s.heap.get? x = none := by
    cases q0 : s.heap.get? x with
    | none => rfl
    | some o =>
      obtain ⟨o', q'⟩ := I.base.there x o q0 (by show x ∉ []; simp)
      rw [m.new] at q'; cases q'
  obtain ⟨t, he, _, _⟩ := m.there
  refine leaving_new (base := base) J.ok.frames J.stack he rfl rfl fun h'' hL => ?_
  exact left_end (X := cxOf (CX1 P w C) P w K mg base N qual scope f cdv A outer s H E) J rfl (size_none _) (I.hok.none_of m.new) hn (fun t ht => by cases ht) hL hE
theorem tail_keeps {h h' : Heap} {bmB tl : List Value} (T : OwnTail h bmB tl) (k : ∀ b o, h.get? b = some o → h'.get? b = some o) : OwnTail h' bmB tl := by
  induction T with
  | base => exact .base
  | own e n i _ ih => exact .own (k _ _ e) (n.keeps k) i ih
noncomputable def tRaise (C : Addr) (t : TA) (E : XK) : TS := fun _ σ H => t σ H fun vs H1 => vs.length ≤ sizeLine ∧ E (.ref C) none H1
theorem ps_raise {xn : Str} {np cpos pos : Pos} {e : Expr} {es : List Expr} {t : TA} (q : PySem.W.excIn K C bmV "ValueError.__new__" = true)
    (hg : Gl (cxOf (CX1 P w C) P w K mg base N qual scope f cdv A outer s H E) xn) (hm : mg xn = some (.ref C))
    (ha : PA (cxOf (CX1 P w C) P w K mg base N qual scope f cdv A outer s H E) (e :: es) t) (hdb : (xn == ("__debug__" : Str)) = false := by decide)
    (he : starEach (e :: es) (cxOf (CX1 P w C) P w K mg base N qual scope f cdv A outer s H E).env = (false, eval e (cxOf (CX1 P w C) P w K mg base N qual scope f cdv A outer s H E).env) :: starEach es (cxOf (CX1 P w C) P w K mg base N qual scope f cdv A outer s H E).env := by rfl)
    (hpl : (backTo cpos (starEach (e :: es) (cxOf (CX1 P w C) P w K mg base N qual scope f cdv A outer s H E).env)).any (·.1) = false := by rfl) :
    PS (cxOf (CX1 P w C) P w K mg base N qual scope f cdv A outer s H E) (.Raise (some (.Call (.Name xn np) (e :: es) [] cpos)) none pos) (tRaise C t E) := by
  intro pins s1 σ H1 D I h
  obtain ⟨bm, ns, nm, qn, bs, hd, sn, sub, ab, col, dd, k0, k1, k2, k3, k5, mN, e1, e2, e3, e4⟩ := exc_parts I.ok.mod.kin q
  refine wpAny_Raise_call_subT F.excBase_ValueError (C := C) (bm := bm) (nm := nm) (q := qn) (N := ns) (bs := bs) (hdct := hd) (sn := sn) (sub := sub) (ab := ab) (col := col) (dd := dd) (k0 := k0) (k1 := k1) (k2 := k2) (k3 := k3) (k5 := k5) (e4.hasType (by decide)) (I.ok.hd rfl) hpl e3 ?_
  refine ld_glob I hg hm ⟨rfl, ?_⟩ hdb
  have hz := ha cpos pins s1 σ H1 _ I h
  rw [he] at hz ⊢
  refine PySem.Calls.evalArgs_plain (wpAny_mono hz (fun us s2 h2 => ?_) fun _ _ z => z)
  obtain ⟨vs, H2, I2, r2, hl, hE⟩ := h2
  exact ⟨rfl, by rw [← r2.length]; exact hl, I2.bk _ _ e1, e2.keeps I2.bk, tail_keeps e4 I2.bk, fun h' x hmade => raised1 I2 hmade hE⟩
end
end L2
namespace L2
open PySem PySem.Spec PyProof.Rows
section
variable {M : Model} {A : Around} {E : Value → Shared → Prop} {s : Shared}
theorem note_on {base : Heap} {env : Env} {outer : List Env} {e T : Addr} {cls : Value} {Q : Unit → Shared → Prop}
    (hfr : A.frames = some (env :: outer)) (hl : s.heap.FunFrames base (env :: outer)) (ht : XTr s.heap e T cls)
    (h : ∀ h', LeftS (env :: outer) e [T] cls s.heap h' → Q () { s with heap := h' }) : wpAny M A (noteFrame (.ref e) env) (fun _ s₂ => wpAny M A (setFlight (.ref e) none) Q E s₂) E s := by
  obtain ⟨B, b1, b2⟩ := holes s.heap (e :: ([T] ++ frs (env :: outer)))
  obtain ⟨oe, vs, oT, ts, he, hcls, hd, h1, hTe, hT, hdT, h3⟩ := ht
  subst hcls
  obtain ⟨L, _, hf, _⟩ := hl.2.1
  have hl' := frames_re (b := B) hl fun a ha => b1 a (by simp [ha])
  have hkb : B.StaysIn s.heap := fun b o q => by
    by_cases hm : b ∈ e :: ([T] ++ frs (env :: outer))
    · rw [b1 b hm] at q; cases q
    · rw [← b2 b hm]; exact q
  have hnT : B.get? T = none := b1 T (by simp)
  unfold noteFrame
  simp only [hf]
  refine wpAny_bind (wpAny_field he hd h1 ?_)
  rw [if_pos (show (Value.ref T != Value.none) = true from by simp)]
  refine wpAny_bind (wpAny_field hT hdT h3 ?_)
  rw [if_neg (show ¬ ((Value.none == rawInt L) = true) from by simp [rawInt])]
  refine wpAny_bind (wpAny_setField hT hdT (Array.getElem?_eq_some_iff.mp h3).1 ?_)
  have other : ∀ b, b ≠ T → (s.heap.update T (Obj.mapFields (·.setIfInBounds 3 Value.none))).get? b = s.heap.get? b := fun b hb => Heap.get?_update_other _ _ (Ne.symm hb)
  have noRecord : ∀ b o, s.heap.get? b = some o → (∀ vs, o.data ≠ .fields vs) → b ≠ T := fun b o hb hnf q => by
    rw [q, hT] at hb; injection hb with hb; subst hb; exact hnf ts hdT
  refine wpAny_newEntry (base := B) hfr (hl'.of_keeps fun b o hb hnf => ⟨o, (other b (noRecord b o hb hnf)).trans hb, rfl⟩) hf ((other e (Ne.symm hTe)).trans he)
    (fun b o hbo => (other b fun q => by rw [q, hnT] at hbo; cases hbo).trans (hkb b o hbo)) (b1 e (by simp)) hd (Array.getElem?_eq_some_iff.mp h1).1
    fun h' ⟨x1, x2, x3, x4⟩ => h h' (leftS_of b2 hl ⟨x1, x2, x3, fun b o hb hnf => x4 b o ((other b (noRecord b o hb hnf)).trans hb) hnf⟩)
theorem flight_on {e T : Addr} {cls : Value} {Q : Unit → Shared → Prop} (ht : XTr s.heap e T cls)
    (h : ∀ h', (∀ b o, b ≠ T → s.heap.get? b = some o → h'.get? b = some o) → Q () { s with heap := h' }) : wpAny M A (setFlight (.ref e) none) Q E s := by
  obtain ⟨oe, vs, oT, ts, he, hcls, hd, h1, hTe, hT, hdT, h3⟩ := ht
  unfold setFlight
  refine wpAny_bind (wpAny_field he hd h1 ?_)
  rw [if_pos (show (Value.ref T != Value.none) = true from by simp)]
  exact wpAny_setField hT hdT (Array.getElem?_eq_some_iff.mp h3).1 (h _ fun b o hb q => by rw [Heap.get?_update_other _ _ (Ne.symm hb)]; exact q)
end
theorem un_left {fs : List Addr} {H H' : Hp} {h h1 h2 : Heap} {x : Addr} {S : List Addr} (u : Un fs [] H H' h h1) (hx : h.get? x = none) (hS : ∀ t ∈ S, h.get? t = none)
    (k1 : ∀ b o, b ∉ fs → b ≠ x → b ∉ S → h1.get? b = some o → h2.get? b = some o) (k2 : ∀ b o, b ∈ fs → b ≠ x → b ∉ S → h1.get? b = some o → ∃ sl, h2.get? b = some { o with slots := sl }) : Un fs [] H H' h h2 := by
  have nx : ∀ b o, h.get? b = some o → b ≠ x := fun b o q e => by rw [e, hx] at q; cases q
  have nS : ∀ b o, h.get? b = some o → b ∉ S := fun b o q hm => by rw [hS b hm] at q; cases q
  have go : ∀ b o o1, h.get? b = some o → h1.get? b = some o1 → ∃ sl, h2.get? b = some { o1 with slots := sl } := fun b o o1 q q1 => by
    by_cases hm : b ∈ fs
    · exact k2 b o1 hm (nx b o q) (nS b o q) q1
    · exact ⟨o1.slots, k1 b o1 hm (nx b o q) (nS b o q) q1⟩
  refine ⟨fun b o q n nf nx' => k1 b o nf (nx b o q) (nS b o q) (u.keep b o q n nf nx'), fun b o q n hb nx' => ?_, u.free, fun b o q nx' => ?_, u.tups, u.frzs, u.tbls⟩
  · obtain ⟨sl, q1⟩ := u.slot b o q n hb nx'
    obtain ⟨sl', q2⟩ := go b o _ q q1
    exact ⟨sl', q2⟩
  · obtain ⟨o', q1⟩ := u.there b o q nx'
    obtain ⟨sl, q2⟩ := go b o _ q q1
    exact ⟨_, q2⟩
theorem hok_left {P : Program} {w : World} {H : Hp} {h1 h2 : Heap} {x : Addr} {S fs : List Addr} (ok : HOk P w H h1) (hx : H x = none) (hS : ∀ t ∈ S, H t = none) (hf : ∀ b ∈ fs, H b = none)
    (k1 : ∀ b o, b ∉ fs → b ≠ x → b ∉ S → h1.get? b = some o → h2.get? b = some o) : HOk P w H h2 := fun a o e => by
  have nn : ∀ b, (b = a ∨ H b = some (.own a)) → H b ≠ none := fun b hb z => by
    rcases hb with rfl | hb
    · rw [e] at z; cases z
    · rw [hb] at z; cases z
  exact (ok a o e).stay (fun b u hb q => k1 b u (fun hm => nn b hb (hf b hm)) (fun z => nn b hb (by rw [z]; exact hx)) (fun hm => nn b hb (hS b hm)) q) (fun _ q => q) fun _ _ q => q
section
variable {X : Cx} {C : Addr}
noncomputable def tTryT (sp : Sp) (t : TA) : TS := fun D σ H => t σ H fun vs H1 => sp vs H1 (fun _ H2 => D.nx σ H2) fun _ _ H2 => (∀ b xs, H1 b = some (.tup xs) → H2 b = some (.tup xs)) → (∀ b o u, H1 b = some (.frz o u) → H2 b = some (.frz o u)) → D.rt (.bl true) H2
theorem ps_tryT {k : Nat} {f : Addr} {fd : FuncData} {ps : List Str} {sp : Sp} {xf xc : Str} {p pos np p1 p2 p3 p4 kp : Pos} {kk : Nat} {e : Expr} {es : List Expr} {t : TA} {env : Env} {outer : List Env} (hst : X.stack = env :: outer) (henv : X.env = env)
    (F : FnOk X.prog X.w X.K X.mg X.base (CX1 X.prog X.w C) k f fd ps sp) (hr : Room k X.A) (hg : Gl X xf) (hm : X.mg xf = some (.ref f)) (hk : PySem.W.keepIn X.K (.ref f) = true) (hb : Binds X.K fd ps [])
    (q : PySem.W.excIn X.K C bmV "ValueError.__new__" = true) (hgc : Gl X xc) (hmc : X.mg xc = some (.ref C)) (ha : PA X.nox (e :: es) t) (hdb : (xf == ("__debug__" : Str)) = false := by decide) (hdc : (xc == ("__debug__" : Str)) = false := by decide)
    (he : starEach (e :: es) X.env = (false, eval e X.env) :: starEach es X.env := by rfl) (hpl : (backTo pos (starEach es X.env)).any (·.1) = false := by rfl) (hs : swapsWith (.Call (.Name xf p) (e :: es) [] pos) none p1.line X.env = pure false := by rfl) :
    PS X (.Try [.Expr (.Call (.Name xf p) (e :: es) [] pos) p1] [.ExceptHandler (some (.Name xc np)) none [.Return (some (.Constant (.bool true) kk kp)) p2] p3] [] [] p4) (tTryT sp t) := by
  intro pins s σ H D I h
  refine wpAny_Try_except ?_
  refine wpAny_execs_cons (wpAny_Expr_any ?_ I.quiet hs)
  refine wpAny_Call_Name_kw (ld_glob I hg hm ?_ hdb)
  refine PySem.W.callWith_K (h₀ := X.base) I.ok.mod.kin hk (wpAny_mono (ha pos pins s σ H _ (I.wish _) h) (fun us s1 h1 => ?_) fun _ _ z => z.elim) he hpl
  obtain ⟨vs, H1, I1, r, q1⟩ := h1
  have I2 := I1.unwish
  refine ⟨I2.kIn, ?_⟩
  have hl : (us ++ []).length = ps.length := by rw [List.append_nil, ← r.length]; exact F.len _ _ _ _ q1
  refine wpAny_call (codeAny_mono (F.run X.A X.stack s1 H1 ⟨us, []⟩ (us ++ []) vs _ _ hr I2.env0 (hb s1 us I2.kIn hl) (by rw [List.append_nil]; exact r) q1) fun res s' hq => ?_)
  cases res with
  | ok fl =>
    cases fl with
    | ret u =>
      obtain ⟨v, H', I', _, q'⟩ := I2.after hq
      exact wpAny_execs_nil (wpAny_execs_nil ⟨σ, H', I', q'⟩)
    | next => exact False.elim hq
    | brk => exact False.elim hq
    | cont => exact False.elim hq
  | error ex =>
    obtain ⟨x, T, H', rfl, tr, nx, nT, hx, hT, os, bare, un, hok, hE⟩ := hq
    subst henv
    obtain ⟨hh, g, d, tk, os'⟩ := s'
    have J := I2.call' (ch := []) os un hok bare (fun b z => absurd z (by simp))
    have hstk := J.stack
    rw [hst] at hstk
    have hfr : X.A.frames = some (X.env :: outer) := by rw [J.ok.frames, hst]
    refine note_on (base := X.base) hfr hstk tr fun h' hL => ?_
    obtain ⟨⟨T', tr', hT'⟩, k1, k2⟩ := hL
    rw [← hst] at k1 k2
    have hTn : H' T' = none ∧ s1.heap.get? T' = none := by
      rcases hT' with hT' | hT'
      · cases List.mem_singleton.mp hT'
        exact ⟨hT, nT⟩
      · refine ⟨hok.none_of hT', ?_⟩
        cases q0 : s1.heap.get? T' with
        | none => rfl
        | some o =>
          obtain ⟨o', q'⟩ := un.there T' o q0 (by simp)
          rw [hT'] at q'; cases q'
    have un2 : Un (frs X.stack) [] H1 H' s1.heap h' := un_left (S := [T]) un nx (fun t ht => by cases List.mem_singleton.mp ht; exact nT) k1 fun b o hb _ _ q0 => k2 b o hb q0
    have hok2 : HOk X.prog X.w H' h' := hok_left (S := [T]) hok hx (fun t ht => by cases List.mem_singleton.mp ht; exact hT) J.stkFree k1
    have J2 := I2.call' (s' := ⟨h', g, d, tk, os'⟩) (ch := []) os un2 hok2 bare (fun b z => absurd z (by simp))
    obtain ⟨bm, ns, nm, qn, bs, hd, sn, sub, ab, col, dd, c0, c1, c2, c3, c5, mN, e1, e2, e3, e4⟩ := exc_parts I.ok.mod.kin q
    refine wpAny_handleBy_cons (codeAny_handlers_test ?_) (by intro z; cases z)
    refine Calls.Name_function_global J2.ok.kind hgc (Calls.loadGlobal_global (by rw [J2.ok.glob]; exact J2.mod.glob.keeps J2.bk) hmc ?_) hdc
    obtain ⟨oe, vs', oT, ts, he1, he2, he3, he4, he5, he6, he7, he8⟩ := id tr'
    refine wpAny_excMatches_sub_self (J2.bk _ _ e1) he1 he2 (e4.hasType (by decide)) ?_
    refine codeAny_handlers_suite (flight_on (s := ⟨h', g, d, tk, os'⟩) tr' fun h'' k3 => ?_)
    have un3 : Un (frs X.stack) [] H1 H' s1.heap h'' := un_left (S := [T']) un2 nx (fun t ht => by cases List.mem_singleton.mp ht; exact hTn.2) (fun b o _ _ hS q0 => k3 b o (by simpa using hS) q0) fun b o _ _ hS q0 => ⟨o.slots, k3 b o (by simpa using hS) q0⟩
    have hok3 : HOk X.prog X.w H' h'' := hok_left (S := [T']) hok2 hx (fun t ht => by cases List.mem_singleton.mp ht; exact hTn.1) J.stkFree fun b o _ _ hS q0 => k3 b o (by simpa using hS) q0
    have J3 := I2.call' (s' := ⟨h'', g, d, tk, os'⟩) (ch := []) os un3 hok3 bare (fun b z => absurd z (by simp))
    refine wpAny_execs_cons (wpAny_Return_some (wpAny_Constant_bool ?_))
    exact ⟨.bl true, σ, H', J3, rfl, hE un.tups un.frzs⟩
end
end L2
namespace L3
open PySem L2 PySem.Spec PyProof.Rows
theorem keep_un {K : PySem.W.Frag} {H H' : Hp} (t : ∀ b xs, H b = some (.tup xs) → H' b = some (.tup xs)) (f : ∀ b o u, H b = some (.frz o u) → H' b = some (.frz o u)) : Keep K H H' :=
  ⟨fun a xs h => by
    rcases h with (h | ⟨o, h⟩) | h
    · exact .inl (.inl (t a xs h))
    · exact .inl (.inr ⟨o, f a o _ h⟩)
    · exact .inr h, f⟩
noncomputable abbrev Sp3 := List PV → Gp → K2 → (Gp → Prop) → Prop
noncomputable def spX (K : PySem.W.Frag) (C : Addr) (sp : Sp3) : Sp := fun vs H Q E => ∃ ps G Q2 EX, Dvs K H ps vs ∧ Rep K H G ∧ sp ps G Q2 EX ∧ Cl K H Q2 Q ∧ ∀ G' H', EX G' → Rep K H' G' → E (.ref C) none H'
noncomputable abbrev OkX (P : Program) (w : World) (K : PySem.W.Frag) (mg : Str → Option Value) (base : Heap) (C : Addr) (k : Nat) (f : Addr) (fd : FuncData) (ps : List Str) (sp : Sp3) : Prop := FnOk P w K mg base (CX1 P w C) k f fd ps (spX K C sp)
structure CalX (P : Program) (w : World) (K : PySem.W.Frag) (mg : Str → Option Value) (base : Heap) (C : Addr) (k : Nat) (x : Str) (f : Addr) (fd : FuncData) (ps : List Str) (sp : Sp3) : Prop where
  ok : OkX P w K mg base C k f fd ps sp
  b : Binds K fd ps []
  kp : PySem.W.keepIn K (.ref f) = true
  m : mg x = some (.ref f)
noncomputable def XW (K : PySem.W.Frag) (C : Addr) (E : XK) (EX : Gp → Prop) : Prop := ∀ G' H', EX G' → Rep K H' G' → E (.ref C) none H'
section
variable {P : Program} {w : World} {K : PySem.W.Frag} {mg : Str → Option Value} {base : Heap} {C : Addr}
theorem fnX {x qual : Str} {st : Stmt} {f : Addr} {fd : FuncData} {N ps : List Str} {k : Nat} {sp : Sp3} (F : Fun K x qual st f fd) (S : FnScope N ps (defScope st)) (len : ∀ vs G Q EX, sp vs G Q EX → vs.length = ps.length)
    (hbody : ∀ (cdv : Value) (A : Around) (outer : List Env) (s : Shared) (H : Hp) (E : XK) (as : List PV) (G : Gp) (Q : K2) (EX : Gp → Prop), Room k (A.deeper (PyProof.Rows.envOfC qual (defScope st) s.heap.objs.size f cdv)) → sp as G Q EX → XW K C E EX →
      ∃ t, JB (cxOf (CX1 P w C) P w K mg base N qual (defScope st) f cdv A outer s H E) (defBody st) t ∧ t { nx := fun _ G' => ∃ G0, GE G0 G' ∧ Q .non G0, rt := fun p G' => ∃ G0, GE G0 G' ∧ Q p G0 } (start2 N as) G) : OkX P w K mg base C (k + 1) f fd ps sp := by
  obtain ⟨oc, od, kV, doc, pm, an, cdv, ct, osl, rfl, lk, hcd⟩ := F.ex
  refine fn_of lk hcd S (fun vs H Q E h => ?_) (fun A outer s H vs Q E hr h => ?_)
  · obtain ⟨as, G, Q2, EX, d, _, h, _, _⟩ := h
    rw [d.length]; exact len _ _ _ _ h
  obtain ⟨as, G, Q2, EX, d, rp, h, cl, hx⟩ := h
  obtain ⟨t, j, q⟩ := hbody cdv A outer s H E as G Q2 EX hr h hx
  refine ⟨_, j.h, start2 N as, G, _, start_rst d (by rw [len _ _ _ _ h, ← S.pre, List.length_take]; omega), rp, q, ⟨fun τ G' σ H' ⟨G0, e0, q1⟩ _ r1 k1 => cl _ _ _ _ q1 rfl (r1.sub e0) k1, fun p G' v H' ⟨G0, e0, q1⟩ d1 r1 k1 => cl _ _ _ _ q1 d1 (r1.sub e0) k1, fun _ _ _ _ q1 => q1.elim, fun _ _ _ _ q1 => q1.elim⟩⟩
variable {N : List Str} {qual : Str} {scope : Scope} {f : Addr} {cdv : Value} {A : Around} {outer : List Env} {s : Shared} {H : Hp} {E : XK} {EX : Gp → Prop}
noncomputable abbrev sRaise (t : A2) (EX : Gp → Prop) : S2 := fun _ τ G => t τ G fun ps G1 => ps.length ≤ 1000 ∧ EX G1
theorem js_raise {xn : Str} {np cpos pos : Pos} {e : Expr} {es : List Expr} {t : A2} (hX : XW K C E EX) (q : PySem.W.excIn K C bmV "ValueError.__new__" = true) (hm : mg xn = some (.ref C))
    (ha : JA (cxOf (CX1 P w C) P w K mg base N qual scope f cdv A outer s H E) (e :: es) t) (hg : Gl (cxOf (CX1 P w C) P w K mg base N qual scope f cdv A outer s H E) xn := by rfl) (hdb : (xn == ("__debug__" : Str)) = false := by decide)
    (he : starEach (e :: es) (cxOf (CX1 P w C) P w K mg base N qual scope f cdv A outer s H E).env = (false, eval e (cxOf (CX1 P w C) P w K mg base N qual scope f cdv A outer s H E).env) :: starEach es (cxOf (CX1 P w C) P w K mg base N qual scope f cdv A outer s H E).env := by rfl)
    (hpl : (backTo cpos (starEach (e :: es) (cxOf (CX1 P w C) P w K mg base N qual scope f cdv A outer s H E).env)).any (·.1) = false := by rfl) :
    JS (cxOf (CX1 P w C) P w K mg base N qual scope f cdv A outer s H E) (.Raise (some (.Call (.Name xn np) (e :: es) [] cpos)) none pos) (sRaise t EX) := ⟨fun pins s1 σ H1 D I h => by
  obtain ⟨τ, G, D2, rs, rp, q2, _⟩ := h
  refine ps_raise q hg hm ha.h hdb he hpl pins s1 σ H1 D I ⟨τ, G, _, rs, rp, q2, fun ps G1 vs H2 q3 d3 r3 k3 => ?_⟩
  have hz : vs.length = ps.length := d3.length
  exact ⟨by rw [hz]; exact Nat.le_trans q3.1 (by decide), hX _ _ q3.2 r3⟩⟩
noncomputable abbrev eCallX (sp : Sp3) (EX : Gp → Prop) (t : A2) : E2 := fun τ G Q => t τ G fun ps G1 => sp ps G1 Q EX
end
section
variable {X : Cx} {C : Addr}
noncomputable abbrev sTryT (sp : Sp3) (t : A2) : S2 := fun D τ G => t τ G fun ps G1 => sp ps G1 (fun _ G2 => D.nx τ G2) fun G2 => D.rt (.bl true) G2
theorem js_tryT {k k' : Nat} {f : Addr} {fd : FuncData} {ps : List Str} {sp : Sp3} {xf xc : Str} {p pos np p1 p2 p3 p4 kp : Pos} {kk : Nat} {e : Expr} {es : List Expr} {t : A2} {outer : List Env}
    (Cl : CalX X.prog X.w X.K X.mg X.base C k xf f fd ps sp) (hr : Room k' X.A) (hk : k ≤ k') (q : PySem.W.excIn X.K C bmV "ValueError.__new__" = true) (hmc : X.mg xc = some (.ref C)) (ha : JA X.nox (e :: es) t) (hst : X.stack = X.env :: outer := by rfl)
    (hg : Gl X xf := by rfl) (hgc : Gl X xc := by rfl) (hdb : (xf == ("__debug__" : Str)) = false := by decide) (hdc : (xc == ("__debug__" : Str)) = false := by decide)
    (he : starEach (e :: es) X.env = (false, eval e X.env) :: starEach es X.env := by rfl) (hpl : (backTo pos (starEach es X.env)).any (·.1) = false := by rfl) (hs : swapsWith (.Call (.Name xf p) (e :: es) [] pos) none p1.line X.env = pure false := by rfl) :
    JS X (.Try [.Expr (.Call (.Name xf p) (e :: es) [] pos) p1] [.ExceptHandler (some (.Name xc np)) none [.Return (some (.Constant (.bool true) kk kp)) p2] p3] [] [] p4) (sTryT sp t) := ⟨fun pins s1 σ H1 D I h => by
  obtain ⟨τ, G, D2, rs, rp, q2, cl⟩ := h
  refine ps_tryT hst rfl (Cl.ok.mono hk) hr hg Cl.m Cl.kp Cl.b q hgc hmc ha.h hdb hdc he hpl hs pins s1 σ H1 D I ⟨τ, G, _, rs, rp, q2, fun ps G1 vs H2 q3 d3 r3 k3 => ?_⟩
  refine ⟨ps, G1, _, _, d3, r3, q3, fun v G2 v' H3 q4 _ r4 k4 => cl.nx _ _ _ _ q4 (rs.keep (k3.trans k4)) r4 (k3.trans k4), fun G2 H3 q4 r4 tt ff => ?_⟩
  exact cl.rt _ _ _ _ q4 rfl r4 (k3.trans (keep_un tt ff))⟩
end
end L3
namespace L3
open PySem L2 PySem.Spec PyProof.Rows
section
variable {K : PySem.W.Frag} {H : Hp} {G : Gp} {p C dx : Addr}
theorem dfv_look : ∀ {fs : List (Str × PV)} {vs : List (Str × V)} {f : Str} {q : PV}, DFv K H fs vs → fs.lookup f = some q → ∃ v, vs.lookup f = some v ∧ Dv K H q v
  | [], _, _, _, _, e => by cases e
  | (k, q0) :: fs, vs, f, q, h, e => by
    obtain ⟨v, r, rfl, d, z⟩ := h
    rw [List.lookup_cons] at e ⊢
    cases hk : (f == k) with
    | true => rw [hk] at e; cases e; exact ⟨v, rfl, d⟩
    | false => rw [hk] at e; exact dfv_look z e
theorem dfv_none : ∀ {fs : List (Str × PV)} {vs : List (Str × V)} {f : Str}, DFv K H fs vs → fs.lookup f = none → vs.lookup f = none
  | [], _, _, h, _ => by rw [show _ = [] from h]; rfl
  | (k, q0) :: fs, vs, f, h, e => by
    obtain ⟨v, r, rfl, d, z⟩ := h
    rw [List.lookup_cons] at e ⊢
    cases hk : (f == k) with
    | true => rw [hk] at e; cases e
    | false => rw [hk] at e; exact dfv_none z e
theorem dfv_len : ∀ {fs : List (Str × PV)} {vs : List (Str × V)}, DFv K H fs vs → vs.length = fs.length
  | [], _, h => by rw [show _ = [] from h]; rfl
  | (k, q0) :: fs, vs, h => by
    obtain ⟨v, r, rfl, d, z⟩ := h
    rw [List.length_cons, List.length_cons, dfv_len z]
theorem keep_ins {vs : List (Str × V)} {o : HO} (h : H p = some (.ins C dx vs)) : Keep K H (L2.upd H p o) := keep_mut (fun xs q => by rcases q with q | ⟨_, q⟩ <;> (rw [h] at q; cases q)) fun o u q => by rw [h] at q; cases q
theorem Rep.putI {vs vs0 : List (Str × V)} {fs : List (Str × PV)} (r : Rep K H G) (h : H p = some (.ins C dx vs0)) (d : DFv K H fs vs) : Rep K (L2.upd H p (.ins C dx vs)) (up G p (.ins C dx fs)) := by
  refine r.upd (keep_ins h) (fun a o e ne => by rw [up_ne ne] at e; exact e) fun o e => ?_
  rw [up_same] at e; cases e
  exact ⟨vs, upd_same, DFv.keep (keep_ins h) _ d⟩
end
noncomputable def fld2 (C : Addr) (f : Str) (x : PV) (G : Gp) (Q : K2) : Prop := match x with
  | .ref a => match G a with
    | some (.ins C' _ fs) => C' = C ∧ match fs.lookup f with
      | some q => Q q G
      | none => False
    | _ => False
  | _ => False
theorem fld_i {C a dx : Addr} {f : Str} {G : Gp} {Q : K2} {fs : List (Str × PV)} {q : PV} (h : G a = some (.ins C dx fs)) (e : fs.lookup f = some q) (hq : Q q G) : fld2 C f (.ref a) G Q := by
  unfold fld2; simp only [h, e]; exact ⟨trivial, hq⟩
noncomputable abbrev eFld (C : Addr) (t : E2) (f : Str) : E2 := fun τ G Q => t τ G fun x G1 => fld2 C f x G1 Q
theorem j_fld {X : Cx} {C : Addr} {e : Expr} {f : Str} {t : E2} {pos : Pos} (c : Cls X.K C) (n : NoAttr X.K C f) (he : JE X e t) (hb : attributeBase e f X.env (eval e X.env) = eval e X.env := by rfl) : JE X (.Attribute e f pos) (eFld C t f) :=
  .of (pe_fld he.h hb) fun σ H Q ⟨τ, G, Q2, rs, rp, q, cl⟩ => by
    refine ⟨τ, G, _, rs, rp, q, fun p G1 v H1 q1 d1 r1 k1 => ?_⟩
    unfold fld2 at q1
    split at q1
    · rename_i a
      split at q1
      · rename_i C' dx fs hG
        obtain ⟨rfl, q1⟩ := q1
        split at q1
        · rename_i y hl
          obtain rfl : v = .ref a := d1
          obtain ⟨vs, hH, df⟩ := r1 a _ hG
          obtain ⟨w', hw, dw⟩ := dfv_look df hl
          exact ⟨a, _, dx, vs, w', rfl, hH, c, n, hw, cl _ _ _ _ q1 dw r1 k1⟩
        · exact q1.elim
      · exact q1.elim
    · exact q1.elim
noncomputable def putP2 (f : Str) (v : PV) : List (Str × PV) → List (Str × PV)
  | [] => [(f, v)]
  | (g, x) :: r => if g = f then (g, v) :: r else (g, x) :: putP2 f v r
theorem dfv_put {K : PySem.W.Frag} {H : Hp} {f : Str} {q : PV} {v : V} (d : Dv K H q v) : ∀ {fs : List (Str × PV)} {vs : List (Str × V)}, DFv K H fs vs → DFv K H (putP2 f q fs) (putF f v vs)
  | [], _, h => by rw [show _ = [] from h]; exact ⟨v, [], rfl, d, rfl⟩
  | (k, q0) :: fs, vs, h => by
    obtain ⟨v0, r, rfl, d0, z⟩ := h
    unfold putP2 putF
    by_cases hk : k = f
    · rw [if_pos hk, if_pos hk]; exact ⟨v, r, rfl, d, z⟩
    · rw [if_neg hk, if_neg hk]; exact ⟨v0, _, rfl, d0, dfv_put d z⟩
noncomputable def setF2 (C : Addr) (f : Str) (x y : PV) (G : Gp) (Q : Gp → Prop) : Prop := match x with
  | .ref a => match G a with
    | some (.ins C' dx fs) => C' = C ∧ fs.length < 1000 ∧ Q (up G a (.ins C dx (putP2 f y fs)))
    | _ => False
  | _ => False
theorem setF_i {C a dx : Addr} {f : Str} {G : Gp} {Q : Gp → Prop} {fs : List (Str × PV)} {y : PV} (h : G a = some (.ins C dx fs)) (hl : fs.length < 1000) (hq : Q (up G a (.ins C dx (putP2 f y fs)))) : setF2 C f (.ref a) y G Q := by
  unfold setF2; simp only [h]; exact ⟨trivial, hl, hq⟩
noncomputable abbrev sFld2 (C : Addr) (ta tv : E2) (f : Str) : S2 := fun D τ G => tv τ G fun y G1 => ta τ G1 fun x G2 => setF2 C f x y G2 fun G3 => D.nx τ G3
theorem js_fld {X : Cx} {C : Addr} {o value : Expr} {f : Str} {ta tv : E2} {pos pos' : Pos} (c : Cls X.K C) (n : NoAttr X.K C f) (ha : JE X o ta) (hv : JE X value tv) (hs : swapsWith value (some (.Attribute o f pos')) pos.line X.env = pure false := by rfl) :
    JS X (.Assign [.Attribute o f pos'] value pos) (sFld2 C ta tv f) := .of (ps_fld ha.h hv.h hs) fun D σ H ⟨τ, G, D2, rs, rp, q, cl⟩ => by
  refine ⟨τ, G, _, rs, rp, q, fun y G1 v H1 q1 d1 r1 k1 => ⟨τ, G1, _, rs.keep k1, r1, q1, fun x G2 u H2 q2 d2 r2 k2 => ?_⟩⟩
  unfold setF2 at q2
  split at q2
  · rename_i a
    split at q2
    · rename_i C' dx fs hG
      obtain ⟨rfl, hl, q2⟩ := q2
      obtain rfl : u = .ref a := d2
      obtain ⟨vs, hH, df⟩ := r2 a _ hG
      have kk : Keep X.K H2 (L2.upd H2 a (.ins C' dx (putF f v vs))) := keep_ins hH
      refine ⟨a, _, dx, vs, rfl, hH, c, n, by rw [dfv_len df]; exact hl, cl.nx _ _ _ _ q2 (rs.keep ((k1.trans k2).trans kk)) (r2.putI hH (dfv_put (d1.keep k2) df)) ((k1.trans k2).trans kk)⟩
    · exact q2.elim
  · exact q2.elim
noncomputable def augF2 (C : Addr) (f : Str) (x : PV) (tv : E2) (τ : St2) (G : Gp) (Q : Gp → Prop) : Prop := match x with
  | .ref a => match G a with
    | some (.ins C' _ fs) => C' = C ∧ match fs.lookup f with
      | some (.int i) => tv τ G fun y G1 => match y with
        | .int j => match G1 a with
          | some (.ins C'' dx' fs') => C'' = C ∧ fs'.length < 1000 ∧ Q (up G1 a (.ins C dx' (putP2 f (.int (i + j)) fs')))
          | _ => False
        | _ => False
      | _ => False
    | _ => False
  | _ => False
noncomputable abbrev sFldAug2 (C : Addr) (ta tv : E2) (f : Str) : S2 := fun D τ G => ta τ G fun x G1 => augF2 C f x tv τ G1 fun G3 => D.nx τ G3
theorem js_fldaug {X : Cx} {C : Addr} {o value : Expr} {f : Str} {ta tv : E2} {pos tpos : Pos} (c : Cls X.K C) (n : NoAttr X.K C f) (ha : JE X o ta) (hv : JE X value tv) :
    JS X (.AugAssign (.Attribute o f tpos) .Add value pos) (sFldAug2 C ta tv f) := .of (ps_fldaug ha.h hv.h in_add) fun D σ H ⟨τ, G, D2, rs, rp, q, cl⟩ => by
  refine ⟨τ, G, _, rs, rp, q, fun x G1 u H1 q1 d1 r1 k1 => ?_⟩
  unfold augF2 at q1
  split at q1
  · rename_i a
    split at q1
    · rename_i C' dx fs hG
      obtain ⟨rfl, q1⟩ := q1
      split at q1
      · rename_i i hl
        obtain rfl : u = .ref a := d1
        obtain ⟨vs, hH, df⟩ := r1 a _ hG
        obtain ⟨w', hw, dw⟩ := dfv_look df hl
        obtain rfl : w' = .int i := dw
        refine ⟨a, _, dx, vs, _, rfl, hH, c, n, hw, τ, G1, _, rs.keep k1, r1, q1, fun y G2 v H2 q2 d2 r2 k2 => ?_⟩
        split at q2
        · rename_i j
          split at q2
          · rename_i C'' dx' fs' hG2
            obtain ⟨rfl, hl2, q2⟩ := q2
            obtain rfl : v = .int j := d2
            obtain ⟨vs2, hH2, df2⟩ := r2 a _ hG2
            have kk : Keep X.K H2 (L2.upd H2 a (.ins C'' dx' (putF f (.int (i + j)) vs2))) := keep_ins hH2
            exact ⟨i, j, rfl, rfl, dx', vs2, hH2, by rw [dfv_len df2]; exact hl2, cl.nx _ _ _ _ q2 (rs.keep ((k1.trans k2).trans kk)) (r2.putI hH2 (dfv_put (q := .int (i + j)) rfl df2)) ((k1.trans k2).trans kk)⟩
          · exact q2.elim
        · exact q2.elim
      · exact q1.elim
    · exact q1.elim
  · exact q1.elim
end L3
namespace L3
open PySem L2 PySem.Spec PyProof.Rows
noncomputable def isI (C : Addr) (m : Str) (x : PV) (G : Gp) : Prop := ∃ a dx fs, x = .ref a ∧ G a = some (.ins C dx fs) ∧ fs.lookup m = none
structure MetX (P : Program) (w : World) (K : PySem.W.Frag) (mg : Str → Option Value) (base : Heap) (D C : Addr) (k : Nat) (m : Str) (f : Addr) (fd : FuncData) (ps : List Str) (sp : Sp3) : Prop where
  ok : OkX P w K mg base D k f fd ps sp
  b : Binds K fd ps []
  c : Cls K C
  m : Meth K C m f
structure Met2 (P : Program) (w : World) (K : PySem.W.Frag) (mg : Str → Option Value) (base : Heap) (C : Addr) (k : Nat) (m : Str) (f : Addr) (fd : FuncData) (ps : List Str) (sp : Sp2) : Prop where
  ok : Ok2 P w K mg base k f fd ps sp
  b : Binds K fd ps []
  c : Cls K C
  m : Meth K C m f
noncomputable abbrev eMetX (C : Addr) (m : Str) (sp : Sp3) (EX : Gp → Prop) (to : E2) (t : A2) : E2 := fun τ G Q => to τ G fun x G1 => isI C m x G1 ∧ t τ G1 fun ps G2 => sp (x :: ps) G2 Q EX
section
variable {P : Program} {w : World} {K : PySem.W.Frag} {mg : Str → Option Value} {base : Heap} {D C : Addr} {N : List Str} {qual : Str} {scope : Scope} {f : Addr} {cdv : Value} {A : Around} {outer : List Env} {s : Shared} {H : Hp} {E : XK} {EX : Gp → Prop}
variable {k k' : Nat} {m : Str} {f' : Addr} {fd : FuncData} {ps : List Str} {o e : Expr} {es : List Expr} {to : E2} {t : A2} {pos apos : Pos} {pl : Sem Bool}
theorem low_metX {sp : Sp3} (hX : XW K D E EX) {σ : L2.St} {H1 : Hp} {Q : VK} (q : lowE K (eMetX C m sp EX to t) σ H1 Q) : tMeth C m (spX K D sp) [] E (lowE K to) (lowA K t) σ H1 Q := by
  obtain ⟨τ, G, Q2, rs, rp, q, cl⟩ := q
  refine ⟨τ, G, _, rs, rp, q, fun x G1 v H2 q1 d1 r1 k1 => ?_⟩
  obtain ⟨⟨a, dx, fs, rfl, hG, hl⟩, q1⟩ := q1
  obtain rfl : v = .ref a := d1
  obtain ⟨vs, hH, df⟩ := r1 a _ hG
  refine ⟨a, dx, vs, rfl, hH, dfv_none df hl, τ, G1, _, rs.keep k1, r1, q1, fun ps G2 us H3 q2 d2 r2 k2 => ?_⟩
  show spX K D sp (.ref a :: (us ++ [])) H3 Q E
  rw [List.append_nil]
  exact ⟨.ref a :: ps, G2, Q2, EX, ⟨.ref a, us, rfl, rfl, d2⟩, r2, q2, cl.keep (k1.trans k2), hX⟩
theorem j_metX {sp : Sp3} (hX : XW K D E EX) (M : MetX P w K mg base D C k m f' fd ps sp) (hr : Room k' (cxOf (CX1 P w D) P w K mg base N qual scope f cdv A outer s H E).A) (hk : k ≤ k')
    (ho : JE (cxOf (CX1 P w D) P w K mg base N qual scope f cdv A outer s H E) o to) (ha : JA (cxOf (CX1 P w D) P w K mg base N qual scope f cdv A outer s H E) (e :: es) t)
    (hst : starEach (e :: es) (cxOf (CX1 P w D) P w K mg base N qual scope f cdv A outer s H E).env = (false, eval e (cxOf (CX1 P w D) P w K mg base N qual scope f cdv A outer s H E).env) :: starEach es (cxOf (CX1 P w D) P w K mg base N qual scope f cdv A outer s H E).env := by rfl)
    (hpl : (backTo pos (starEach es (cxOf (CX1 P w D) P w K mg base N qual scope f cdv A outer s H E).env)).any (·.1) = false := by rfl)
    (ht : eval (.Call (.Attribute o m apos) (e :: es) [] pos) (cxOf (CX1 P w D) P w K mg base N qual scope f cdv A outer s H E).env = (do
      let ov ← eval o (cxOf (CX1 P w D) P w K mg base N qual scope f cdv A outer s H E).env
      standAt apos.atName
      let (fv, first) ← holding [ov] (getMethod ov m pl)
      callWith pos fv first (backTo pos (starEach (e :: es) (cxOf (CX1 P w D) P w K mg base N qual scope f cdv A outer s H E).env)) (backToKw pos (keywordEach [] (cxOf (CX1 P w D) P w K mg base N qual scope f cdv A outer s H E).env))) := by rfl) :
    JE (cxOf (CX1 P w D) P w K mg base N qual scope f cdv A outer s H E) (.Call (.Attribute o m apos) (e :: es) [] pos) (eMetX C m sp EX to t) :=
  .of (pe_meth (pl := pl) ho.h M.c M.m (M.ok.mono hk) hr M.b .nil passes1 ha.h hst hpl ht) fun σ H1 Q q => low_metX hX q
end
section
variable {X : Cx} {C : Addr} {k k' : Nat} {m x : Str} {f' : Addr} {fd : FuncData} {ps : List Str} {o e : Expr} {es : List Expr} {to : E2} {t : A2} {pos apos p : Pos} {pl : Sem Bool}
theorem j_met0 {sp : Sp2} (M : Met2 X.prog X.w X.K X.mg X.base C k m f' fd ps sp) (hr : Room k' X.A) (hk : k ≤ k') (ho : JE X o to)
    (ht : eval (.Call (.Attribute o m apos) [] [] pos) X.env = (do
      let ov ← eval o X.env
      standAt apos.atName
      let (fv, first) ← holding [ov] (getMethod ov m pl)
      callWith pos fv first (backTo pos (starEach [] X.env)) (backToKw pos (keywordEach [] X.env))) := by rfl) :
    JE X (.Call (.Attribute o m apos) [] [] pos) (fun τ G Q => to τ G fun x G1 => isI C m x G1 ∧ sp [x] G1 Q) :=
  .of (pe_meth0 (pl := pl) ho.h M.c M.m (M.ok.mono hk) hr M.b .nil pass0 ht) fun σ H1 Q q => by
    obtain ⟨τ, G, Q2, rs, rp, q, cl⟩ := q
    refine ⟨τ, G, _, rs, rp, q, fun x G1 v H2 q1 d1 r1 k1 => ?_⟩
    obtain ⟨⟨a, dx, fs, rfl, hG, hl⟩, q1⟩ := q1
    obtain rfl : v = .ref a := d1
    obtain ⟨vs, hH, df⟩ := r1 a _ hG
    exact ⟨a, dx, vs, rfl, hH, dfv_none df hl, [.ref a], G1, Q2, ⟨.ref a, [], rfl, rfl, rfl⟩, r1, q1, cl.keep k1⟩
noncomputable abbrev eMake (C : Addr) (sp : Sp2) (t : A2) : E2 := fun τ G Q => t τ G fun ps G1 => ∀ x dx, G1 x = none → G1 dx = none → dx ≠ x → sp (.ref x :: ps) (up G1 x (.ins C dx [])) fun v G2 => v = .non ∧ Q (.ref x) G2
theorem j_make {sp : Sp2} (M : Mk X.K C f') (ok : Ok2 X.prog X.w X.K X.mg X.base k f' fd ps sp) (hb : Binds X.K fd ps []) (hr : Room k' X.A) (hk : k + 1 ≤ k') (hm : X.mg x = some (.ref C)) (ha : JA X (e :: es) t) (hg : Gl X x := by rfl)
    (hdb : (x == ("__debug__" : Str)) = false := by decide) (he : starEach (e :: es) X.env = (false, eval e X.env) :: starEach es X.env := by rfl) (hpl : (backTo pos (starEach es X.env)).any (·.1) = false := by rfl) :
    JE X (.Call (.Name x p) (e :: es) [] pos) (eMake C sp t) := .of (pe_make M ok (hr.mono hk) hg hm hb .nil pass0 ha.h hdb he hpl) fun σ H Q q => by
  obtain ⟨τ, G, Q2, rs, rp, q, cl⟩ := q
  refine ⟨τ, G, _, rs, rp, q, fun ps G1 vs H1 q1 d1 r1 k1 => fun a dx ha hdx ne => ?_⟩
  have k2 : Keep X.K H1 (L2.upd H1 dx (.own a)) := keep_new hdx
  have ha' : L2.upd H1 dx (.own a) a = none := by rw [upd_ne (Ne.symm ne)]; exact ha
  have k3 : Keep X.K (L2.upd H1 dx (.own a)) (L2.upd (L2.upd H1 dx (.own a)) a (.ins C dx [])) := keep_new ha'
  have rp2 : Rep X.K (L2.upd H1 dx (.own a)) G1 := r1.upd k2 (fun _ _ e _ => e) fun o e => by rw [r1.none hdx] at e; cases e
  have rp3 : Rep X.K (L2.upd (L2.upd H1 dx (.own a)) a (.ins C dx [])) (up G1 a (.ins C dx [])) := by
    refine rp2.upd k3 (fun b o e ne => by rw [up_ne ne] at e; exact e) fun o e => ?_
    rw [up_same] at e; cases e
    exact ⟨[], upd_same, rfl⟩
  show spL X.K sp (.ref a :: (vs ++ [])) _ _ _
  rw [List.append_nil]
  refine ⟨.ref a :: ps, _, _, ⟨.ref a, vs, rfl, rfl, d1.keep (k2.trans k3)⟩, rp3, q1 a dx (r1.none ha) (r1.none hdx) ne, fun v G2 u H2 q2 d2 r2 k4 => ?_⟩
  obtain ⟨rfl, q2⟩ := q2
  exact ⟨d2, cl _ _ _ _ q2 rfl r2 (((k1.trans k2).trans k3).trans k4)⟩
end
end L3
namespace L2
open PySem PySem.Spec PyProof.Rows
noncomputable def XTa (h : Heap) (e T : Addr) (cls : Value) : Prop := ∃ oe vs oT ts fl, h.get? e = some oe ∧ oe.cls = cls ∧ oe.data = .fields vs ∧ vs[1]? = some (.ref T) ∧ T ≠ e ∧ h.get? T = some oT ∧ oT.data = .fields ts ∧ ts[3]? = some fl
theorem frames_on {h h' b : Heap} : ∀ {l : List Env}, h.FunFrames b l → (∀ a ∈ frs l, ∀ o, h.get? a = some o → ∃ sl, h'.get? a = some { o with slots := sl }) → h'.FunFrames b l
  | [], _, _ => trivial
  | env :: l, ⟨hk, ⟨L, o, hf, hn, ho, hd⟩, hr⟩, q => by
    have e : frs (env :: l) = L :: frs l := by unfold frs; rw [List.filterMap_cons, hf]
    rw [e] at q
    obtain ⟨sl, q1⟩ := q L (by simp) o ho
    exact ⟨hk, ⟨L, _, hf, hn, q1, hd⟩, frames_on hr fun a ha => q a (by simp [ha])⟩
noncomputable def NotedS (l : List Env) (e : Addr) (S : List Addr) (cls : Value) (h h' : Heap) : Prop :=
  (∃ T, XTa h' e T cls ∧ (T ∈ S ∨ h.get? T = none)) ∧ (∀ b o, b ∉ frs l → b ≠ e → b ∉ S → h.get? b = some o → h'.get? b = some o) ∧ ∀ b o, b ∈ frs l → h.get? b = some o → ∃ sl, h'.get? b = some { o with slots := sl }
section
variable {M : Model} {A : Around} {E : Value → Shared → Prop} {s : Shared}
theorem note_one {base : Heap} {env : Env} {outer : List Env} {e T : Addr} {cls : Value} {Q : Unit → Shared → Prop}
    (hfr : A.frames = some (env :: outer)) (hl : s.heap.FunFrames base (env :: outer)) (ht : XTr s.heap e T cls)
    (h : ∀ h', NotedS (env :: outer) e [T] cls s.heap h' → Q () { s with heap := h' }) : wpAny M A (noteFrame (.ref e) env) Q E s := by
  obtain ⟨B, b1, b2⟩ := holes s.heap (e :: ([T] ++ frs (env :: outer)))
  obtain ⟨oe, vs, oT, ts, h1, h2, h3, h4, h6, h7, h8, h9⟩ := ht
  obtain ⟨L, _, hf, _⟩ := hl.2.1
  have hv0 : vs[0]? = some vs[0]! := by
    have := (Array.getElem?_eq_some_iff.mp h4).1
    rw [Array.getElem?_eq_getElem (by omega)]
    simp [getElem!_pos, show 0 < vs.size by omega]
  refine wpAny_noteFrame_onW (base := B) (a0 := vs[0]!) hfr (frames_re hl fun a ha => b1 a (by simp [ha])) hf ⟨oe, vs, T, oT, ts, h1, ⟨h2, hv0⟩, h3, h4, b1 T (by simp), h6, h7, h8, h9⟩ (fun b o q => ?_) (b1 e (by simp)) fun h' x => h h' ?_
  · by_cases hm : b ∈ e :: ([T] ++ frs (env :: outer))
    · rw [b1 b hm] at q; cases q
    · rw [← b2 b hm]; exact q
  · obtain ⟨x1, x2, ⟨oe', vs', T', oT', ts', y1, y2, y3, y4, y5, y6, y7, y8, y9⟩, x4⟩ := x
    refine ⟨⟨T', ⟨oe', vs', oT', ts', _, y1, y2.1, y3, y4, y6, y7, y8, y9⟩, ?_⟩, fun b o n1 n2 n3 q => x1 b o ?_, fun b o hb q => ?_⟩
    · by_cases hS : T' ∈ [T]
      · exact .inl hS
      · refine .inr ?_
        rw [← b2 T' ?_]
        · exact y5
        · intro hm
          rcases List.mem_cons.mp hm with e1 | hm
          · exact y6 e1
          · rcases List.mem_append.mp hm with hm | hm
            · exact hS hm
            · obtain ⟨_, o, ho, hnf⟩ := x2.mem hm
              rw [y7] at ho
              cases ho
              exact hnf ts' y8
    · rw [b2 b (by simp [n1, n2, n3]; simpa using n3)]; exact q
    · obtain ⟨_, o', ho', hnf⟩ := hl.mem hb
      rw [q] at ho'
      cases ho'
      exact x4 b o q hnf
theorem leaving_any {base : Heap} {env : Env} {outer : List Env} {e T : Addr} {cls : Value} {Q : Unit → Shared → Prop}
    (hfr : A.frames = some (env :: outer)) (hl : s.heap.FunFrames base (env :: outer)) (ht : XTa s.heap e T cls)
    (h : ∀ h', LeftS (env :: outer) e [T] cls s.heap h' → Q () { s with heap := h' }) : wpAny M A (leaving env (.ref e)) Q E s := by
  obtain ⟨oe, vs, oT, ts, fl, he, hcls, hd, h1, hTe, hT, hdT, h3⟩ := ht
  subst hcls
  obtain ⟨L, _, hf, _⟩ := hl.2.1
  have hsz : 3 < ts.size := (Array.getElem?_eq_some_iff.mp h3).1
  have nrec : ∀ b ∈ frs (env :: outer), b ≠ T := fun b hb q => by
    obtain ⟨_, o, ho, hnf⟩ := hl.mem hb
    rw [q, hT] at ho
    cases ho
    exact hnf ts hdT
  unfold leaving
  by_cases hfl : fl = rawInt (L : Int)
  · subst hfl
    refine wpAny_bind (wpAny_noteFrame_inFlight hf he hd h1 hT hdT h3 ?_)
    unfold setFlight
    refine wpAny_bind (wpAny_field he hd h1 ?_)
    rw [if_pos (show (Value.ref T != Value.none) = true from by simp)]
    refine wpAny_setField hT hdT hsz (h _ ?_)
    have other : ∀ b, b ≠ T → (s.heap.update T (Obj.mapFields (·.setIfInBounds 3 Value.none))).get? b = s.heap.get? b := fun b hb => Heap.get?_update_other _ _ (Ne.symm hb)
    have self : (s.heap.update T (Obj.mapFields (·.setIfInBounds 3 Value.none))).get? T = some (Obj.mapFields (·.setIfInBounds 3 Value.none) oT) := by
      refine (Heap.get?_update_self _ hT ?_)
      obtain ⟨c, d, dt, sl⟩ := oT
      cases hdT
      rfl
    refine ⟨⟨T, ⟨oe, vs, _, ts.setIfInBounds 3 .none, (other e (Ne.symm hTe)).trans he, rfl, hd, h1, hTe, self, by obtain ⟨c, d, dt, sl⟩ := oT; cases hdT; rfl, by rw [Array.getElem?_setIfInBounds_self_of_lt hsz]⟩, .inl (by simp)⟩, fun b o _ _ nS q => (other b (by simpa using nS)).trans q, fun b o hb q => ⟨o.slots, (other b (nrec b hb)).trans q⟩⟩
  · obtain ⟨B, b1, b2⟩ := holes s.heap (e :: ([T] ++ frs (env :: outer)))
    have hl' := frames_re (b := B) hl fun a ha => b1 a (by simp [ha])
    have hkb : B.StaysIn s.heap := fun b o q => by
      by_cases hm : b ∈ e :: ([T] ++ frs (env :: outer))
      · rw [b1 b hm] at q; cases q
      · rw [← b2 b hm]; exact q
    have hnT : B.get? T = none := b1 T (by simp)
    refine wpAny_bind ?_
    unfold noteFrame
    simp only [hf]
    refine wpAny_bind (wpAny_field he hd h1 ?_)
    rw [if_pos (show (Value.ref T != Value.none) = true from by simp)]
    refine wpAny_bind (wpAny_field hT hdT h3 ?_)
    rw [if_neg (show ¬ ((fl == rawInt (L : Int)) = true) from by simpa using hfl)]
    refine wpAny_bind (wpAny_setField hT hdT hsz ?_)
    have other : ∀ b, b ≠ T → (s.heap.update T (Obj.mapFields (·.setIfInBounds 3 Value.none))).get? b = s.heap.get? b := fun b hb => Heap.get?_update_other _ _ (Ne.symm hb)
    have noRecord : ∀ b o, s.heap.get? b = some o → (∀ vs, o.data ≠ .fields vs) → b ≠ T := fun b o hb hnf q => by
      rw [q, hT] at hb; injection hb with hb; subst hb; exact hnf ts hdT
    exact wpAny_newEntry (base := B) hfr (hl'.of_keeps fun b o hb hnf => ⟨o, (other b (noRecord b o hb hnf)).trans hb, rfl⟩) hf ((other e (Ne.symm hTe)).trans he)
      (fun b o hbo => (other b fun q => by rw [q, hnT] at hbo; cases hbo).trans (hkb b o hbo)) (b1 e (by simp)) hd (Array.getElem?_eq_some_iff.mp h1).1
      fun h' ⟨x1, x2, x3, x4⟩ => h h' (leftS_of b2 hl ⟨x1, x2, x3, fun b o hb hnf => x4 b o ((other b (noRecord b o hb hnf)).trans hb) hnf⟩)
end
noncomputable def compXe (X : Cx) (cenv : Env) (C : Addr) : Value → Shared → Prop := notedBy (model X.prog X.w) X.A cenv fun x s' => compPost (model X.prog X.w) X.A X.xe none (fun _ _ => True) .none C (.error x) s'
noncomputable abbrev cxCompX (X : Cx) (M : List Str) (scope : Scope) (C : Addr) (s : Shared) (H : Hp) (fp : List Addr) : Cx := (cxComp X M scope C s H fp).wish (compXe X (compEnvC scope (clOf X.env.cells scope.names []) C X.env) C)
section
variable {P : Program} {w : World} {K : PySem.W.Frag} {mg : Str → Option Value} {base : Heap} {N : List Str} {qual : Str} {scope scope' : Scope} {f : Addr} {cdv : Value} {A : Around} {outer : List Env} {s s2 : Shared} {H H2 : Hp} {E : XK} {D C : Addr} {M : List Str} {fp : List Addr} {pins : List (Addr × Obj)} {σ : St}
theorem passesC (I2 : Inv (cxOf (CX1 P w D) P w K mg base N qual scope' f cdv A outer s H E) pins σ H2 s2) (hC : s2.heap.objs.size ≤ C) (hf : ∀ b ∈ fp, FpOk (cxOf (CX1 P w D) P w K mg base N qual scope' f cdv A outer s H E) pins H2 b) :
    Passes (CX1 P w D) (cxCompX (cxOf (CX1 P w D) P w K mg base N qual scope' f cdv A outer s H E) M scope C s2 H2 fp) E := by
  rintro pins1 σ1 H1 s1 e s' I ⟨x, T, H', rfl, tr, nx, nT, hx, hT, os, bare, un, hok, hE⟩
  have J := I.call' (ch := []) os un hok bare (fun b z => absurd z (by simp))
  have JC := Inv.unpinned (pins := []) (pl := pins1) (Inv.unwish J)
  have JX : Inv (cxOf (CX1 P w D) P w K mg base N qual scope' f cdv A outer s H E) pins σ H' s' := comp_end I2 hC hf JC (h' := s'.heap) ⟨rfl, fun _ _ => rfl⟩
  have hs2 : ∀ a, s2.heap.get? a = none → s.heap.get? a = none := fun a q => by
    cases q0 : s.heap.get? a with
    | none => rfl
    | some o =>
      obtain ⟨o', q'⟩ := I2.base.there a o q0 (by show a ∉ []; simp)
      rw [q] at q'; cases q'
  have hJ : ∀ a, s'.heap.get? a = none → s.heap.get? a = none := fun a q => by
    cases q0 : s.heap.get? a with
    | none => rfl
    | some o =>
      obtain ⟨o', q'⟩ := JX.base.there a o q0 (by show a ∉ []; simp)
      rw [q] at q'; cases q'
  have h1s : ∀ a, s1.heap.get? a = none → s.heap.get? a = none := fun a q => by
    have II : Inv (cxOf (CX1 P w D) P w K mg base N qual scope' f cdv A outer s H E) pins σ H1 s1 := comp_end I2 hC hf (Inv.unpinned (pins := []) (pl := pins1) (Inv.unwish I)) (h' := s1.heap) ⟨rfl, fun _ _ => rfl⟩
    cases q0 : s.heap.get? a with
    | none => rfl
    | some o =>
      obtain ⟨o', q'⟩ := II.base.there a o q0 (by show a ∉ []; simp)
      rw [q] at q'; cases q'
  have hCs : s.heap.get? C = none := by
    cases q0 : s.heap.get? C with
    | none => rfl
    | some o =>
      obtain ⟨o', q'⟩ := I2.base.there C o q0 (by show C ∉ []; simp)
      exact absurd (Heap.lt_size q') (Nat.not_lt.mpr hC)
  have hCH : H' C = none := JC.free
  obtain ⟨m, hns, _⟩ := JC.loc
  show wpAny (model P w) _ (noteFrame (.ref x) (envOfC qual scope' s.heap.objs.size f cdv)) _ _ s'
  have hstk : s'.heap.FunFrames base (envOfC qual scope' s.heap.objs.size f cdv :: outer) := JX.stack
  refine note_one (base := base) JX.ok.frames hstk tr fun h1 hN => ?_
  obtain ⟨⟨T1, tr1, hT1⟩, k1, k2⟩ := hN
  have hCf : C ∉ frs (envOfC qual scope' s.heap.objs.size f cdv :: outer) := fun hm => by
    have hz := (I2.stack.mem hm)
    obtain ⟨_, o, ho, _⟩ := hz
    exact absurd (Heap.lt_size ho) (Nat.not_lt.mpr hC)
  have hCfree : H' T1 = none ∧ s.heap.get? T1 = none := by
    rcases hT1 with z | z
    · cases List.mem_singleton.mp z
      exact ⟨hT, h1s _ nT⟩
    · exact ⟨hok.none_of z, hJ _ z⟩
  obtain ⟨oC, es, ep, hoC, hdC, hsk, hnf⟩ := id hns
  have hCx : C ≠ x := fun z => by
    subst z
    obtain ⟨oe, vs, oT, ts, y1, y2, y3, _⟩ := tr
    have hoC' : s'.heap.get? C = some oC := hoC
    rw [y1] at hoC'; cases hoC'
    rw [hdC] at y3; cases y3
  have hCT : C ≠ T := fun z => by
    subst z
    obtain ⟨oe, vs, oT, ts, y1, y2, y3, y4, y5, y6, y7, y8⟩ := tr
    have hoC' : s'.heap.get? C = some oC := hoC
    rw [y6] at hoC'; cases hoC'
    rw [hdC] at y7; cases y7
  have hC1 : h1.get? C = some oC := k1 C oC hCf hCx (by simpa using hCT) hoC
  refine ⟨m, ⟨oC, es, ep, hC1, hdC, hsk, hnf⟩, fun h2 hb cenv' hcl => ?_⟩
  obtain ⟨hb1, hb2⟩ := hb
  obtain ⟨oe, vs, oT, ts, fl, y1, y2, y3, y4, y5, y6, y7, y8⟩ := tr1
  have hT1C : T1 ≠ C := fun z => by
    subst z
    rw [hC1] at y6; cases y6
    rw [hdC] at y7; cases y7
  have z1 : h2.get? x = some oe := (hb2 x (Ne.symm hCx)).trans y1
  have z6 : h2.get? T1 = some oT := (hb2 T1 hT1C).trans y6
  have hsz : 3 < ts.size := (Array.getElem?_eq_some_iff.mp y8).1
  unfold PySem.passOn
  refine wpAny_bind (wpAny_field z1 y3 y4 ?_)
  rw [if_neg (show ¬ ((Value.ref T1 == Value.none) = true) from by simp)]
  unfold setFlight
  refine wpAny_bind (wpAny_bind (wpAny_field z1 y3 y4 ?_))
  rw [if_pos (show (Value.ref T1 != Value.none) = true from by simp)]
  refine wpAny_setField z6 y7 hsz (wpAny_throw ?_)
  generalize (cenv'.frame.elim Value.none fun f => rawInt ↑f) = fl'
  have other : ∀ b, b ≠ T1 → (h2.update T1 (Obj.mapFields (·.setIfInBounds 3 fl'))).get? b = h2.get? b := fun b hb => Heap.get?_update_other _ _ (Ne.symm hb)
  have self : (h2.update T1 (Obj.mapFields (·.setIfInBounds 3 fl'))).get? T1 = some (Obj.mapFields (·.setIfInBounds 3 fl') oT) := by
    refine (Heap.get?_update_self _ z6 ?_)
    obtain ⟨c, d, dt, sl⟩ := oT
    cases y7
    rfl
  have tr3 : XTa (h2.update T1 (Obj.mapFields (·.setIfInBounds 3 fl'))) x T1 (.ref D) := ⟨oe, vs, _, ts.setIfInBounds 3 fl', fl', (other x (Ne.symm y5)).trans z1, y2, y3, y4, y5, self, by obtain ⟨c, d, dt, sl⟩ := oT; cases y7; rfl, by rw [Array.getElem?_setIfInBounds_self_of_lt hsz]⟩
  generalize h2.update T1 (Obj.mapFields (·.setIfInBounds 3 fl')) = h3 at other self tr3 ⊢
  have nT1f : ∀ b ∈ frs (envOfC qual scope' s.heap.objs.size f cdv :: outer), b ≠ T1 := fun b hb z => by
    subst z
    obtain ⟨_, o, ho, hnf'⟩ := hstk.mem hb
    obtain ⟨sl, q⟩ := k2 _ o hb ho
    rw [y6] at q; cases q
    exact hnf' ts y7
  have frm : ∀ b ∈ frs (envOfC qual scope' s.heap.objs.size f cdv :: outer), ∀ o, s'.heap.get? b = some o → ∃ sl, h3.get? b = some { o with slots := sl } := fun b hb o q => by
    obtain ⟨sl, q1⟩ := k2 b o hb q
    refine ⟨sl, ?_⟩
    rw [other b (nT1f b hb), hb2 b (fun z => hCf (by rw [← z]; exact hb))]
    exact q1
  have oth3 : ∀ b o, b ∉ frs (envOfC qual scope' s.heap.objs.size f cdv :: outer) → b ≠ x → b ≠ T → b ≠ T1 → b ≠ C → s'.heap.get? b = some o → h3.get? b = some o := fun b o n1 n2 n3 n4 n5 q => by
    rw [other b n4, hb2 b n5]
    exact k1 b o n1 n2 (by simpa using n3) q
  show wpAny (model P w) _ (leaving (envOfC qual scope' s.heap.objs.size f cdv) (.ref x)) _ _ _
  refine leaving_any (s := { s' with heap := h3 }) (base := base) JX.ok.frames (frames_on hstk frm) tr3 fun h4 hL => ?_
  obtain ⟨⟨T2, tr4, hT2⟩, l1, l2⟩ := hL
  refine left_end (X := cxOf (CX1 P w D) P w K mg base N qual scope' f cdv A outer s H E) (s1 := s') (S := [T, T1, C]) JX rfl (size_none _) hx (h1s x nx) (fun t ht => ?_) ⟨⟨T2, tr4, ?_⟩, fun b o n1 n2 n3 q => ?_, fun b o hb q => ?_⟩ hE
  · rcases List.mem_cons.mp ht with z | ht
    · rw [z]; exact ⟨hT, h1s _ nT⟩
    rcases List.mem_cons.mp ht with z | ht
    · rw [z]; exact hCfree
    cases List.mem_singleton.mp ht
    exact ⟨hCH, hCs⟩
  · rcases hT2 with z | z
    · cases List.mem_singleton.mp z
      exact .inl (by simp)
    · by_cases zT : T2 = T
      · exact .inl (by simp [zT])
      by_cases z1' : T2 = T1
      · exact .inl (by simp [z1'])
      by_cases zC : T2 = C
      · exact .inl (by simp [zC])
      refine .inr ?_
      cases q0 : s'.heap.get? T2 with
      | none => rfl
      | some o =>
        exfalso
        obtain ⟨_, _, _, _, _, _, _, _, w5, _⟩ := tr4
        by_cases hm : T2 ∈ frs (envOfC qual scope' s.heap.objs.size f cdv :: outer)
        · obtain ⟨sl, q1⟩ := frm T2 hm o q0
          rw [z] at q1; cases q1
        · have := oth3 T2 o hm w5 zT z1' zC q0
          rw [z] at this; cases this
  · have n3' : b ≠ T ∧ b ≠ T1 ∧ b ≠ C := by simpa using n3
    exact l1 b o n1 n2 (by simpa using n3'.2.1) (oth3 b o n1 n2 n3'.1 n3'.2.1 n3'.2.2 q)
  · obtain ⟨sl, q1⟩ := frm b hb o q
    obtain ⟨sl', q2⟩ := l2 b _ hb q1
    exact ⟨sl', q2⟩
end
end L2
namespace L2
open PySem PySem.Spec PyProof.Rows
section
variable {X : Cx} {scope : Scope} {M : List Str} {ix : List (Option Nat)} {j : Nat} {x : Str}
theorem comp_blockX {elt iter : Expr} {px : Pos} {ifs : List Expr} {pos : Pos} {tf : TT} {te : TE} {pins : List (Addr × Obj)} {σ : St} {H : Hp} {s : Shared} {fp : List Addr} {it : Addr} {tn : Nat → Heap → Prop} {J : It} {h1 : Heap} {tk : Nat} {Q : VK} {R : Result → Shared → Prop}
    (S : CompScope X.env.scope X.N scope M ix j x) (hc : X.calm = true) (I : Inv X pins σ H s)
    (hF : PF (cxCompX X M scope (s.heap.objs.size + 1) s H fp) ifs tf) (hE : PE (cxCompX X M scope (s.heap.objs.size + 1) s H fp) elt te)
    (T : Turn X.prog X.w X.K (.Name x px) J fp it tn) (st : tn 0 s.heap) (hf : ∀ b ∈ fp, FpOk X pins H b)
    (I0 : Inv (cxCompX X M scope (s.heap.objs.size + 1) s H fp) [] (cap ix σ) (upd H s.heap.objs.size (.lst [])) { s with heap := h1, toks := tk }) (old : ∀ b o, s.heap.get? b = some o → h1.get? b = some o)
    (q : CompGo J ix j σ tf te Q H s.heap.objs.size)
    (hRe : ∀ e s', compXe X (compEnvC scope (clOf X.env.cells scope.names []) (s.heap.objs.size + 1) X.env) (s.heap.objs.size + 1) e s' → notedBy (model X.prog X.w) X.A (compEnvC scope (clOf X.env.cells scope.names []) (s.heap.objs.size + 1) X.env) (fun e s' => R (.error e) s') e s')
    (hR : ∀ H' s', Inv (cxCompX X M scope (s.heap.objs.size + 1) s H fp) [] (cap ix σ) H' s' → Q (.ref s.heap.objs.size) H' → R (.ok .next) s') :
    codeAny (model X.prog X.w) X.A (.compLoop (.ListComp elt [⟨.Name x px, iter, ifs, 0⟩] scope pos) 0 (.ref it) (.ref s.heap.objs.size) (compEnvC scope (clOf X.env.cells scope.names []) (s.heap.objs.size + 1) X.env)) R { s with heap := h1, toks := tk } := by
  obtain ⟨W, ⟨m0, w0⟩, turn⟩ := q
  have hD : s.heap.objs.size ∉ fp := fun z => by
    obtain ⟨o, e, _⟩ := T.obj 0 s.heap st _ z
    exact absurd (Heap.lt_size e) (Nat.lt_irrefl _)
  have hlt : ∀ b ∈ fp, b < s.heap.objs.size := fun b hb => by
    obtain ⟨o, e, _⟩ := T.obj 0 s.heap st b hb
    exact Heap.lt_size e
  have stat : ∀ {H' : Hp}, (∀ b ∈ fp, H' b = none) → ∀ b ∈ fp, FpOk (cxCompX X M scope (s.heap.objs.size + 1) s H fp) [] H' b := fun hn b hb =>
    ⟨hn b hb, Nat.ne_of_lt (Nat.lt_succ_of_lt (hlt b hb)), I0.ok.exfs b hb, .inl hb, (I0.ok.exf b hb).2, fun p hp => absurd (show p ∈ ([] : List (Addr × Obj)) from hp) (by simp)⟩
  have own := cap_own S.own σ
  refine compLoop_own rfl (fun n s' => ∃ i H', Inv (cxCompX X M scope (s.heap.objs.size + 1) s H fp) [] (cap ix σ) H' s' ∧ tn i s'.heap ∧ (∀ b ∈ fp, H' b = none) ∧ W i n H') ?_ m0
    ⟨0, _, I0, T.keep 0 _ _ st fun b _ o e => old b o e, fun b hb => by rw [upd_ne (Nat.ne_of_lt (hlt b hb))]; exact (hf b hb).1, w0⟩
  rintro n s3 ⟨i, H3, I3, st3, fr3, w3⟩
  rcases turn i n H3 w3 with ⟨stop, qn⟩ | ⟨go, step⟩
  · refine wpAny_mono (T.done (cxCompX X M scope (s.heap.objs.size + 1) s H fp) rfl rfl rfl hc i [] s3 (cap ix σ) H3 (fun _ _ => False) I3 (stat fr3) st3 stop) (fun r s4 ⟨hr, I4⟩ => ?_) (fun _ _ z => z.elim)
    subst hr
    exact hR H3 s4 I4 qn
  · refine wpAny_mono (T.item (cxCompX X M scope (s.heap.objs.size + 1) s H fp) rfl rfl rfl hc i [] s3 (cap ix σ) H3 (fun _ _ => False) I3 (stat fr3) st3 go) (fun r s4 ⟨u, hr, h4⟩ => ?_) (fun _ _ z => z.elim)
    subst hr
    refine wpAny_mono h4 (fun _ s5 ⟨y, H5, I5, r5, y5, st5, fr5⟩ => ?_) (fun _ _ z => z.elim)
    have I5' := I5.pinned (stat fr5) (T.obj _ _ st5)
    have pg : PG (cxCompX X M scope (s.heap.objs.size + 1) s H fp) (.Name x px) (gName j) :=
      pg_name S.nd S.tgt (.inl (by show (relabel scope X.env).names.lookup x = some .local; exact lookup_relabel_local S.loc)) (.inr (by show (relabel scope X.env).names.lookup x = some .local; exact lookup_relabel_local S.loc))
    refine wpAny_mono (pg _ s5 (cap ix σ) H5 y u (fun σ2 H2 => σ2 = (cap ix σ).set j (some y) ∧ H2 = H5) I5' r5 ⟨rfl, rfl⟩) (fun _ s6 ⟨σ6, H6, I6, e6, eh6⟩ => ?_) hRe
    subst e6; subst eh6
    have again : ∀ {H7 : Hp} {s7 : Shared}, Inv (cxCompX X M scope (s.heap.objs.size + 1) s H fp) ([] ++ pinsAt fp s5.heap) ((cap ix σ).set j (some y)) H7 s7 → (∃ m', m' < n ∧ W (i + 1) m' H7) →
        ∃ m, m < n ∧ ∃ i H', Inv (cxCompX X M scope (s.heap.objs.size + 1) s H fp) [] (cap ix σ) H' s7 ∧ tn i s7.heap ∧ (∀ b ∈ fp, H' b = none) ∧ W i m H' := fun {H7 s7} I7 ⟨m', hm, w7⟩ => by
      have Iw : Inv (cxCompX X M scope (s.heap.objs.size + 1) s H fp) [] (cap ix σ) H7 s7 := (Inv.unpinned (pins := []) I7).weak (by simp) (set_weak own)
      refine ⟨m', hm, i + 1, H7, Iw, T.keep _ _ _ st5 fun b hb o e => (I7.pin (b, o) (List.mem_append_right _ (List.mem_append_right _ (mem_pinsAt hb e)))).1, fun b hb => ?_, w7⟩
      obtain ⟨o, e, d⟩ := T.obj _ _ st5 b hb
      exact (I7.pin (b, o) (List.mem_append_right _ (List.mem_append_right _ (mem_pinsAt hb e)))).2.1
    refine wpAny_mono (hF _ s6 _ _ _ I6 (step y _ y5)) (fun b s7 ⟨H7, I7, q7⟩ => ?_) hRe
    cases b with
    | false =>
      simp only [Bool.false_eq_true, if_false] at q7 ⊢
      exact again I7 q7
    | true =>
      simp only [if_true] at q7 ⊢
      refine wpAny_mono (hE _ s7 _ H7 _ I7 q7) (fun v s8 ⟨z, H8, I8, r8, ys, hy, hz, q8⟩ => ?_) hRe
      refine wpAny_mono (mt_append (X := cxCompX X M scope (s.heap.objs.size + 1) s H fp) _ s8 _ H8 (.ref s.heap.objs.size) [z] (.ref s.heap.objs.size) [v] (fun _ H' => H' = upd H8 s.heap.objs.size (.lst (ys ++ [z]))) I8 rfl (.cons r8 .nil) ⟨s.heap.objs.size, ys, z, rfl, rfl, hy, hz, rfl⟩) (fun w s9 ⟨_, H9, I9, _, e9⟩ => ?_) hRe
      subst e9
      exact again I9 q8
theorem pe_compX {elt iter : Expr} {px : Pos} {ifs : List Expr} {pos : Pos} {wi : TI} {tf : TT} {te : TE} (S : CompScope X.env.scope X.N scope M ix j x) (hc : X.calm = true) (hi : PI X (.Name x px) iter wi)
    (hb : ∀ C s H fp pins σ, Inv X pins σ H s → s.heap.objs.size ≤ C → (∀ b ∈ fp, FpOk X pins H b) → PF (cxCompX X M scope C s H fp) ifs tf ∧ PE (cxCompX X M scope C s H fp) elt te) (hs : ∀ x, foldedSetIterable iter X.env x = pure x := by intro _; rfl) :
    PE X (.ListComp elt [⟨.Name x px, iter, ifs, 0⟩] scope pos) (tComp wi ix j tf te) := by
  intro pins s σ H Q I h
  rw [eval_ListComp]
  refine wpAny_comprehension_free (use := none) rfl hs (closureFor_cl fun y hy e => I.ok.has y.1 (S.free y hy e)) S.kind S.names (wpAny_mono (hi pins s σ H _ I h) (fun xv s₁ h₁ => wpAny_mono h₁ (fun it s₂ h₂ => ?_) fun _ _ e => e) fun _ _ e => e)
  obtain ⟨it, fp, tn, J, H2, rfl, I2, T, st2, f2, q⟩ := h₂
  refine wpAny_newObj_type (wpAny_newFunctionEnv S.nocell (by intro y hy; simp at hy) (fun h₁ hns₁ hsb₁ => ?_) S.kind)
  dsimp only at hns₁ hsb₁ ⊢
  have hC : (s₂.heap.push { cls := .type "list", dict := none, data := .seq ([] : List Value).toArray }).objs.size = s₂.heap.objs.size + 1 := Heap.size_push ..
  rw [hC] at hns₁ hsb₁ ⊢
  have below : ∀ b, b < s₂.heap.objs.size → b ≠ s₂.heap.objs.size + 1 := fun b hb => Nat.ne_of_lt (Nat.lt_succ_of_lt hb)
  have old : ∀ b o, s₂.heap.get? b = some o → h₁.get? b = some o := fun b o e => hsb₁.extBut b o (below b (Heap.lt_size e)) (Heap.get?_push_of_some _ (Heap.get?_push_of_some _ e))
  have hD : h₁.get? s₂.heap.objs.size = some { cls := .type "list", data := .seq ([] : List Value).toArray 0 } := hsb₁.extBut _ _ (Nat.ne_of_lt (Nat.lt_succ_self _)) (Heap.get?_push_of_some _ (Heap.get?_push_size _ rfl))
  have ns : h₁.Ns (s₂.heap.objs.size + 1) fun _ => none := hns₁
  have hft : ∀ b ∈ fp, b < s₂.heap.objs.size := fun b hb => by
    obtain ⟨o, e, _⟩ := T.obj 0 s₂.heap st2 b hb
    exact Heap.lt_size e
  have I0 := ((comp_start (h1 := h₁) S I2 f2 hft old hD ns).tok s₂.toks).wish (compXe X (compEnvC scope (clOf X.env.cells scope.names []) (s₂.heap.objs.size + 1) X.env) (s₂.heap.objs.size + 1))
  have hfr : H2 s₂.heap.objs.size = none := I2.hok.fresh (Nat.le_refl _)
  have loop : codeAny (model X.prog X.w) X.A (.compLoop (.ListComp elt [⟨.Name x px, iter, ifs, 0⟩] scope pos) 0 (.ref it) (.ref s₂.heap.objs.size) (compEnvC scope (clOf X.env.cells scope.names []) (s₂.heap.objs.size + 1) X.env))
      (compPost (model X.prog X.w) X.A X.xe none (EP X pins σ Q) (.ref s₂.heap.objs.size) (s₂.heap.objs.size + 1)) { s₂ with heap := h₁, toks := s₂.toks } := by
    refine comp_blockX (Q := Q) S hc I2 (hb _ _ _ _ _ _ I2 (Nat.le_succ _) f2).1 (hb _ _ _ _ _ _ I2 (Nat.le_succ _) f2).2 T st2 f2 I0 old (q _ hfr) (fun _ _ z => z) fun H' s' I' qq => ?_
    obtain ⟨m, hn, _⟩ := I'.loc
    exact ⟨m, hn, fun h' hb' => ⟨.ref s₂.heap.objs.size, H', comp_end I2 (Nat.le_succ _) f2 I'.unwish hb', rfl, qq⟩⟩
  exact codeAny_compStart_list loop (T.self _ 0 _ _ _ (T.keep 0 _ _ st2 fun b _ o e => old b o e) loop)
end
end L2
namespace L3
open PySem L2 PySem.Spec PyProof.Rows
section
variable {P : Program} {w : World} {K : PySem.W.Frag} {mg : Str → Option Value} {base : Heap} {D C : Addr} {N : List Str} {qual : Str} {scope' : Scope} {f : Addr} {cdv : Value} {A : Around} {outer : List Env} {s : Shared} {H : Hp} {E : XK}
theorem j_compX {scope : Scope} {M : List Str} {ix : List (Option Nat)} {j : Nat} {x : Str} {elt iter : Expr} {px pos : Pos} {ifs : List Expr} {ti : TI2} {tf : T2} {te : E2}
    (S : compOkB (cxOf (CX1 P w D) P w K mg base N qual scope' f cdv A outer s H E).env.scope N scope M ix j x = true) (hi : JI (cxOf (CX1 P w D) P w K mg base N qual scope' f cdv A outer s H E) (.Name x px) iter ti)
    (hb : ∀ C s2 H2 fp, Passes (CX1 P w D) (cxCompX (cxOf (CX1 P w D) P w K mg base N qual scope' f cdv A outer s H E) M scope C s2 H2 fp) E →
      JF (cxCompX (cxOf (CX1 P w D) P w K mg base N qual scope' f cdv A outer s H E) M scope C s2 H2 fp) ifs tf ∧ JE (cxCompX (cxOf (CX1 P w D) P w K mg base N qual scope' f cdv A outer s H E) M scope C s2 H2 fp) elt te)
    (hs : ∀ x, foldedSetIterable iter (cxOf (CX1 P w D) P w K mg base N qual scope' f cdv A outer s H E).env x = pure x := by intro _; rfl) :
    JE (cxOf (CX1 P w D) P w K mg base N qual scope' f cdv A outer s H E) (.ListComp elt [⟨.Name x px, iter, ifs, 0⟩] scope pos) (eComp ti ix j tf te) :=
  .of (pe_compX (compS S) rfl hi.h (fun C s2 H2 fp pins σ I hC hf => ⟨(hb C s2 H2 fp (passesC I hC hf)).1.h, (hb C s2 H2 fp (passesC I hC hf)).2.h⟩) hs) fun σ H Q q => low_comp q
end
section
variable {X : Cx} {D C : Addr} {E : XK} {EX : Gp → Prop}
variable {k k' : Nat} {m : Str} {f' : Addr} {fd : FuncData} {ps : List Str} {o e : Expr} {es : List Expr} {to : E2} {t : A2} {pos apos : Pos} {pl : Sem Bool}
theorem j_metP {sp : Sp3} (hp : Passes (CX1 X.prog X.w D) X E) (hX : XW X.K D E EX) (Mt : MetX X.prog X.w X.K X.mg X.base D C k m f' fd ps sp) (hr : Room k' X.A) (hk : k ≤ k') (ho : JE X o to) (ha : JA X (e :: es) t)
    (hst : starEach (e :: es) X.env = (false, eval e X.env) :: starEach es X.env := by rfl) (hpl : (backTo pos (starEach es X.env)).any (·.1) = false := by rfl)
    (ht : eval (.Call (.Attribute o m apos) (e :: es) [] pos) X.env = (do
      let ov ← eval o X.env
      standAt apos.atName
      let (fv, first) ← holding [ov] (getMethod ov m pl)
      callWith pos fv first (backTo pos (starEach (e :: es) X.env)) (backToKw pos (keywordEach [] X.env))) := by rfl) :
    JE X (.Call (.Attribute o m apos) (e :: es) [] pos) (eMetX C m sp EX to t) :=
  .of (pe_meth (pl := pl) ho.h Mt.c Mt.m (Mt.ok.mono hk) hr Mt.b .nil hp ha.h hst hpl ht) fun σ H1 Q q => low_metX hX q
end
end L3
namespace L3
open PySem L2 PySem.Spec PyProof.Rows
theorem passN {P : Program} {w : World} {D : Addr} {X : Cx} : Passes (CX1 P w D) X (fun _ _ _ => False) := by
  rintro pins σ H1 s1 e s' I ⟨x, T, H', rfl, tr, nx, nT, hx, hT, os, bare, un, hok, hE⟩
  exact hE.elim
theorem xwN {K : PySem.W.Frag} {D : Addr} : XW K D (fun _ _ _ => False) (fun _ => False) := fun _ _ h _ => h
section
variable {X : Cx} {D : Addr} {k k' : Nat} {x : Str} {f' : Addr} {fd : FuncData} {ps : List Str} {sp : Sp3} {e : Expr} {es : List Expr} {t : A2} {pos p : Pos} {E : XK} {EX : Gp → Prop}
theorem j_calP (hp : Passes (CX1 X.prog X.w D) X E) (hX : XW X.K D E EX) (Cl : CalX X.prog X.w X.K X.mg X.base D k x f' fd ps sp) (hr : Room k' X.A) (hk : k ≤ k')
    (ha : JA X (e :: es) t) (hg : Gl X x := by rfl) (hdb : (x == ("__debug__" : Str)) = false := by decide)
    (he : starEach (e :: es) X.env = (false, eval e X.env) :: starEach es X.env := by rfl) (hpl : (backTo pos (starEach es X.env)).any (·.1) = false := by rfl) :
    JE X (.Call (.Name x p) (e :: es) [] pos) (eCallX sp EX t) :=
  .of (pe_call (Cl.ok.mono hk) hr hg Cl.m Cl.kp Cl.b .nil hp ha.h hdb he hpl) fun σ H1 Q q => by
    obtain ⟨τ, G, Q2, rs, rp, q, cl⟩ := q
    refine ⟨τ, G, _, rs, rp, q, fun ps G1 vs H2 q1 d1 r1 k1 => ?_⟩
    show spX X.K D sp (vs ++ []) H2 Q E
    rw [List.append_nil]
    exact ⟨ps, G1, Q2, EX, d1, r1, q1, cl.keep k1, hX⟩
theorem j_calN (Cl : CalX X.prog X.w X.K X.mg X.base D k x f' fd ps sp) (hr : Room k' X.A) (hk : k ≤ k')
    (ha : JA X (e :: es) t) (hg : Gl X x := by rfl) (hdb : (x == ("__debug__" : Str)) = false := by decide)
    (he : starEach (e :: es) X.env = (false, eval e X.env) :: starEach es X.env := by rfl) (hpl : (backTo pos (starEach es X.env)).any (·.1) = false := by rfl) :
    JE X (.Call (.Name x p) (e :: es) [] pos) (eCallX sp (fun _ => False) t) := j_calP passN xwN Cl hr hk ha hg hdb he hpl
end
end L3
namespace L2
open PySem PySem.Spec PyProof.Rows
theorem tupleExact_yes {prog : Program} {w : World} {A : Around} {E : Value → Shared → Prop} {s : Shared} {t : Addr} {items : Array Value} {Q : Bool → Shared → Prop} (ht : IsTup s.heap t items) (h : Q true s) : wpAny (model prog w) A (Builtin.Tuple.tupleIsExact (.ref t)) Q E s := by
  unfold Builtin.Tuple.tupleIsExact
  exact wpAny_bind (wpAny_typeOf ht.typeIs (wpAny_pure h))
theorem getItem_tuple_whole {prog : Program} {w : World} {A : Around} {E : Value → Shared → Prop} {s : Shared} {t sl : Addr} {items : Array Value} {vl vu : Value} {lo hi : Option Int} {Q : Value → Shared → Prop} (ht : IsTup s.heap t items) (hs : s.heap.IsSliceOf sl vl vu .none) (pl : IsPart vl lo) (pu : IsPart vu hi)
    (hw : HT.sIx items.size 0 lo = 0 ∧ HT.sIx items.size items.size hi = items.size) (h : Q (.ref t) s) : wpAny (model prog w) A (getItem (.ref t) (.ref sl)) Q E s := by
  obtain ⟨os, hos, hcs, hds⟩ := id hs
  have hTs : s.TypeIs (.ref sl) "slice" := ⟨os, hos, hcs⟩
  unfold getItem
  try with_reducible refine wpAny_holding ?_
  first | refine wpAny_bind (wpAny_pure ?_) | skip
  refine wpAny_bind (wpAny_sequenceKey ht.typeIs (by decide) ?_)
  refine wpAny_bind (wpAny_callSpecial?_slot (name := Str.ofString "__getitem__") ht.typeIs PyProof.Rows.slot_tuple_getitem
    (wpAny_call_entry PyProof.Rows.slot_tuple_getitem ht.typeIs entry_tuple_getitem ?_ (args_tuple_getitem _ _)))
  show wpAny _ _ (Builtin.Tuple.tupleItemsOf (.ref t) >>= _) _ _ s
  refine wpAny_bind (tupleItemsOf_ ht ?_)
  refine wpAny_bind (wpAny_typeOf hTs ?_)
  rw [if_pos (by decide)]
  refine wpAny_bind (HT.sliceApplied_gen hs pl pu ?_)
  have hyes : (((HT.sIx items.size 0 lo : Nat) : Int) == 0 && (1 : Int) == 1 && (HT.sIx items.size items.size hi - HT.sIx items.size 0 lo) == items.size) = true := by
    rw [hw.1, hw.2]; simp
  show wpAny _ _ (if (((HT.sIx items.size 0 lo : Nat) : Int) == 0 && (1 : Int) == 1 && (HT.sIx items.size items.size hi - HT.sIx items.size 0 lo) == items.size) = true then _ else _) _ _ s
  rw [if_pos hyes]
  refine wpAny_bind (tupleExact_yes ht ?_)
  rw [if_pos rfl]
  first
    | exact wpAny_bind (wpAny_rule (wpAny_pure ⟨_, rfl, wpAny_pure h⟩))
    | exact wpAny_bind (wpAny_bind (wpAny_rule (wpAny_pure ⟨_, rfl, wpAny_pure h⟩)))
    | exact wpAny_bind (wpAny_rule ⟨_, rfl, wpAny_pure h⟩)
noncomputable def rSlW (K : PySem.W.Frag) : V → Option Int → Option Int → Hp → VK → Prop := fun x lo hi H Q => ∃ a xs, x = .ref a ∧ SqT K H a xs ∧ (HT.sIx xs.length 0 lo = 0 ∧ HT.sIx xs.length xs.length hi = xs.length) ∧ Q (.ref a) H
theorem sl_whole {X : Cx} : SlR X (rSlW X.K) := by
  intro pins s σ H x v vl vu lo hi sl Q I rx hs pl pu h
  obtain ⟨a, xs, rfl, hx, hw, q⟩ := h
  cases rx
  obtain ⟨its, r, ht, hz⟩ := I.tuple hx
  have hlen : its.toArray.size = xs.length := by rw [List.size_toArray]; exact r.length.symm
  refine ⟨"tuple", _, PyProof.Rows.slot_tuple_getitem.lookup, ht.typeIs, ?_⟩
  exact getItem_tuple_whole ht hs pl pu (by rw [hlen]; exact hw) ⟨.ref a, H, I, rfl, q⟩
end L2
namespace L3
open PySem L2 PySem.Spec PyProof.Rows
noncomputable def slT2 : PV → Option Int → Option Int → Gp → K2 → Prop := fun p lo hi G Q => match p with
  | .tup xs => Q (.tup (cutP xs lo hi)) G
  | .str z => z.length ≤ 1000000 ∧ Q (.str (Txt.slice z lo hi)) G
  | _ => False
noncomputable abbrev eSlT (te : E2) (tl th : O2) : E2 := fun τ G Q => te τ G fun x G1 => tl τ G1 fun l G2 => th τ G2 fun u G3 => slT2 x l u G3 Q
section
variable {X : Cx} {e : Expr} {te : E2} {lo hi : Option Expr} {tl th : O2} {pos p2 : Pos}
theorem s_allT : SlR X (lowSl X.K slT2) := by
  intro pins s σ H x v vl vu lo hi sl Q I rx hs pl pu h
  obtain ⟨p, G, Q2, d, rp, h, cl⟩ := h
  unfold slT2 at h
  split at h
  · rename_i xs
    by_cases hw : HT.sIx xs.length 0 lo = 0 ∧ HT.sIx xs.length xs.length hi = xs.length
    · have e : cutP xs lo hi = xs := by
        unfold cutP
        rw [hw.1, hw.2]
        simp
      rw [e] at h
      have d0 := d
      obtain ⟨a, vs, rfl, sa, da⟩ := d
      exact sl_whole pins s σ H _ v vl vu lo hi sl Q I rx hs pl pu ⟨a, vs, rfl, sa, by rw [da.length]; exact hw, cl _ _ _ _ h d0 rp .refl⟩
    · exact s_all pins s σ H x v vl vu lo hi sl Q I rx hs pl pu ⟨.tup xs, G, Q2, d, rp, ⟨hw, h⟩, cl⟩
  · rename_i z
    exact s_all pins s σ H x v vl vu lo hi sl Q I rx hs pl pu ⟨.str z, G, Q2, d, rp, h, cl⟩
  · exact h.elim
theorem j_sliceT (he : JE X e te) (hl : JO X lo tl) (hu : JO X hi th) : JE X (.Subscript e (.Slice lo hi none p2) pos) (eSlT te tl th) := .of (pe_slice s_allT he.h hl.h hu.h) fun σ H Q ⟨τ, G, Q2, rs, rp, q, cl⟩ => by
  refine ⟨τ, G, _, rs, rp, q, fun p G1 v H1 q1 d1 r1 k1 => ⟨τ, G1, _, rs.keep k1, r1, q1, fun l G2 H2 q2 r2 k2 => ⟨τ, G2, _, rs.keep (k1.trans k2), r2, q2, fun u G3 H3 q3 r3 k3 => ?_⟩⟩⟩
  exact ⟨p, G3, Q2, d1.keep (k2.trans k3), r3, q3, cl.keep ((k1.trans k2).trans k3)⟩
end
end L3
namespace L3
open PySem L2
theorem head_cps {z : Str} (h : 1 ≤ z.length) : (Txt.slice z none (some (-1))).cps.toList = z.cps.toList.take (z.length - 1) := by
  have el : z.cps.toList.length = z.length := by simp [Str.length]
  have e0 : Builtin.Str.strSliceIndices none (some (-1)) 1 z.length = Builtin.Str.strSliceIndices (some 0) (some ((z.length : Int) - 1)) 1 z.length := by
    unfold Builtin.Str.strSliceIndices
    simp only [show (1 : Int) > 0 by decide, if_true, show ((-1 : Int) < 0) by decide, show ¬ ((0 : Int) < 0) by decide, show ¬ ((z.length : Int) - 1 < 0) by omega, if_false]
    try (congr 1 <;> omega)
  have e : Txt.slice z none (some (-1)) = Txt.slice z (some 0) (some ((z.length : Int) - 1)) := by
    unfold Txt.slice
    rw [e0]
  rw [e]
  have := PyProof.Rows.slice_closes (x := z) (i := 0) (j := (z.length : Int) - 1) ⟨by decide, by omega, by omega⟩
  rw [beq_iff_eq] at this
  rw [this]
  show List.take _ (List.drop 0 _) = _
  rw [List.drop_zero]
  congr 1
  omega
end L3
namespace L3
open PySem L2
inductive UseE : Prop
  | mk
section
variable {X : Cx} {a b c e tg : Expr} {es : List Expr} {ta tb te : E2} {t : A2} {pos pos' p p2 p3 : Pos} {x y z : Str} {i j k n : Nat} {lo hi : Option Expr} {tl th : O2}
theorem jaE (u : UseE) (ha : JE X a ta) (hb : JE X b tb) : JE X (.BinOp a .Add b pos) (eOp addE2 ta tb) := jb_addE ha hb
theorem jsE (u : UseE) (he : JE X e te) (hl : JO X lo tl) (hu : JO X hi th) : JE X (.Subscript e (.Slice lo hi none p2) pos) (eSlT te tl th) := j_sliceT he hl hu
theorem jsS (i : Nat) (he : JE X e ta) (hN : X.N.Nodup) (hi : X.N[i]? = some x := by rfl) (hx : Loc X.env.scope x := by first | exact Or.inl rfl | exact Or.inr rfl) (hs : swapsWith e (some (.Name x pos')) pos.line X.env = pure false := by rfl)
    (hf : X.fn x = true ∨ X.env.scope.names.lookup x = some .local := by first | exact .inl rfl | exact .inr rfl) : JS X (.Assign [.Name x pos'] e pos) (sAsg ta (gN i)) := js_set he hN hi hx hs hf
theorem jgS (i : Nat) (hN : X.N.Nodup) (hi : X.N[i]? = some x := by rfl) (hx : Loc X.env.scope x := by first | exact Or.inl rfl | exact Or.inr rfl) (hf : X.fn x = true ∨ X.env.scope.names.lookup x = some .local := by first | exact .inl rfl | exact .inr rfl) : JG X (.Name x pos) (gN i) := jg_name hN hi hx hf
theorem jgS2 (i : Nat) (hN : X.N.Nodup) (hc : X.calm = true := by rfl) (hi : X.N[i]? = some x := by rfl) (hx : Loc X.env.scope x := by first | exact Or.inl rfl | exact Or.inr rfl) (hj : X.N[i + 1]? = some y := by rfl) (hy : Loc X.env.scope y := by first | exact Or.inl rfl | exact Or.inr rfl)
    (hf : X.fn x = true ∨ X.env.scope.names.lookup x = some .local := by first | exact .inl rfl | exact .inr rfl) (hf2 : X.fn y = true ∨ X.env.scope.names.lookup y = some .local := by first | exact .inl rfl | exact .inr rfl) :
    JG X (.Tuple [.Name x p, .Name y p2] k pos) (gN2 i (i + 1)) := jg_name2 hc hN hi hx hj hy hf hf2
end
end L3
namespace T12
open PySem L2 L3
local macro_rules | `(tactic| left) => `(tactic| with_reducible conv => whnf)
local macro_rules | `(tactic| symm) => `(tactic| repeat' first
  | (show JB _ _ _; first
   | exact jb_nil
   | refine' jb_one ?_
   | refine' jb_cons ?_ ?_)
  | (show JA _ _ _; first
   | exact ja_nil
   | refine' ja_cons ?_ ?_)
  | (show JF _ _ _; first
   | exact jf_nil
   | refine' jf_one ?_)
  | (show JO _ _ _; first
   | exact jo_none
   | refine' jo_some ?_)
  | (show JS _ (.Assign [.Name _ _] _ _) _; first
   | refine' jsS 0 ?_ (by assumption)
   | refine' jsS 1 ?_ (by assumption)
   | refine' jsS 2 ?_ (by assumption)
   | refine' jsS 3 ?_ (by assumption)
   | refine' jsS 4 ?_ (by assumption)
   | refine' jsS 5 ?_ (by assumption)
   | refine' jsS 6 ?_ (by assumption)
   | refine' jsS 7 ?_ (by assumption)
   | refine' jsS 8 ?_ (by assumption)
   | refine' jsS 9 ?_ (by assumption)
   | refine' jsS 10 ?_ (by assumption)
   | refine' jsS 11 ?_ (by assumption))
  | (show JS _ (.Assign [.Attribute _ _ _] _ _) _; first
   | refine' js_fld (by assumption) (by assumption) ?_ ?_)
  | (show JS _ (.AugAssign (.Attribute _ _ _) _ _ _) _; first
   | refine' js_fldaug (by assumption) (by assumption) ?_ ?_)
  | (show JS _ (.Try _ _ _ _ _) _; first
   | refine' js_tryR (by assumption) (by assumption) (by first | assumption | omega) (by assumption) (by assumption) ?_
   | refine' js_tryT (by assumption) (by assumption) (by first | assumption | omega) (by assumption) (by assumption) ?_)
  | (show JS _ (.Raise _ _ _) _; first
   | refine' js_raise (by assumption) (by assumption) (by assumption) ?_)
  | (show JE _ (.Attribute _ _ _) _; first
   | refine' j_fld (by assumption) (by assumption) ?_)
  | (show JS _ (.Assign [.Subscript _ _ _] _ _) _; first
   | refine' js_asg ?_ (jg_sub ?_ ?_ set_L))
  | (show JS _ (.Return (some _) _) _; first
   | refine' js_ret ?_)
  | (show JS _ (.If _ _ _ _) _; first
   | refine' js_if ?_ ?_ ?_)
  | (show JS _ (.For _ _ _ [] _) _; first
   | refine' js_for PassesOwn.never rfl ?_ ?_ ?_
   | refine' js_for PassesOwn.leaving rfl ?_ ?_ ?_)
  | (show JS _ (.While _ _ [] _) _; first
   | refine' js_while PassesOwn.never ?_ ?_
   | refine' js_while PassesOwn.leaving ?_ ?_)
  | (show JS _ (.Expr _ _) _; first
   | refine' js_expr ?_)
  | (show JS _ _ _; first
   | exact js_pass)
  | (show JE _ (.Name _ _) _; first
   | exact jv 0
   | exact jv 1
   | exact jv 2
   | exact jv 3
   | exact jv 4
   | exact jv 5
   | exact jv 6
   | exact jv 7
   | exact jv 8
   | exact jv 9
   | exact jv 10
   | exact jv 11
   | exact jn_int (by assumption)
   | exact jn_bool (by assumption)
   | exact jn_str (by assumption)
   | exact jn_tuple (by assumption)
   | exact j_gint (by assumption)
   | exact j_gstr (by assumption))
  | (show JE _ (.Constant _ _ _) _; first
   | exact j_int
   | exact j_str
   | exact j_bl
   | exact j_non)
  | (show JE _ (.BinOp (.List _ _) .Add _ _) _; first
   | refine' jb_add ?_ ?_)
  | (show JE _ (.BinOp _ .Add _ _) _; first
   | refine' jaE (by assumption) ?_ ?_
   | refine' jb_add ?_ ?_)
  | (show JE _ (.BinOp _ .Mult _ _) _; first
   | refine' jmS (by assumption) ?_ ?_)
  | (show JT _ (.Compare (.Constant .none _ _) [.In] _ _) _; first
   | refine' jt_inNone (by assumption) ?_ ?_ rfl)
  | (show JT _ (.Compare _ [.IsNot] [.Constant (.bool _) _ _] _) _; first
   | refine' jt_isnB ?_ ?_ rfl)
  | (show JE _ (.BinOp _ .Sub _ _) _; first
   | refine' jb_sub ?_ ?_)
  | (show JE _ (.BinOp _ .Mult _ _) _; first
   | refine' jb_mul ?_ ?_)
  | (show JE _ (.BinOp _ .Mod _ _) _; first
   | refine' jb_mod ?_ ?_)
  | (show JE _ (.BinOp _ .FloorDiv _ _) _; first
   | refine' jb_fdiv ?_ ?_)
  | (show JE _ (.BinOp _ .Pow _ _) _; first
   | refine' jb_pow ?_ ?_)
  | (show JT _ (.Compare _ [.Eq] _ _) _; first
   | refine' jt_eq (by assumption) ?_ ?_)
  | (show JE _ (.Compare _ [.Eq] _ _) _; first
   | refine' jk_eq (by assumption) ?_ ?_)
  | (show JT _ (.Compare _ [.NotEq] _ _) _; first
   | refine' jt_ne (by assumption) ?_ ?_)
  | (show JE _ (.Compare _ [.NotEq] _ _) _; first
   | refine' jk_ne (by assumption) ?_ ?_)
  | (show JT _ (.Compare _ [.Lt] _ _) _; first
   | refine' jt_lt ?_ ?_)
  | (show JT _ (.Compare _ [.Gt] _ _) _; first
   | refine' jt_gt ?_ ?_)
  | (show JT _ (.Compare _ [.In] _ _) _; first
   | refine' jt_in ?_ ?_ rfl)
  | (show JE _ (.Compare _ [.In] _ _) _; first
   | refine' jk_in ?_ ?_ rfl)
  | (show JT _ (.Compare _ [.NotIn] _ _) _; first
   | refine' jt_notin ?_ ?_ rfl)
  | (show JT _ (.Compare _ [.Is] _ _) _; first
   | refine' jt_isN ?_ ?_ rfl)
  | (show JT _ (.Compare _ [.IsNot] _ _) _; first
   | refine' jt_isnN ?_ ?_ rfl)
  | (show JT _ (.Compare _ [.LtE, .Lt] _ _) _; first
   | refine' jt_lelt ?_ ?_ ?_)
  | (show JE _ (.Compare _ [.LtE, .Lt] _ _) _; first
   | refine' jk_lelt ?_ ?_ ?_)
  | (show JT _ (.UnaryOp .Not _ _) _; first
   | refine' jt_not ?_)
  | (show JT _ (.BoolOp _ _ _) _; first
   | refine' jw_t ?_)
  | (show JW _ _ _; first
   | refine' jw_or ?_ ?_
   | refine' jw_and ?_ ?_
   | refine' jw_or1 ?_
   | refine' jw_and1 ?_)
  | (show JT _ _ _; first
   | refine' jt_val ?_)
  | (show JE _ (.UnaryOp .Not _ _) _; first
   | refine' j_not ?_)
  | (show JE _ (.UnaryOp .USub _ _) _; first
   | refine' j_un u_neg ?_)
  | (show JE _ (.BoolOp _ _ _) _; first
   | refine' j_and ?_ ?_
   | refine' j_or ?_ ?_
   | refine' j_one ?_)
  | (show JE _ (.IfExp _ _ _ _) _; first
   | refine' j_ifE ?_ ?_ ?_)
  | (show JE _ (.List _ _) _; first
   | refine' j_lst ?_)
  | (show JE _ (.Tuple _ _ _) _; first
   | refine' j_tup ?_)
  | (show JE _ (.Subscript _ (.Slice _ _ _ _) _) _; first
   | refine' j_rev ?_
   | refine' jsE (by assumption) ?_ ?_ ?_
   | refine' j_slice ?_ ?_ ?_)
  | (show JE _ (.Subscript _ _ _) _; first
   | refine' j_ixS ?_ ?_)
  | (show JE _ (.Call (.Attribute _ _ _) _ _ _) _; first
   | refine' j_getD (by assumption) (by assumption) ?_
   | refine' jm_append ?_ ?_
   | refine' jm_extend ?_ ?_
   | refine' jm_join ?_ ?_
   | refine' jm_pop ?_
   | refine' jm_pop0 ?_ ?_
   | refine' j_metP passes1 (by assumption) (by assumption) (by assumption) (by first | assumption | omega) ?_ ?_
   | refine' j_metP (by assumption) (by assumption) (by assumption) (by assumption) (by first | assumption | omega) ?_ ?_
   | refine' j_met0 (by assumption) (by assumption) (by first | assumption | omega) ?_)
  | (show JE _ (.Call (.Name _ _) _ _ _) _; first
   | refine' jlS (by assumption) (by assumption) rfl ?_
   | refine' j_cal (by assumption) (by assumption) (by first | assumption | omega) ?_
   | refine' j_calP passes1 (by assumption) (by assumption) (by assumption) (by first | assumption | omega) ?_
   | refine' j_calN (by assumption) (by assumption) (by first | assumption | omega) ?_
   | refine' j_make (by assumption) (by assumption) (by assumption) (by assumption) (by first | assumption | omega) (by assumption) ?_
   | refine' jc_len (by assumption) ?_
   | refine' jc_inst (by assumption) ?_
   | refine' jc_all (by assumption) rfl ?_
   | refine' jc_max (by assumption) rfl ?_
   | refine' jc_sum (by assumption) rfl ?_
   | refine' jc_sortedS (by assumption) rfl ?_
   | refine' jc_list (by assumption) rfl ?_
   | refine' jc_tuple (by assumption) ?_
   | refine' jc_range (by assumption) ?_)
  | (show JI _ _ (.Call (.Name _ _) _ _ _) _; first
   | refine' ji_zipT (BN.zip (by assumption)) ?_
   | refine' ji_range1 (BN.range (by assumption)) ?_
   | refine' ji_name ?_
   | refine' ji_list ?_)
  | (show JI _ _ _ _; first
   | refine' ji_name ?_
   | refine' ji_list ?_)
  | (show JG _ (.Name _ _) _; first
   | exact jgS 0 (by assumption)
   | exact jgS 1 (by assumption)
   | exact jgS 2 (by assumption)
   | exact jgS 3 (by assumption)
   | exact jgS 4 (by assumption)
   | exact jgS 5 (by assumption)
   | exact jgS 6 (by assumption)
   | exact jgS 7 (by assumption)
   | exact jgS 8 (by assumption)
   | exact jgS 9 (by assumption)
   | exact jgS 10 (by assumption)
   | exact jgS 11 (by assumption))
  | (show JG _ (.Tuple _ _ _) _; first
   | exact jgS2 0 (by assumption)
   | exact jgS2 1 (by assumption)
   | exact jgS2 2 (by assumption)
   | exact jgS2 3 (by assumption)
   | exact jgS2 4 (by assumption)
   | exact jgS2 5 (by assumption)
   | exact jgS2 6 (by assumption)
   | exact jgS2 7 (by assumption)))
noncomputable def cscope (names : List (Str × NameKind)) : Scope := { kind := .function, names := names, isGenerator := false, isCoroutine := false, more := [] }
noncomputable abbrev xWhole : Stmt := top 5
noncomputable abbrev xText : Stmt := top 6
noncomputable abbrev xOneOf : Stmt := top 9
noncomputable abbrev xTreesOf : Stmt := top 10
noncomputable abbrev xTurnsOf : Stmt := top 11
noncomputable abbrev xPicked : Stmt := top 12
noncomputable abbrev xLabel : Stmt := top 13
noncomputable abbrev xIsTree : Stmt := top 14
theorem atI_zero {α : Type} {x : α} {xs : List α} : atI (x :: xs) 0 = some x := by
  unfold atI ixN
  rw [if_pos (by decide), if_pos (by simp only [List.length_cons]; omega)]
  rfl
section
variable {P : Program} {w : World} {K : PySem.W.Frag} {mg : Str → Option Value} {base : Heap} {f ft fl fn fp fa fi fm fo : Addr} {fd dt dl dn dp da di dm do' : FuncData}
noncomputable def intV : PV → Bool
  | .int _ => true
  | _ => false
theorem scWhole : FnScope ["thing"] ["thing"] (defScope xWhole) := ⟨rfl, rfl, rfl, by decide +kernel, rfl, by decide +kernel, by decide +kernel⟩
noncomputable def spWhole : Sp2 := fun ps G Q => ∃ v : PV, ps = [v] ∧ okV v ∧ Q (.bl (intV v)) G
set_option maxHeartbeats 2000000 in
theorem ok_whole (F : Fun K "is_whole" "is_whole" xWhole f fd) (B : BN mg) : Ok2 P w K mg base 1 f fd ["thing"] spWhole := by
  have nd := scWhole.nd
  refine fn2 F scWhole (fun vs G Q h => ?_) (fun cdv A outer s H E as G Q hr h => ?_)
  · obtain ⟨p, rfl, _⟩ := h
    rfl
  have hU := u200 hr
  apply ex2
  case a => symm
  obtain ⟨v, rfl, hv, q⟩ := h
  cases v with
  | int n =>
    left
    refine inst_i rfl (by decide) ?_
    refine ifT rfl ?_
    left
    refine inst_i rfl (by decide) ?_
    left
    exact ⟨G, GE.refl, q⟩
  | str z =>
    left
    refine inst_i rfl (by decide) ?_
    refine ifF rfl ?_
    exact ⟨G, GE.refl, q⟩
  | tup xs =>
    left
    refine inst_i rfl (by decide) ?_
    refine ifF rfl ?_
    exact ⟨G, GE.refl, q⟩
  | _ => exact hv.elim
theorem all_map {xs : List PV} {g : PV → Bool} : (xs.map g).all id = xs.all g := by
  rw [List.all_map]; rfl
theorem lenS_i {z : Str} {G : Gp} {Q : K2} (h : z.length ≤ 1000000) (q : Q (.int z.length) G) : len2 [.str z] G Q := ⟨h, q⟩
theorem lenT_i {xs : List PV} {G : Gp} {Q : K2} (q : Q (.int xs.length) G) : len2 [.tup xs] G Q := q
theorem scText : FnScope ["thing"] ["thing"] (defScope xText) := ⟨rfl, rfl, rfl, by decide +kernel, rfl, by decide +kernel, by decide +kernel⟩
theorem csText : compOkB (defScope xText) ["thing"] (cscope [(".0", .local), ("sign", .local), ("SIGNS", .globalImplicit)]) ["sign"] [none] 0 "sign" = true := by decide +kernel
noncomputable def spText : Sp2 := fun ps G Q => ∃ v : PV, ps = [v] ∧ okV v ∧ Q (.bl (textV v)) G
set_option maxHeartbeats 2000000 in
theorem ok_text {t : Tok} (hS : mg "SIGNS" = some (.str SIG t)) (F : Fun K "is_text" "is_text" xText f fd) (B : BN mg) : Ok2 P w K mg base 1 f fd ["thing"] spText := by
  have nd := scText.nd
  refine fn2 F scText (fun vs G Q h => ?_) (fun cdv A outer s H E as G Q hr h => ?_)
  · obtain ⟨p, rfl, _⟩ := h
    rfl
  have hU := u200 hr
  apply ex2
  case a =>
    symm
    all_goals try (refine' j_comp csText rfl ?_ fun _ _ _ _ => ⟨?_, ?_⟩)
    all_goals symm
  obtain ⟨v, rfl, hv, q⟩ := h
  cases v with
  | str z =>
    have hz : z.length ≤ 1000 := hv.2
    left
    refine inst_i rfl (by decide) ?_
    left
    intro acc hacc
    refine cGo_pure (fun _ => true) (fun x => .bl (inS SIG x)) (by rw [signsP_length]; omega) (fun _ => trivial) (fun x ys R hx r => r) (fun x ys R hx _ r => ?_) ?_
    · obtain ⟨i, hi⟩ := List.getElem?_of_mem hx
      obtain ⟨c, _, rfl⟩ := signs_at hi
      exact r
    left
    refine allL_i (bs := (signsP z).map (inS SIG)) (lk_lst (by rw [up_same, List.map_map, List.filter_eq_self.mpr (by simp)]; rfl)) ?_
    left
    rw [all_map]
    exact ⟨_, GE.refl.new hacc, q⟩
  | int n =>
    left
    refine inst_i rfl (by decide) ?_
    exact ⟨G, GE.refl, q⟩
  | tup xs =>
    left
    refine inst_i rfl (by decide) ?_
    exact ⟨G, GE.refl, q⟩
  | _ => exact hv.elim
theorem scOneOf : FnScope ["signs", "thing"] ["signs", "thing"] (defScope xOneOf) := ⟨rfl, rfl, rfl, by decide +kernel, rfl, by decide +kernel, by decide +kernel⟩
noncomputable def spOneOf : Sp2 := fun ps G Q => ∃ (s : Str) (v : PV), ps = [.str s, v] ∧ okV v ∧ oS s ∧ Q (.bl (sgB s v)) G
set_option maxHeartbeats 2000000 in
theorem ok_oneOf (F : Fun K "is_one_of" "is_one_of" xOneOf f fd) (B : BN mg) (C : Cal2 P w K mg base 1 "is_text" ft dt ["thing"] spText) : Ok2 P w K mg base 2 f fd ["signs", "thing"] spOneOf := by
  have nd := scOneOf.nd
  refine fn2 F scOneOf (fun vs G Q h => ?_) (fun cdv A outer s H E as G Q hr h => ?_)
  · obtain ⟨_, _, rfl, _⟩ := h
    rfl
  have hU := u200 hr
  apply ex2
  case a => symm
  obtain ⟨s, v, rfl, hv, hs, q⟩ := h
  left
  refine ⟨v, rfl, hv, ?_⟩
  cases v with
  | str z =>
    have q' : Q (.bl (sgB s (.str z))) G := q
    have hz : z.length ≤ 1000 := hv.2
    have key : decide (z.length = 1) = true → (!(Builtin.Str.occurrences s z 0 s.length 1).isEmpty) = true → textB z = true := fun h1 h2 => sg_text hs (of_decide_eq_true h1) h2
    show way2 (textB z) _ _
    refine ifB (fun h1 => ?_) (fun h1 => ?_)
    · left
      refine lenS_i (by omega) ?_
      left
      refine eqP_i rfl rfl ?_
      left
      refine ifB (fun h2 => ?_) (fun h2 => ?_)
      · left
        refine ⟨G, GE.refl, ?_⟩
        have e : sgB s (.str z) = !(Builtin.Str.occurrences s z 0 s.length 1).isEmpty := by
          have : z.length = 1 := by
            have h2' : ((z.length : Int) == 1) = true := h2
            have := beq_iff_eq.mp h2'
            omega
          show (decide (z.length = 1) && _) = _
          rw [decide_eq_true this, Bool.true_and]
        rw [e] at q'
        exact q'
      · left
        refine ⟨G, GE.refl, ?_⟩
        have e : sgB s (.str z) = false := by
          have : ¬ z.length = 1 := fun h => by
            have h2' : ((z.length : Int) == 1) = false := h2
            rw [h] at h2'
            cases h2'
          show (decide (z.length = 1) && _) = _
          rw [decide_eq_false this, Bool.false_and]
        rw [e] at q'
        exact q'
    · left
      refine ⟨G, GE.refl, ?_⟩
      have e : sgB s (.str z) = false := by
        cases hb : sgB s (.str z) with
        | false => rfl
        | true =>
          have hb' : (decide (z.length = 1) && !(Builtin.Str.occurrences s z 0 s.length 1).isEmpty) = true := hb
          rw [Bool.and_eq_true] at hb'
          rw [key hb'.1 hb'.2] at h1
          cases h1
      rw [e] at q'
      exact q'
  | int n =>
    refine ifF rfl ?_
    exact ⟨G, GE.refl, q⟩
  | tup xs =>
    refine ifF rfl ?_
    exact ⟨G, GE.refl, q⟩
  | _ => exact hv.elim
theorem scLabel : FnScope ["label", "thing"] ["label", "thing"] (defScope xLabel) := ⟨rfl, rfl, rfl, by decide +kernel, rfl, by decide +kernel, by decide +kernel⟩
noncomputable def spLabel : Sp2 := fun ps G Q => ∃ (v x : PV), ps = [v, x] ∧ pureP 100 v = true ∧ pureP 100 x = true ∧ okV x ∧ Q (.bl (deq x v)) G
set_option maxHeartbeats 2000000 in
theorem ok_label (F : Fun K "is_label" "is_label" xLabel f fd) (B : BN mg) : Ok2 P w K mg base 1 f fd ["label", "thing"] spLabel := by
  have nd := scLabel.nd
  refine fn2 F scLabel (fun vs G Q h => ?_) (fun cdv A outer s H E as G Q hr h => ?_)
  · obtain ⟨_, _, rfl, _⟩ := h
    rfl
  have hU := u200 hr
  apply ex2
  case a => symm
  obtain ⟨v, x, rfl, hv, hx, ho, q⟩ := h
  cases x with
  | str z =>
    left
    refine inst_i rfl (by decide) ?_
    refine ifT rfl ?_
    left
    exact eqP_i hx hv ⟨G, GE.refl, q⟩
  | int n =>
    left
    refine inst_i rfl (by decide) ?_
    refine ifT rfl ?_
    left
    exact eqP_i hx hv ⟨G, GE.refl, q⟩
  | tup xs =>
    left
    refine inst_i rfl (by decide) ?_
    refine ifT rfl ?_
    left
    exact eqP_i hx hv ⟨G, GE.refl, q⟩
  | _ => exact ho.elim
end
section
variable {P : Program} {w : World} {K : PySem.W.Frag} {mg : Str → Option Value} {base : Heap} {f ft fl fn fp fa fi fm fo fb fc fe : Addr} {fd dt dl dn dp da di dm do' db dc de : FuncData}
noncomputable def rowB (ps : List Pt) : PV → Bool
  | .tup ys => isTs ps ys
  | _ => false
noncomputable def turnB (p : Pt) : PV → Bool
  | .tup ys => ys.all (fun y => isT' p y)
  | _ => false
noncomputable def pickB (ps : List Pt) (i x : PV) : Bool := match i with
  | .int i => decide (0 ≤ i) && isTn ps i.toNat x
  | _ => false
noncomputable def spIsTree (n : Nat) : Sp2 := fun as G Q => ∃ (p : Pt) (x : PV), as = [enc p, x] ∧ depth p < n ∧ wq p ∧ plV x ∧ Q (.bl (isT' p x)) G
noncomputable def spTreesOf (n : Nat) : Sp2 := fun as G Q => ∃ (ps : List Pt) (x : PV), as = [.tup (encs ps), x] ∧ (∀ p ∈ ps, depth p < n ∧ wq p) ∧ ps.length ≤ 6 ∧ plV x ∧ Q (.bl (rowB ps x)) G
noncomputable def spTurnsOf (n : Nat) : Sp2 := fun as G Q => ∃ (p : Pt) (x : PV), as = [enc p, x] ∧ depth p < n ∧ wq p ∧ plV x ∧ Q (.bl (turnB p x)) G
noncomputable def spPicked (n : Nat) : Sp2 := fun as G Q => ∃ (ps : List Pt) (i x : PV), as = [.tup (encs ps), i, x] ∧ (∀ p ∈ ps, depth p < n ∧ wq p) ∧ plV i ∧ plV x ∧ Q (.bl (pickB ps i x)) G
theorem scTreesOf : FnScope ["parts", "thing"] ["parts", "thing"] (defScope xTreesOf) := ⟨rfl, rfl, rfl, by decide +kernel, rfl, by decide +kernel, by decide +kernel⟩
theorem csTreesOf : compOkB (defScope xTreesOf) ["parts", "thing"] (cscope [(".0", .local), ("part", .local), ("inner", .local), ("is_tree", .globalImplicit)]) ["part", "inner"] [none, none] 0 "part" = true := by decide +kernel
theorem csTreesOf2 : CompTwo (cscope [(".0", .local), ("part", .local), ("inner", .local), ("is_tree", .globalImplicit)]) ["part", "inner"] [none, none] 1 "inner" := ⟨rfl, by decide +kernel, rfl⟩
theorem encs_at2 {ps : List Pt} {i : Nat} {x : PV} (h : (encs ps)[i]? = some x) : ∃ c, ps[i]? = some c ∧ x = enc c := by
  rw [encs_map, List.getElem?_map] at h
  cases e : ps[i]? with
  | none => rw [e] at h; cases h
  | some c => rw [e] at h; exact ⟨c, rfl, (Option.some.inj h).symm⟩
set_option maxHeartbeats 4000000 in
theorem ok_treesOf {n k : Nat} (hk : 1 ≤ k) (F : Fun K "are_trees_of" "are_trees_of" xTreesOf f fd) (B : BN mg) (C : Cal2 P w K mg base k "is_tree" ft dt ["pattern", "thing"] (spIsTree n)) : Ok2 P w K mg base (k + 1) f fd ["parts", "thing"] (spTreesOf n) := by
  have nd := scTreesOf.nd
  refine fn2 F scTreesOf (fun vs G Q h => ?_) (fun cdv A outer s H E as G Q hr h => ?_)
  · obtain ⟨_, _, rfl, _⟩ := h
    rfl
  have hU := u200 hr
  apply ex2
  case a =>
    symm
    all_goals try (refine' j_comp2 csTreesOf csTreesOf2 rfl ?_ fun _ _ _ _ => ⟨?_, ?_⟩)
    all_goals symm
  obtain ⟨ps, x, rfl, hps, h6, hx, q⟩ := h
  cases x with
  | tup ys =>
    have hle := pl_len hx
    left
    refine inst_i rfl (by decide) ?_
    refine ifF rfl ?_
    left
    refine lenT_i ?_
    left
    refine lenT_i ?_
    left
    refine neP_i rfl rfl ?_
    left
    refine ifB (fun h1 => ?_) (fun h1 => ?_)
    · left
      refine ⟨G, GE.refl, ?_⟩
      have hne : ys.length ≠ ps.length := fun e => by
        have h1' : (!(((ys.length : Nat) : Int) == (((encs ps).length : Nat) : Int))) = true := h1
        rw [encs_length, e] at h1'
        simp at h1'
      have e : rowB ps (.tup ys) = false := isTs_len hne
      rw [e] at q
      exact q
    · have he : ys.length = ps.length := by
        have h1' : (!(((ys.length : Nat) : Int) == (((encs ps).length : Nat) : Int))) = false := h1
        rw [encs_length] at h1'
        have := beq_iff_eq.mp (by simpa using h1' : (((ys.length : Nat) : Int) == ((ps.length : Nat) : Int)) = true)
        omega
      left
      refine ⟨by rw [encs_length]; exact he.symm, ?_⟩
      intro acc hacc
      have hpl := pairsP_length (xs := encs ps) (ys := ys) (by rw [encs_length]; exact he.symm)
      rw [encs_length] at hpl
      refine cGo2_ix (fun i => .bl (isTi ps ys i)) (by omega) (fun _ => trivial) (fun i y zs R hy r => ?_) ?_
      · obtain ⟨p, u, rfl, hp, hu⟩ := pairsP_mem hy
        obtain ⟨c, hc, rfl⟩ := encs_at2 hp
        refine ⟨_, _, rfl, ?_⟩
        left
        have hcm := List.mem_of_getElem? hc
        have e : isTi ps ys i = isT' c u := by unfold isTi; rw [hc, hu]
        rw [e] at r
        exact ⟨c, u, rfl, (hps c hcm).1, (hps c hcm).2, hx.mem (List.mem_of_getElem? hu), r⟩
      left
      rw [hpl]
      refine allL_i (bs := (List.range ps.length).map (isTi ps ys)) (lk_lst (by rw [up_same, List.map_map]; rfl)) ?_
      left
      have e : rowB ps (.tup ys) = ((List.range ps.length).map (isTi ps ys)).all id := isTs_range he
      rw [e] at q
      exact ⟨_, GE.refl.new hacc, q⟩
  | int i =>
    left
    refine inst_i rfl (by decide) ?_
    refine ifT rfl ?_
    exact ⟨G, GE.refl, q⟩
  | str z =>
    left
    refine inst_i rfl (by decide) ?_
    refine ifT rfl ?_
    exact ⟨G, GE.refl, q⟩
  | _ => exact hx.ok.elim
theorem scTurnsOf : FnScope ["part", "thing"] ["part", "thing"] (defScope xTurnsOf) := ⟨rfl, rfl, rfl, by decide +kernel, rfl, by decide +kernel, by decide +kernel⟩
theorem csTurnsOf : compOkB (defScope xTurnsOf) ["part", "thing"] (cscope [(".0", .local), ("turn", .local), ("is_tree", .globalImplicit), ("part", .free)]) ["turn", "part"] [none, some 0] 0 "turn" = true := by decide +kernel
set_option maxHeartbeats 4000000 in
theorem ok_turnsOf {n k : Nat} (hk : 1 ≤ k) (F : Fun K "are_turns_of" "are_turns_of" xTurnsOf f fd) (B : BN mg) (C : Cal2 P w K mg base k "is_tree" ft dt ["pattern", "thing"] (spIsTree n)) : Ok2 P w K mg base (k + 1) f fd ["part", "thing"] (spTurnsOf n) := by
  have nd := scTurnsOf.nd
  refine fn2 F scTurnsOf (fun vs G Q h => ?_) (fun cdv A outer s H E as G Q hr h => ?_)
  · obtain ⟨_, _, rfl, _⟩ := h
    rfl
  have hU := u200 hr
  apply ex2
  case a =>
    symm
    all_goals try (refine' j_comp csTurnsOf rfl ?_ fun _ _ _ _ => ⟨?_, ?_⟩)
    all_goals symm
  obtain ⟨p, x, rfl, hd, hw, hx, q⟩ := h
  cases x with
  | tup ys =>
    have hle := pl_len hx
    left
    refine inst_i rfl (by decide) ?_
    refine ifT rfl ?_
    left
    intro acc hacc
    refine cGo_pure (fun _ => true) (fun y => .bl (isT' p y)) (by omega) (fun _ => trivial) (fun y zs R hy r => r) (fun y zs R hy _ r => ?_) ?_
    · exact ⟨p, y, rfl, hd, hw, hx.mem hy, r⟩
    left
    refine allL_i (bs := ys.map (isT' p)) (lk_lst (by rw [up_same, List.map_map, List.filter_eq_self.mpr (by simp)]; rfl)) ?_
    left
    rw [all_map]
    exact ⟨_, GE.refl.new hacc, q⟩
  | int i =>
    left
    refine inst_i rfl (by decide) ?_
    refine ifF rfl ?_
    exact ⟨G, GE.refl, q⟩
  | str z =>
    left
    refine inst_i rfl (by decide) ?_
    refine ifF rfl ?_
    exact ⟨G, GE.refl, q⟩
  | _ => exact hx.ok.elim
theorem scPicked : FnScope ["parts", "number", "thing"] ["parts", "number", "thing"] (defScope xPicked) := ⟨rfl, rfl, rfl, by decide +kernel, rfl, by decide +kernel, by decide +kernel⟩
set_option maxHeartbeats 4000000 in
theorem ok_picked {n k : Nat} (hk : 1 ≤ k) (F : Fun K "is_picked_of" "is_picked_of" xPicked f fd) (B : BN mg) (CW : Cal2 P w K mg base 1 "is_whole" fa da ["thing"] spWhole) (C : Cal2 P w K mg base k "is_tree" ft dt ["pattern", "thing"] (spIsTree n)) : Ok2 P w K mg base (k + 1) f fd ["parts", "number", "thing"] (spPicked n) := by
  have nd := scPicked.nd
  refine fn2 F scPicked (fun vs G Q h => ?_) (fun cdv A outer s H E as G Q hr h => ?_)
  · obtain ⟨_, _, _, rfl, _⟩ := h
    rfl
  have hU := u200 hr
  apply ex2
  case a => symm
  obtain ⟨ps, i, x, rfl, hps, hi, hx, q⟩ := h
  left
  refine ⟨i, rfl, hi.ok, ?_⟩
  cases i with
  | int i =>
    refine ifT rfl ?_
    left
    have q' : Q (.bl (decide (0 ≤ i) && isTn ps i.toNat x)) G := q
    rw [isTn_at] at q'
    refine ifB (fun h0 => ?_) (fun h0 => ?_)
    · have h0' : 0 ≤ i := of_decide_eq_true h0
      rw [decide_eq_true h0', Bool.true_and] at q'
      left
      refine lenT_i ?_
      left
      refine ifB (fun h1 => ?_) (fun h1 => ?_)
      · have h1' : i < (((encs ps).length : Nat) : Int) := of_decide_eq_true h1
        rw [encs_length] at h1'
        have hlt : i.toNat < ps.length := by omega
        have ec : ps[i.toNat]? = some ps[i.toNat] := List.getElem?_eq_getElem hlt
        rw [ec] at q'
        left
        refine ixT_i (x := enc ps[i.toNat]) ?_ ?_
        · have := atI_nat (xs := encs ps) (j := i.toNat) (v := enc ps[i.toNat]) (by rw [encs_map, List.getElem?_map, ec]; rfl)
          rwa [Int.toNat_of_nonneg h0'] at this
        left
        have hm : ps[i.toNat] ∈ ps := List.getElem_mem hlt
        exact ⟨_, x, rfl, (hps _ hm).1, (hps _ hm).2, hx, G, GE.refl, q'⟩
      · have h1' : ¬ i < (((encs ps).length : Nat) : Int) := of_decide_eq_false h1
        rw [encs_length] at h1'
        rw [List.getElem?_eq_none (by omega)] at q'
        exact ⟨G, GE.refl, q'⟩
    · have h0' : ¬ 0 ≤ i := of_decide_eq_false h0
      rw [decide_eq_false h0', Bool.false_and] at q'
      exact ⟨G, GE.refl, q'⟩
  | str z =>
    refine ifF rfl ?_
    exact ⟨G, GE.refl, q⟩
  | tup ys =>
    refine ifF rfl ?_
    exact ⟨G, GE.refl, q⟩
  | _ => exact hi.ok.elim
end
section
variable {P : Program} {w : World} {K : PySem.W.Frag} {mg : Str → Option Value} {base : Heap} {f ft fl fn fp fa fi fm fo fb fc fe d : Addr} {fd dt dl dn dp da di dm do' db dc de : FuncData}
noncomputable def lenT : List (Str × Int) := [("blank", 1), ("sign", 2), ("row", 2), ("pick", 3), ("again", 2), ("held", 3), ("price", 3)]
noncomputable def lenTK (k : Str) : Option Int := (lenT.find? fun x => x.1 == k).map (·.2)
theorem kB_tup {k : Str} {n : Nat} {xs : List PV} : kB k n (.tup xs) = true → xs.length = n ∧ ∃ y ys, xs = y :: ys ∧ deq y (.str k) = true := fun h => by
  cases xs with
  | nil => simp [kB] at h
  | cons y ys =>
    simp only [kB, Bool.and_eq_true, decide_eq_true_eq] at h
    exact ⟨h.1, y, ys, rfl, h.2⟩
noncomputable def restB : Pt → PV → Bool
  | .none, _ => false
  | .blank, _ => true
  | .sign s, x => sgB s (it1 x)
  | .row ps, x => rowB ps (it1 x)
  | .pick ps, x => pickB ps (it1 x) (it2 x)
  | .again p, x => turnB p (it1 x)
  | .held n p, x => deq (it1 x) (.str n) && isT' p (it2 x)
  | .price n p, x => deq (it1 x) (.int n) && isT' p (it2 x)
noncomputable def kindP : Pt → Str
  | .none => "none"
  | .blank => "blank"
  | .sign _ => "sign"
  | .row _ => "row"
  | .pick _ => "pick"
  | .again _ => "again"
  | .held _ _ => "held"
  | .price _ _ => "price"
noncomputable def lenP : Pt → Nat
  | .none => 0
  | .blank => 1
  | .sign _ => 2
  | .row _ => 2
  | .pick _ => 3
  | .again _ => 2
  | .held _ _ => 3
  | .price _ _ => 3
theorem lenTK_some : ∀ p : Pt, p ≠ .none → lenTK (kindP p) = some ((lenP p : Nat) : Int) := by
  intro p hp
  cases p with
  | none => exact absurd rfl hp
  | blank => show lenTK "blank" = some ((1 : Nat) : Int); decide +kernel
  | sign s => show lenTK "sign" = some ((2 : Nat) : Int); decide +kernel
  | row s => show lenTK "row" = some ((2 : Nat) : Int); decide +kernel
  | pick s => show lenTK "pick" = some ((3 : Nat) : Int); decide +kernel
  | again s => show lenTK "again" = some ((2 : Nat) : Int); decide +kernel
  | held n s => show lenTK "held" = some ((3 : Nat) : Int); decide +kernel
  | price n s => show lenTK "price" = some ((3 : Nat) : Int); decide +kernel
theorem isT_rest (p : Pt) (x : PV) : isT' p x = (kB (kindP p) (lenP p) x && restB p x) := by
  cases p with
  | none => simp [isT', restB]
  | blank => simp [isT', restB, kindP, lenP]
  | sign s => simp [isT', restB, kindP, lenP]
  | row ps => simp only [isT', restB, kindP, lenP]; congr 1
  | pick ps => simp only [isT', restB, kindP, lenP]; congr 1
  | again q => simp only [isT', restB, kindP, lenP]; congr 1
  | held n q => simp [isT', restB, kindP, lenP]
  | price n q => simp [isT', restB, kindP, lenP]
theorem ixP_i {p : Pt} {G : Gp} {Q : K2} (q : Q (.str (kindP p)) G) : ix2 (enc p) (.int 0) G Q := by cases p <;> exact q
theorem scIsTree : FnScope ["pattern", "thing", "kind"] ["pattern", "thing"] (defScope xIsTree) := ⟨rfl, rfl, rfl, by decide +kernel, rfl, by decide +kernel, by decide +kernel⟩
set_option maxHeartbeats 8000000 in
theorem ok_isTree {n k : Nat} (hk : 3 ≤ k) (D : DGet P w K d lenTK) (hL : mg "LENGTHS" = some (.ref d)) (F : Fun K "is_tree" "is_tree" xIsTree f fd) (B : BN mg) (CO : Cal2 P w K mg base 2 "is_one_of" fo do' ["signs", "thing"] spOneOf) (CL : Cal2 P w K mg base 1 "is_label" fl dl ["label", "thing"] spLabel)
    (CR : Cal2 P w K mg base (k + 1) "are_trees_of" fa da ["parts", "thing"] (spTreesOf n)) (CT : Cal2 P w K mg base (k + 1) "are_turns_of" fb db ["part", "thing"] (spTurnsOf n)) (CP : Cal2 P w K mg base (k + 1) "is_picked_of" fc dc ["parts", "number", "thing"] (spPicked n))
    (C : Cal2 P w K mg base k "is_tree" ft dt ["pattern", "thing"] (spIsTree n)) : Ok2 P w K mg base (k + 2) f fd ["pattern", "thing"] (spIsTree (n + 1)) := by
  have nd := scIsTree.nd
  refine fn2 F scIsTree (fun vs G Q h => ?_) (fun cdv A outer s H E as G Q hr h => ?_)
  · obtain ⟨_, _, rfl, _⟩ := h
    rfl
  have hU := u200 hr
  apply ex2
  case a => symm
  obtain ⟨p, x, rfl, hd, hw, hx, q⟩ := h
  rw [isT_rest] at q
  have hdi := size_depth_inner p
  left
  refine ixP_i ?_
  have rest : ∀ {xs : List PV} {R : K2}, x = .tup xs → kB (kindP p) (lenP p) x = true → True := fun _ _ => trivial
  cases x with
  | tup xs =>
    left
    refine inst_i rfl (by decide) ?_
    refine ifF rfl ?_
    left
    refine lenT_i ?_
    left
    cases hn : lenTK (kindP p) with
    | none =>
      have hp0 : p = .none := Classical.byContradiction fun hp => by rw [lenTK_some p hp] at hn; cases hn
      have e : (kB (kindP p) (lenP p) (.tup xs) && restB p (.tup xs)) = false := by rw [hp0]; simp [restB]
      rw [e] at q
      left
      refine neP_i rfl rfl ?_
      refine ifT rfl ?_
      exact ⟨G, GE.refl, q⟩
    | some m =>
      have hml : m = lenP p ∧ p ≠ .none := by
        have hpn : p ≠ .none := fun e => by rw [e, show lenTK (kindP .none) = none from by decide +kernel] at hn; cases hn
        rw [lenTK_some p hpn] at hn
        exact ⟨(Option.some.inj hn).symm, hpn⟩
      obtain ⟨rfl, hpn⟩ := hml
      left
      refine neP_i rfl rfl ?_
      left
      refine ifB (fun h1 => ?_) (fun h1 => ?_)
      · have hne : ¬ xs.length = lenP p := fun e => by
          have h1' : (!(((xs.length : Nat) : Int) == ((lenP p : Nat) : Int))) = true := h1
          rw [e] at h1'; simp at h1'
        have e : kB (kindP p) (lenP p) (.tup xs) = false := by
          cases hb : kB (kindP p) (lenP p) (.tup xs) with
          | false => rfl
          | true => exact absurd (kB_tup hb).1 hne
        rw [e, Bool.false_and] at q
        refine ifT rfl ?_
        exact ⟨G, GE.refl, q⟩
      · have he : xs.length = lenP p := by
          have h1' : (!(((xs.length : Nat) : Int) == ((lenP p : Nat) : Int))) = false := h1
          have := beq_iff_eq.mp (by simpa using h1' : (((xs.length : Nat) : Int) == ((lenP p : Nat) : Int)) = true)
          omega
        have hpos : 1 ≤ lenP p := by cases p <;> first | exact absurd rfl hpn | simp [lenP]
        obtain ⟨y, ys, rfl⟩ : ∃ y ys, xs = y :: ys := by
          cases xs with
          | nil => simp at he; omega
          | cons y ys => exact ⟨y, ys, rfl⟩
        have hkB : kB (kindP p) (lenP p) (.tup (y :: ys)) = deq y (.str (kindP p)) := by
          show (decide ((y :: ys).length = lenP p) && deq y (.str (kindP p))) = _
          rw [decide_eq_true he, Bool.true_and]
        rw [hkB] at q
        left
        refine ixT_i atI_zero ?_
        left
        refine neP_i (hx.mem (by simp)).pure (by cases p <;> rfl) ?_
        left
        refine ifB (fun h2 => ?_) (fun h2 => ?_)
        · have e : deq y (.str (kindP p)) = false := by simpa using h2
          rw [e, Bool.false_and] at q
          exact ⟨G, GE.refl, q⟩
        · have e : deq y (.str (kindP p)) = true := by simpa using h2
          rw [e, Bool.true_and] at q
          cases p with
          | none => exact absurd rfl hpn
          | blank => exact ⟨rfl, rfl, rfl, rfl, rfl, rfl, rfl, rfl, lek, rfl, rfl, G, GE.refl, q⟩
          | sign s =>
            match ys, he with
            | [c], _ =>
              refine ⟨rfl, rfl, ?_⟩
              left
              refine ifT rfl ?_
              left
              refine ixT_i (i := 1) (xs := [.str "sign", .str s]) (x := .str s) rfl ?_
              left
              refine ixT_i (i := 1) (xs := [y, c]) (x := c) rfl ?_
              left
              exact ⟨s, c, rfl, (hx.mem (by simp)).ok, hw.2.2, G, GE.refl, q⟩
          | row ps =>
            match ys, he with
            | [c], _ =>
              refine ⟨rfl, rfl, rfl, rfl, ?_⟩
              left
              refine ifT rfl ?_
              left
              refine ixT_i (i := 1) (xs := [.str "row", .tup (encs ps)]) (x := .tup (encs ps)) rfl ?_
              left
              refine ixT_i (i := 1) (xs := [y, c]) (x := c) rfl ?_
              left
              exact ⟨ps, c, rfl, fun c hc => ⟨by have := depth_mem (ps := inner (.row ps)) hc; omega, wq_inn hw hc⟩, hw.2.1, hx.mem (by simp), G, GE.refl, q⟩
          | pick ps =>
            match ys, he with
            | [c, u], _ =>
              refine ⟨rfl, rfl, rfl, rfl, rfl, rfl, ?_⟩
              left
              refine ifT rfl ?_
              left
              refine ixT_i (i := 1) (xs := [.str "pick", .tup (encs ps)]) (x := .tup (encs ps)) rfl ?_
              left
              refine ixT_i (i := 1) (xs := [y, c, u]) (x := c) rfl ?_
              left
              refine ixT_i (i := 2) (xs := [y, c, u]) (x := u) rfl ?_
              left
              exact ⟨ps, c, u, rfl, fun c hc => ⟨by have := depth_mem (ps := inner (.pick ps)) hc; omega, wq_inn hw hc⟩, hx.mem (by simp), hx.mem (by simp), G, GE.refl, q⟩
          | again p' =>
            match ys, he with
            | [c], _ =>
              refine ⟨rfl, rfl, rfl, rfl, rfl, rfl, rfl, rfl, ?_⟩
              left
              refine ifT rfl ?_
              left
              refine ixT_i (i := 1) (xs := [.str "again", enc p']) (x := enc p') rfl ?_
              left
              refine ixT_i (i := 1) (xs := [y, c]) (x := c) rfl ?_
              left
              exact ⟨p', c, rfl, by have := depth_mem (ps := inner (.again p')) (c := p') (by simp [inner]); omega, hw.2, hx.mem (by simp), G, GE.refl, q⟩
          | held m p' =>
            match ys, he with
            | [c, u], _ =>
              refine ⟨rfl, rfl, rfl, rfl, rfl, rfl, rfl, rfl, lek, rfl, rfl, ?_⟩
              left
              refine ifT rfl ?_
              left
              refine ixT_i (i := 1) (xs := [.str "held", .str m, enc p']) (x := .str m) rfl ?_
              left
              refine ixT_i (i := 1) (xs := [y, c, u]) (x := c) rfl ?_
              left
              refine ⟨.str m, c, rfl, rfl, (hx.mem (by simp)).pure, (hx.mem (by simp)).ok, ?_⟩
              have q' : Q (.bl (deq c (.str m) && isT' p' u)) G := q
              refine ifB (fun h3 => ?_) (fun h3 => ?_)
              · rw [h3, Bool.true_and] at q'
                left
                refine ixT_i (i := 2) (xs := [.str "held", .str m, enc p']) (x := enc p') rfl ?_
                left
                refine ixT_i (i := 2) (xs := [y, c, u]) (x := u) rfl ?_
                left
                exact ⟨p', u, rfl, by have := depth_mem (ps := inner (.held m p')) (c := p') (by simp [inner]); omega, hw.2, hx.mem (by simp), G, GE.refl, q'⟩
              · rw [h3, Bool.false_and] at q'
                exact ⟨G, GE.refl, q'⟩
          | price m p' =>
            match ys, he with
            | [c, u], _ =>
              refine ⟨rfl, rfl, rfl, rfl, rfl, rfl, rfl, rfl, lek, rfl, rfl, ?_⟩
              left
              refine ifT rfl ?_
              left
              refine ixT_i (i := 1) (xs := [.str "price", .int m, enc p']) (x := .int m) rfl ?_
              left
              refine ixT_i (i := 1) (xs := [y, c, u]) (x := c) rfl ?_
              left
              refine ⟨.int m, c, rfl, rfl, (hx.mem (by simp)).pure, (hx.mem (by simp)).ok, ?_⟩
              have q' : Q (.bl (deq c (.int m) && isT' p' u)) G := q
              refine ifB (fun h3 => ?_) (fun h3 => ?_)
              · rw [h3, Bool.true_and] at q'
                left
                refine ixT_i (i := 2) (xs := [.str "price", .int m, enc p']) (x := enc p') rfl ?_
                left
                refine ixT_i (i := 2) (xs := [y, c, u]) (x := u) rfl ?_
                left
                exact ⟨p', u, rfl, by have := depth_mem (ps := inner (.price m p')) (c := p') (by simp [inner]); omega, hw.2.2, hx.mem (by simp), G, GE.refl, q'⟩
              · rw [h3, Bool.false_and] at q'
                exact ⟨G, GE.refl, q'⟩
  | int i =>
    have e : kB (kindP p) (lenP p) (.int i) = false := rfl
    rw [e, Bool.false_and] at q
    left
    refine inst_i rfl (by decide) ?_
    refine ifT rfl ?_
    exact ⟨G, GE.refl, q⟩
  | str z =>
    have e : kB (kindP p) (lenP p) (.str z) = false := rfl
    rw [e, Bool.false_and] at q
    left
    refine inst_i rfl (by decide) ?_
    refine ifT rfl ?_
    exact ⟨G, GE.refl, q⟩
  | _ => exact hx.ok.elim
end
noncomputable abbrev xPool : Stmt := top 26
noncomputable abbrev xNext : Stmt := top 27
noncomputable abbrev xLetters : Stmt := top 28
noncomputable abbrev xSigns : Stmt := top 29
noncomputable abbrev xLeaf : Stmt := top 30
theorem pool_ne {G : Gp} {a l : Addr} (p : Pool G a) (h : G l = none) : l ≠ a := fun e => by
  obtain ⟨o, z⟩ := p.some
  subst e; rw [h] at z; cases z
section
variable {P : Program} {w : World} {K : PySem.W.Frag} {mg : Str → Option Value} {base : Heap} {f fn fi ft fa : Addr} {fd dn di dt da : FuncData}
theorem scPool : FnScope ["cell"] ["cell"] (defScope xPool) := ⟨rfl, rfl, rfl, by decide +kernel, rfl, by decide +kernel, by decide +kernel⟩
set_option maxHeartbeats 2000000 in
theorem ok_pool (F : Fun K "_law_pool" "_law_pool" xPool f fd) (B : BN mg) : Ok2 P w K mg base 1 f fd ["cell"] spPool := by
  have nd := scPool.nd
  refine fn2 F scPool (fun vs G Q h => ?_) (fun cdv A outer s H E as G Q hr h => ?_)
  · obtain ⟨p, rfl, _⟩ := h
    rfl
  have hU := u200 hr
  apply ex2
  case a => symm
  obtain ⟨c, rfl, q⟩ := h
  have cp : CPow 10 18 := ⟨by decide, by decide, by decide⟩
  refine ⟨cp, cp, (by decide : (0 : Int) < 10 ^ 18), lek, fun a ha => ⟨_, GE.refl, q a _ ha ⟨_, _, 0, up_same, ?_⟩ (Ch.refl.put (by simp))⟩⟩
  show (0 : Int) ≤ if c - 10 ^ 18 > 0 then c - 10 ^ 18 else 0
  split <;> omega
theorem scNext : FnScope ["pool", "base", "digit", "near", "stir"] ["pool", "base"] (defScope xNext) := ⟨rfl, rfl, rfl, by decide +kernel, rfl, by decide +kernel, by decide +kernel⟩
set_option maxHeartbeats 2000000 in
theorem ok_next (F : Fun K "_law_next" "_law_next" xNext f fd) (B : BN mg) : Ok2 P w K mg base 1 f fd ["pool", "base"] spNext := by
  have nd := scNext.nd
  refine fn2 F scNext (fun vs G Q h => ?_) (fun cdv A outer s H E as G Q hr h => ?_)
  · obtain ⟨a, b, rfl, _⟩ := h
    rfl
  have hU := u200 hr
  apply ex2
  case a => symm
  obtain ⟨a, b, rfl, ⟨x, y, z, ga, hx⟩, b1, b2, q⟩ := h
  left
  refine ixL_i (lk_lst ga) rfl ?_
  refine ifB (fun hp => ?_) (fun hp => ?_)
  · left
    refine ixL_i (i := 0) (lk_lst ga) rfl ?_
    refine ⟨by omega, ?_⟩
    left
    refine ixL_i (i := 0) (lk_lst ga) rfl ?_
    refine ⟨⟨by omega, Int.le_trans b2 (by decide)⟩, ?_⟩
    left
    refine setL_i (k := 0) ga rfl ?_
    exact ⟨_, GE.refl, q _ _ (Int.emod_nonneg _ (by omega)) (Int.emod_lt_of_pos _ (by omega)) ⟨x / b, y, z, up_same, Int.ediv_nonneg hx (by omega)⟩ (Ch.refl.put (by simp))⟩
  · left
    refine ixL_i (i := 2) (lk_lst ga) rfl ?_
    left
    refine setL_i (k := 2) ga rfl ?_
    left
    refine ixL_i (i := 1) (lk_lst up_same) rfl ?_
    left
    refine ixL_i (i := 2) (lk_lst up_same) rfl ?_
    refine ⟨.inl ⟨by decide, by decide⟩, (by decide : (0 : Int) < 1000000007), ?_⟩
    have n0 : 0 ≤ (y + 7919 * (z + 1)) % 1000000007 := Int.emod_nonneg _ (by decide)
    have n1 : (y + 7919 * (z + 1)) % 1000000007 < 1000000007 := Int.emod_lt_of_pos _ (by decide)
    refine ⟨.inl ⟨?_, ?_⟩, (by decide : (0 : Int) < 998244353), ?_⟩
    · show -(2 ^ 64) < (y + 7919 * (z + 1)) % 1000000007 + 11
      omega
    · show (y + 7919 * (z + 1)) % 1000000007 + 11 < 2 ^ 64
      omega
    generalize ((y + 7919 * (z + 1)) % 1000000007 + 11) * ((y + 7919 * (z + 1)) % 1000000007 + 48271) = k
    have s0 : 0 ≤ k % 998244353 := Int.emod_nonneg _ (by decide)
    have s1 : k % 998244353 < 998244353 := Int.emod_lt_of_pos _ (by decide)
    refine ⟨.inl ⟨?_, ?_⟩, (by decide : (0 : Int) < 2147483647), ⟨by decide, by decide⟩, (by omega : 0 < b), ?_⟩
    · show -(2 ^ 64) < k % 998244353
      omega
    · show k % 998244353 < 2 ^ 64
      omega
    exact ⟨_, GE.refl, q _ _ (Int.emod_nonneg _ (by omega)) (Int.emod_lt_of_pos _ (by omega)) ⟨x, y, z + 1, up_same, hx⟩ (Ch.refl.put (by simp))⟩
theorem scSigns : FnScope ["pool", "letters", "some"] ["pool", "letters"] (defScope xSigns) := ⟨rfl, rfl, rfl, by decide +kernel, rfl, by decide +kernel, by decide +kernel⟩
theorem csSigns : compOkB (defScope xSigns) ["pool", "letters", "some"] (cscope [(".0", .local), ("sign", .local), ("_law_next", .globalImplicit), ("pool", .free)]) ["sign", "pool"] [none, some 0] 0 "sign" = true := by decide +kernel
noncomputable def spSigns : Sp2 := fun ps G Q => ∃ (a : Addr) (z : Str), ps = [.ref a, .str z] ∧ Pool G a ∧ 1 ≤ z.length ∧ z.length ≤ 6 ∧ oS z ∧ ∀ s G', 1 ≤ s.length → s.length ≤ 6 → oS s → Pool G' a → Ch [a] G G' → Q (enc (.sign s)) G'
set_option maxHeartbeats 4000000 in
theorem ok_signs (F : Fun K "_law_signs" "_law_signs" xSigns f fd) (B : BN mg) (C : Cal2 P w K mg base 1 "_law_next" fn dn ["pool", "base"] spNext) : Ok2 P w K mg base 2 f fd ["pool", "letters"] spSigns := by
  have nd := scSigns.nd
  refine fn2 F scSigns (fun vs G Q h => ?_) (fun cdv A outer s H E as G Q hr h => ?_)
  · obtain ⟨_, _, rfl, _⟩ := h
    rfl
  have hU := u200 hr
  apply ex2
  case a =>
    symm
    all_goals try (refine' js_comp (n := 2) (ix := [none, some 0]) (j := 0) nd rfl rfl csSigns rfl ?_ (fun C s H fp => ⟨?_, ?_⟩))
    all_goals symm
  obtain ⟨a, z, rfl, p1, z1, z6, zs, q⟩ := h
  have c1 : Ch [a] G G := Ch.refl
  left
  intro acc hacc
  have hla : acc ≠ a := fun e => by subst e; obtain ⟨o, eo⟩ := p1.some; rw [eo] at hacc; cases hacc
  have fin : ∀ (y : Addr) (cs : List Nat) G2 τ, gt τ 2 = some (.ref y) → cs ≠ [] → cs.Sublist z.cps.toList → G2 y = some (.lst (cs.map fun c => .str (oneS c))) → Pool G2 a → Ch [a] G G2 →
      (sRet (eTup (aCons (eC (PV.str "sign")) (aCons (eMtS join2 (eC (PV.str "")) (aCons (eV 2) aNil)) aNil)))) { nx := fun x G' => ∃ G0, GE G0 G' ∧ Q PV.non G0, rt := fun p G' => ∃ G0, GE G0 G' ∧ Q p G0 } τ G2 := by
    intro y cs G2 τ ht hne hsub gy hp2 hc2
    have hl : cs.length ≤ 6 := Nat.le_trans hsub.length_le (by rw [Array.length_toList]; exact z6)
    left
    rw [ht]
    left
    refine joinL_i (zs := cs.map oneS) (by rw [List.map_map]; exact lk_lst gy) (by rw [sum_ones, List.length_map]; show cs.length + cs.length * 0 ≤ _; omega) ?_
    left
    have hle : (Txt.join (Str.ofString "") (cs.map oneS)).length = cs.length := by
      rw [← join_chars cs, Array.length_toList]; rw [join_chars]; rfl
    refine ⟨lek, G2, GE.refl, q _ G2 ?_ ?_ ?_ hp2 hc2⟩
    · rw [hle]; exact List.length_pos_iff.mpr hne
    · rw [hle]; exact hl
    · intro c hc
      rw [join_chars cs] at hc
      exact zs c (hsub.subset hc)
  refine ⟨fun i ys G2 => ∃ cs : List Nat, ys = cs.map (fun c => .str (oneS c)) ∧ cs.Sublist (z.cps.toList.take i) ∧ G2 acc = some (.lst ys) ∧ Pool G2 a ∧ Ch [a] G G2, ⟨[], rfl, List.nil_sublist _, up_same, p1.new hacc, Ch.refl.new hacc⟩, ?_, ?_, ?_⟩
  · rintro i ys G2 hi ⟨cs, rfl, hs, ga, _, _⟩
    refine ⟨trivial, ga, ?_⟩
    have h1 := hs.length_le
    rw [List.length_take] at h1
    have h2 : z.cps.toList.length ≤ 6 := by rw [Array.length_toList]; exact z6
    rw [List.length_map]; omega
  · rintro i ys G2 x hx ⟨cs, rfl, hs, ga, hp2, hc2⟩
    obtain ⟨c, hc, rfl⟩ := signs_at hx
    have tk : z.cps.toList.take (i + 1) = z.cps.toList.take i ++ [c] := by rw [List.take_add_one, hc]; rfl
    left
    refine ⟨a, 2, rfl, hp2, by decide, by decide, fun m G3 m0 m1 p3 c3 => ?_⟩
    have ga3 : G3 acc = _ := c3 acc _ (by simpa using hla) ga
    left
    refine ⟨rfl, rfl, ?_⟩
    left
    refine ifB (fun _ => ?_) (fun _ => ?_)
    · left
      refine ⟨ga3, cs ++ [c], by simp, ?_, up_same, p3.ne hla, (hc2.trans c3).mod' hacc⟩
      rw [tk]; exact hs.append_right _ |>.trans (List.Sublist.refl _)
    · refine ⟨cs, rfl, ?_, ga3, p3, hc2.trans c3⟩
      rw [tk]; exact hs.trans (List.sublist_append_left _ _)
  · rintro ys G2 ⟨cs, rfl, hs, ga, hp2, hc2⟩
    have hs' : cs.Sublist z.cps.toList := by
      have hl : (signsP z).length = z.cps.toList.length := by unfold signsP; rw [List.length_map]
      rwa [hl, List.take_length] at hs
    left
    refine ⟨lek, fun l hl => ?_⟩
    left
    have lal : acc ≠ l := ne_none ga hl
    refine eqL_i (xs := cs.map fun c => .str (oneS c)) (ys := []) (lk_lst (by rw [up_ne lal]; exact ga)) lk_up ?_ rfl ?_
    · exact pure_strs cs
    left
    cases cs with
    | nil =>
      refine ifT rfl ?_
      left
      refine ⟨by omega, ?_⟩
      refine ⟨a, z.length, rfl, hp2.new hl, by omega, by omega, fun m G3 m0 m1 p3 c3 => ?_⟩
      obtain ⟨c, ec, mc⟩ := atI_of (xs := z.cps.toList) m0 (by rw [Array.length_toList]; exact m1)
      left
      refine ixS_i (by omega) ec ?_
      left
      refine ⟨lek, fun l2 hl2 => ?_⟩
      exact fin l2 [c] _ [some (.ref a), some (.str z), some (.ref l2)] rfl (by simp) (List.singleton_sublist.mpr mc) up_same (p3.new hl2) ((((c1.trans hc2).new hl).trans c3).new hl2)
    | cons c cs =>
      refine ifF rfl ?_
      exact fin acc (c :: cs) _ [some (.ref a), some (.str z), some (.ref acc)] rfl (by simp) hs' (by rw [up_ne lal]; exact ga) (hp2.new hl) ((c1.trans hc2).new hl)
theorem scLeaf : FnScope ["pool", "letters", "blank"] ["pool", "letters", "blank"] (defScope xLeaf) := ⟨rfl, rfl, rfl, by decide +kernel, rfl, by decide +kernel, by decide +kernel⟩
noncomputable def spLeaf : Sp2 := fun ps G Q => ∃ (a : Addr) (z : Str) (b : Bool), ps = [.ref a, .str z, .bl b] ∧ Pool G a ∧ 1 ≤ z.length ∧ z.length ≤ 6 ∧ oS z ∧
  ∀ p G', wq p → inner p = [] → (canB p = true → b = true) → Pool G' a → Ch [a] G G' → Q (enc p) G'
set_option maxHeartbeats 4000000 in
theorem ok_leaf (F : Fun K "_law_leaf" "_law_leaf" xLeaf f fd) (B : BN mg) (C : Cal2 P w K mg base 1 "_law_next" fn dn ["pool", "base"] spNext) (CS : Cal2 P w K mg base 2 "_law_signs" ft dt ["pool", "letters"] spSigns) : Ok2 P w K mg base 3 f fd ["pool", "letters", "blank"] spLeaf := by
  have nd := scLeaf.nd
  refine fn2 F scLeaf (fun vs G Q h => ?_) (fun cdv A outer s H E as G Q hr h => ?_)
  · obtain ⟨_, _, _, rfl, _⟩ := h
    rfl
  have hU := u200 hr
  apply ex2
  case a => symm
  obtain ⟨a, z, b, rfl, hp, z1, z6, zs, q⟩ := h
  left
  cases b with
  | false =>
    refine ifF rfl ?_
    left
    refine ⟨a, z, rfl, hp, z1, z6, zs, fun s G1 s1 s6 ss p1 c1 => ?_⟩
    exact ⟨_, GE.refl, q (.sign s) G1 ⟨s1, s6, ss⟩ rfl (fun h => nomatch h) p1 c1⟩
  | true =>
    refine ifT rfl ?_
    left
    refine ⟨a, 6, rfl, hp, by decide, by decide, fun n G1 n0 n6 p1 c1 => ?_⟩
    left
    refine eqP_i rfl rfl ?_
    refine ifB (fun _ => ?_) (fun _ => ?_)
    · left
      refine ⟨lek, ?_⟩
      left
      refine ⟨lek, ?_⟩
      left
      refine ⟨lek, ?_⟩
      left
      refine ⟨lek, ?_⟩
      left
      refine ⟨lek, fun l hl => ?_⟩
      have nl := pool_ne p1 hl
      left
      refine ⟨a, 4, rfl, p1.new hl, by decide, by decide, fun m G2 m0 m4 p2 c2 => ?_⟩
      have e : ∃ p : Pt, atI [PV.tup [PV.str "blank"], PV.tup [PV.str "blank"], PV.tup [PV.str "blank"], PV.tup [PV.str "none"]] m = some (enc p) ∧ wq p ∧ inner p = [] := by
        have : m = 0 ∨ m = 1 ∨ m = 2 ∨ m = 3 := by omega
        rcases this with rfl | rfl | rfl | rfl
        · exact ⟨.blank, rfl, trivial, rfl⟩
        · exact ⟨.blank, rfl, trivial, rfl⟩
        · exact ⟨.blank, rfl, trivial, rfl⟩
        · exact ⟨.none, rfl, trivial, rfl⟩
      obtain ⟨p, ep, w1, w2⟩ := e
      left
      refine ixL_i (lk_lst (c2 l _ (by simpa using nl) up_same)) ep ?_
      exact ⟨_, GE.refl, q p G2 w1 w2 (fun _ => rfl) p2 ((c1.new hl).trans c2)⟩
    · left
      refine ⟨a, z, rfl, p1, z1, z6, zs, fun s G2 s1 s6 ss p2 c2 => ?_⟩
      exact ⟨_, GE.refl, q (.sign s) G2 ⟨s1, s6, ss⟩ rfl (fun h => nomatch h) p2 (c1.trans c2)⟩
end
noncomputable abbrev xInside : Stmt := top 33
noncomputable abbrev xSize : Stmt := top 34
theorem occ_nil : ∀ c ∈ (Str.ofString "abc []\\|~x.0").cps.toList, (Builtin.Str.occurrences (Str.ofString "") ⟨#[c]⟩ 0 (Str.ofString "").length 1).isEmpty = true := by decide +kernel
theorem ints_at {lo : Int} {n i : Nat} {x : PV} (h : (intsP lo n)[i]? = some x) : i < n ∧ x = .int (lo + i) := by
  unfold intsP at h
  rw [List.getElem?_map] at h
  cases e : (List.range n)[i]? with
  | none => rw [e] at h; cases h
  | some j =>
    rw [e] at h
    have hi : i < n := by
      have := (List.getElem?_eq_some_iff.mp e).1
      simpa using this
    rw [List.getElem?_range hi] at e
    cases e
    cases h
    exact ⟨hi, rfl⟩
theorem ints_len (lo : Int) (n : Nat) : (intsP lo n).length = n := by unfold intsP; simp
theorem join_len (cs : List Nat) : (Txt.join (Str.ofString "") (cs.map oneS)).length = cs.length := by
  rw [← join_chars cs, Array.length_toList]; rw [join_chars]; rfl
theorem encs_at' {ps : List Pt} {i : Nat} {x : PV} (h : (encs ps)[i]? = some x) : ∃ c, ps[i]? = some c ∧ x = enc c := by
  rw [encs_map, List.getElem?_map] at h
  cases e : ps[i]? with
  | none => rw [e] at h; cases h
  | some c => rw [e] at h; exact ⟨c, rfl, (Option.some.inj h).symm⟩
theorem cGo_encs {cs : List Pt} {c : Gp → Prop} {ix : List (Option Nat)} {j : Nat} {τ : St2} {te : E2} {Q : K2} {G1 : Gp} {acc : Addr} (g : Pt → PV) (hz : cs.length < 1000000)
    (hc : ∀ ys, c (up G1 acc (.lst ys))) (he : ∀ x ys (R : K2), x ∈ cs → R (g x) (up G1 acc (.lst ys)) → te (L3.st (cap2 ix τ) j (some (enc x))) (up G1 acc (.lst ys)) R)
    (hq : Q (.ref acc) (up G1 acc (.lst (cs.map g)))) : cGo (encs cs) c ix j τ tYes2 te Q G1 acc := by
  refine ⟨fun i ys G => ys = (cs.take i).map g ∧ G = up G1 acc (.lst ys), ⟨by simp, rfl⟩, ?_, ?_, ?_⟩
  · rintro i ys G hi ⟨rfl, rfl⟩
    refine ⟨hc _, up_same, ?_⟩
    rw [List.length_map, List.length_take]
    omega
  · rintro i ys G x hx ⟨rfl, rfl⟩
    obtain ⟨d, hd, rfl⟩ := encs_at' hx
    have tk : cs.take (i + 1) = cs.take i ++ [d] := by rw [List.take_add_one, hd]; rfl
    refine ifT rfl ?_
    refine he d _ _ (List.mem_of_getElem? hd) ⟨up_same, ?_, up_up⟩
    rw [tk, List.map_append]
    rfl
  · rintro ys G ⟨rfl, rfl⟩
    rw [encs_length, List.take_length]
    exact hq
theorem oS_nil : oS (Str.ofString "") := fun c hc => by cases (show c ∈ ([] : List Nat) from hc)
theorem oS_snoc {z : Str} {c : Nat} (h : oS z) (hc : c ∈ (Str.ofString "abc []\\|~x.0").cps.toList) : oS (z ++ (⟨#[c]⟩ : Str)) := fun d hd => by
  have hd' : d ∈ (z.cps ++ #[c]).toList := hd
  rw [Array.toList_append] at hd'
  rcases List.mem_append.mp hd' with h1 | h1
  · exact h d h1
  · cases List.mem_singleton.mp h1; exact hc
section
variable {P : Program} {w : World} {K : PySem.W.Frag} {mg : Str → Option Value} {base : Heap} {f fn fi ft fa : Addr} {fd dn di dt da : FuncData}
theorem scLetters : FnScope ["pool", "found", "k", "sign"] ["pool"] (defScope xLetters) := ⟨rfl, rfl, rfl, by decide +kernel, rfl, by decide +kernel, by decide +kernel⟩
noncomputable def spLetters : Sp2 := fun ps G Q => ∃ (a : Addr), ps = [.ref a] ∧ Pool G a ∧ ∀ (z : Str) G', 1 ≤ z.length → z.length ≤ 6 → oS z → Pool G' a → Ch [a] G G' → Q (.str z) G'
set_option maxHeartbeats 4000000 in
theorem ok_letters (F : Fun K "_law_letters" "_law_letters" xLetters f fd) (B : BN mg) (C : Cal2 P w K mg base 1 "_law_next" fn dn ["pool", "base"] spNext) : Ok2 P w K mg base 2 f fd ["pool"] spLetters := by
  have nd := scLetters.nd
  refine fn2 F scLetters (fun vs G Q h => ?_) (fun cdv A outer s H E as G Q hr h => ?_)
  · obtain ⟨p, rfl, _⟩ := h
    rfl
  have hU := u200 hr
  apply ex2
  case a => symm
  obtain ⟨a, rfl, hp, q⟩ := h
  left
  refine ⟨a, 2, rfl, hp, by decide, by decide, fun n G1 n0 n2 p1 c1 => ?_⟩
  left
  refine ⟨by omega, by omega, fun i τ G2 => ∃ (z : Str) (t2 t3 : Option PV), τ = [some (.ref a), some (.str z), t2, t3] ∧ z.length ≤ i ∧ (1 ≤ i → 1 ≤ z.length) ∧ (i = 0 → z = Str.ofString "") ∧ oS z ∧ Pool G2 a ∧ Ch [a] G G2, ⟨_, _, _, rfl, by decide, fun h => by omega, fun _ => rfl, oS_nil, p1, c1⟩, fun _ _ _ _ _ => trivial, ?_, ?_⟩
  · rintro i x τ G2 hx ⟨z, t2, t3, rfl, z1, z2, z3, zs, p2, c2⟩
    obtain ⟨hi, rfl⟩ := ints_at hx
    have hi3 : i < 3 := by omega
    left
    refine ⟨a, 12, rfl, p2, by decide, by decide, fun m G3 m0 m12 p3 c3 => ?_⟩
    left
    refine ⟨.inl ⟨by decide, by decide⟩, ?_⟩
    left
    refine ⟨(by decide : (0 : Int) < 12), ?_⟩
    have r0 : 0 ≤ (m + 5 * (0 + (i : Int))) % 12 := Int.emod_nonneg _ (by decide)
    have r1 : (m + 5 * (0 + (i : Int))) % 12 < 12 := Int.emod_lt_of_pos _ (by decide)
    obtain ⟨c, ec, hcm⟩ := atI_of (xs := (Str.ofString "abc []\\|~x.0").cps.toList) r0 r1
    left
    refine ixS_i (by decide) ec ?_
    left
    refine ifB (fun hn => ?_) (fun hn => ?_)
    · left
      refine ⟨by show z.length + 1 ≤ _; omega, ?_⟩
      have el : (z ++ (⟨#[c]⟩ : Str)).length = z.length + 1 := by
        show (z.cps ++ #[c]).size = _
        rw [Array.size_append]; rfl
      exact ⟨_, _, _, rfl, by rw [el]; omega, fun _ => by rw [el]; omega, fun h => by omega, oS_snoc zs hcm, p3, c2.trans c3⟩
    · refine ⟨_, _, _, rfl, by omega, fun _ => ?_, fun h => by omega, zs, p3, c2.trans c3⟩
      by_cases h0 : i = 0
      · have e := z3 h0
        subst e
        exact absurd hn (by rw [show (Builtin.Str.occurrences (Str.ofString "") ⟨#[c]⟩ 0 (Str.ofString "").length 1).isEmpty = true from occ_nil c hcm]; decide)
      · exact z2 (by omega)
  · rintro τ G2 ⟨z, t2, t3, rfl, z1, z2, z3, zs, p2, c2⟩
    rw [ints_len] at z1 z2
    have h1 := z2 (by omega)
    left
    refine ⟨by omega, fun cs l hperm hl => ?_⟩
    have hcl : cs.length = z.length := by rw [hperm.length_eq, Array.length_toList]; rfl
    left
    refine joinL_i (zs := cs.map oneS) (lk_lst (by rw [up_same, List.map_map]; rfl)) (by rw [sum_ones, List.length_map]; show cs.length + cs.length * 0 ≤ _; omega) ?_
    refine ⟨_, GE.refl, q _ _ (by rw [join_len]; omega) (by rw [join_len]; omega) (fun c hc => by rw [join_chars cs] at hc; exact zs c (hperm.mem_iff.mp hc)) (p2.new hl) (c2.new hl)⟩
theorem scInside : FnScope ["pattern"] ["pattern"] (defScope xInside) := ⟨rfl, rfl, rfl, by decide +kernel, rfl, by decide +kernel, by decide +kernel⟩
noncomputable def spInside : Sp2 := fun ps G Q => ∃ p, ps = [enc p] ∧ ∀ c, G c = none → Q (.ref c) (up G c (.lst (encs (inner p))))
set_option maxHeartbeats 4000000 in
theorem ok_inside (F : Fun K "_law_inside" "_law_inside" xInside f fd) (B : BN mg) : Ok2 P w K mg base 1 f fd ["pattern"] spInside := by
  have nd := scInside.nd
  refine fn2 F scInside (fun vs G Q h => ?_) (fun cdv A outer s H E as G Q hr h => ?_)
  · obtain ⟨_, rfl, _⟩ := h
    rfl
  have hU := u200 hr
  apply ex2
  case a => symm
  obtain ⟨p, rfl, q⟩ := h
  cases p with
  | row ps =>
    refine ⟨lek, rfl, rfl, fun c hc => ⟨_, GE.refl, q c hc⟩⟩
  | pick ps =>
    refine ⟨lek, rfl, rfl, fun c hc => ⟨_, GE.refl, q c hc⟩⟩
  | _ => exact ⟨lek, rfl, rfl, lek, rfl, rfl, lek, fun c hc => ⟨_, GE.refl, q c hc⟩⟩
theorem scSize : FnScope ["pattern"] ["pattern"] (defScope xSize) := ⟨rfl, rfl, rfl, by decide +kernel, rfl, by decide +kernel, by decide +kernel⟩
theorem csSize : compOkB (defScope xSize) ["pattern"] (cscope [(".0", .local), ("part", .local), ("_law_size", .globalImplicit)]) ["part"] [none] 0 "part" = true := by decide +kernel
noncomputable def spSize (n : Nat) : Sp2 := fun ps G Q => ∃ p : Pt, ps = [enc p] ∧ depth p < n ∧ size p ≤ 10000 ∧ Q (.int (size p : Nat)) G
theorem sizes_sum : ∀ ps : List Pt, (ps.map fun p => ((size p : Nat) : Int)).sum = ((sizes ps : Nat) : Int)
  | [] => rfl
  | p :: ps => by rw [List.map_cons, List.sum_cons, sizes_sum ps]; simp only [sizes]; omega
set_option maxHeartbeats 4000000 in
theorem ok_size {n k : Nat} (hk : 1 ≤ k) (F : Fun K "_law_size" "_law_size" xSize f fd) (B : BN mg) (CI : Cal2 P w K mg base 1 "_law_inside" fi di ["pattern"] spInside) (C : Cal2 P w K mg base k "_law_size" fa da ["pattern"] (spSize n)) :
    Ok2 P w K mg base (k + 1) f fd ["pattern"] (spSize (n + 1)) := by
  have nd := scSize.nd
  refine fn2 F scSize (fun vs G Q h => ?_) (fun cdv A outer s H E as G Q hr h => ?_)
  · obtain ⟨p, rfl, _⟩ := h
    rfl
  have hU := u200 hr
  apply ex2
  case a =>
    symm
    all_goals try (refine' j_comp csSize rfl ?_ fun _ _ _ _ => ⟨?_, ?_⟩)
    all_goals symm
  obtain ⟨p, rfl, hd, hz, q⟩ := h
  have hdi := size_depth_inner p
  have hsi := size_inner p
  left
  refine ⟨p, rfl, fun l hl => ?_⟩
  left
  rw [lk_up]
  left
  intro acc hacc
  have nla := ne_none (G := up G l (.lst (encs (inner p)))) up_same hacc
  refine cGo_encs (fun c => .int (size c : Nat)) ?_ (fun ys => ?_) (fun x ys R hx r => ?_) ?_
  · have := length_le_sizes (inner p); omega
  · exact lk_lst (by rw [up_ne nla, up_same])
  · have := depth_mem hx
    have := size_mem hx
    exact ⟨x, rfl, by omega, by omega, r⟩
  left
  refine sumL_i (ns := (inner p).map fun c => ((size c : Nat) : Int)) (lk_lst (by rw [up_same, List.map_map]; rfl)) ?_
  rw [sizes_sum]
  left
  refine ⟨G, (GE.refl.new hl).new hacc, ?_⟩
  rw [show (1 : Int) + ((sizes (inner p) : Nat) : Int) = ((size p : Nat) : Int) by omega]
  exact q
end
noncomputable abbrev xParts : Stmt := top 31
noncomputable abbrev xPattern : Stmt := top 32
noncomputable abbrev xDrawn : Stmt := top 35
noncomputable def bnd : Nat → Nat
  | 0 => 1
  | d + 1 => 1 + 6 * bnd d
theorem bnd_pos : ∀ d, 1 ≤ bnd d
  | 0 => by simp [bnd]
  | d + 1 => by simp [bnd]
theorem leaf_one {p : Pt} (h : inner p = []) : depth p = 1 ∧ size p = 1 := by
  have h1 := size_depth_inner p
  have h2 := size_inner p
  rw [h] at h1 h2
  simp only [depths, sizes] at h1 h2
  omega
section
variable {P : Program} {w : World} {K : PySem.W.Frag} {mg : Str → Option Value} {base : Heap} {f fn fi ft fa fq fp fl : Addr} {fd dn di dt da dq dp dl : FuncData}
noncomputable def spPattern (n : Nat) : Sp2 := fun ps G Q => ∃ (a r : Addr) (z : Str) (d : Nat) (m : Int) (b : Bool), ps = [.ref a, .str z, .int d, .ref r, .bl b] ∧ (1 ≤ d ∧ d < n) ∧ Pool G a ∧ G r = some (.lst [.int m]) ∧ a ≠ r ∧ 1 ≤ z.length ∧ z.length ≤ 6 ∧ oS z ∧
  ∀ p G' m', wq p → depth p ≤ d → size p ≤ bnd d → (canB p = true → b = true) → Pool G' a → G' r = some (.lst [.int m']) → Ch [a, r] G G' → Q (enc p) G'
noncomputable def spParts (n : Nat) : Sp2 := fun ps G Q => ∃ (a r : Addr) (z : Str) (d : Nat) (m h : Int), ps = [.ref a, .str z, .int d, .ref r, .int h] ∧ (2 ≤ d ∧ d ≤ n) ∧ Pool G a ∧ G r = some (.lst [.int m]) ∧ a ≠ r ∧ 1 ≤ z.length ∧ z.length ≤ 6 ∧ oS z ∧
  ∀ qs G' m', wqs qs → 2 ≤ qs.length → qs.length ≤ 6 → depths qs ≤ d - 1 → sizes qs ≤ 6 * bnd (d - 1) → (0 ≤ h → h ≤ 1 → allB qs = false) → Pool G' a → G' r = some (.lst [.int m']) → Ch [a, r] G G' → Q (.tup (encs qs)) G'
theorem scParts : FnScope ["pool", "letters", "deep", "room", "hard", "found", "k"] ["pool", "letters", "deep", "room", "hard"] (defScope xParts) := ⟨rfl, rfl, rfl, by decide +kernel, rfl, by decide +kernel, by decide +kernel⟩
set_option maxHeartbeats 8000000 in
theorem ok_parts {n k : Nat} (hk : 1 ≤ k) (F : Fun K "_law_parts" "_law_parts" xParts f fd) (B : BN mg) (CN : Cal2 P w K mg base 1 "_law_next" fn dn ["pool", "base"] spNext) (C : Cal2 P w K mg base k "_law_pattern" fp dp ["pool", "letters", "deep", "room", "blank"] (spPattern n)) : Ok2 P w K mg base (k + 1) f fd ["pool", "letters", "deep", "room", "hard"] (spParts n) := by
  have nd := scParts.nd
  refine fn2 F scParts (fun vs G Q h => ?_) (fun cdv A outer s H E as G Q hr h => ?_)
  · obtain ⟨_, _, _, _, _, _, rfl, _⟩ := h
    rfl
  have hU := u200 hr
  apply ex2
  case a => symm
  obtain ⟨a, r, z, d, m, h, rfl, ⟨d2, dn'⟩, hp, gr, har, z1, z6, zs, q⟩ := h
  left
  refine ⟨lek, fun lf hlf => ?_⟩
  have nla := pool_ne hp hlf
  have nlr : lf ≠ r := Ne.symm (ne_none gr hlf)
  left
  refine ⟨lek, fun l hl => ?_⟩
  have p0 := (hp.new (o := .lst []) hlf).new (o := .lst [PV.int 2, .int 3, .int 2, .int 3, .int 4, .int 6]) hl
  have nl2 := pool_ne (hp.new (o := .lst []) hlf) hl
  obtain ⟨nllf, hl'⟩ := up_none hl
  have nlr2 : l ≠ r := Ne.symm (ne_none gr hl')
  left
  refine ⟨a, 6, rfl, p0, by decide, by decide, fun n1 G1 n10 n16 p1 c1 => ?_⟩
  obtain ⟨ct, ec, ct2, ct6⟩ : ∃ ct : Int, atI [PV.int 2, .int 3, .int 2, .int 3, .int 4, .int 6] n1 = some (.int ct) ∧ 2 ≤ ct ∧ ct ≤ 6 := by
    have : n1 = 0 ∨ n1 = 1 ∨ n1 = 2 ∨ n1 = 3 ∨ n1 = 4 ∨ n1 = 5 := by omega
    rcases this with rfl | rfl | rfl | rfl | rfl | rfl
    · exact ⟨2, rfl, by decide, by decide⟩
    · exact ⟨3, rfl, by decide, by decide⟩
    · exact ⟨2, rfl, by decide, by decide⟩
    · exact ⟨3, rfl, by decide, by decide⟩
    · exact ⟨4, rfl, by decide, by decide⟩
    · exact ⟨6, rfl, by decide, by decide⟩
  have gl1 := c1 l _ (by simpa using nl2) up_same
  have glf1 := c1 lf _ (by simpa using nla) (by rw [up_ne (Ne.symm nllf), up_same])
  have gr1 := c1 r _ (by simpa using Ne.symm har) (by rw [up_ne (Ne.symm nlr2), up_ne (Ne.symm nlr)]; exact gr)
  have k1 : Ch [a, r] G G1 := (((Ch.refl.new hlf).new hl).trans (c1.mono (by simp)))
  left
  refine ixL_i (lk_lst gl1) ec ?_
  left
  refine ⟨by omega, by omega, fun i τ G2 => ∃ (qs : List Pt) (m' : Int) (z6 : Option PV), τ = [some (.ref a), some (.str z), some (.int d), some (.ref r), some (.int h), some (.ref lf), z6] ∧ G2 lf = some (.lst (encs qs)) ∧ qs.length = i ∧ (∀ c ∈ qs, wq c ∧ depth c ≤ d - 1) ∧ sizes qs ≤ i * bnd (d - 1) ∧ (0 ≤ h → h < i → allB qs = false) ∧ Pool G2 a ∧ G2 r = some (.lst [.int m']) ∧ Ch [a, r] G G2,
    ⟨[], m, _, rfl, glf1, rfl, by simp, by simp [sizes], fun _ h2 => by omega, p1, gr1, k1⟩, fun _ _ _ _ _ => trivial, ?_, ?_⟩
  · rintro i x τ G2 hx ⟨qs, m', z6', rfl, g2, hq, hok, hsz, hB, p2, gr2, c2⟩
    obtain ⟨hi, rfl⟩ := ints_at hx
    have hi6 : i < 6 := by omega
    left
    refine ⟨⟨_, g2⟩, ?_⟩
    left
    refine neP_i rfl rfl ?_
    left
    refine ⟨a, r, z, d - 1, m', !(deq (.int (0 + i)) (.int h)), by rw [show ((d - 1 : Nat) : Int) = (d : Int) - 1 by omega], by omega, p2, gr2, har, z1, by omega, zs, fun p G3 m3 w3 d3 s3 b3 p3 g3 c3 => ?_⟩
    have glf3 := c3 lf _ (by simp [nla, nlr]) g2
    left
    refine append_i glf3 (by rw [encs_length]; omega) ?_
    refine ⟨qs ++ [p], m3, _, rfl, by rw [up_same, encs_append]; rfl, by rw [List.length_append, hq]; rfl, ?_, ?_, ?_, p3.ne nla, by rw [up_ne (Ne.symm nlr)]; exact g3, (c2.trans c3).mod' hlf⟩
    · intro c hc
      rcases List.mem_append.mp hc with hc | hc
      · exact hok c hc
      · cases List.mem_singleton.mp hc; exact ⟨w3, d3⟩
    · rw [sizes_append, Nat.succ_mul]
      simp only [sizes]
      omega
    · intro h0 hi1
      rw [allB_append]
      by_cases he : h = i
      · have : canB p = false := by
          cases hc : canB p with
          | false => rfl
          | true =>
            have := b3 hc
            subst he
            rw [show (0 : Int) + (i : Int) = (i : Int) by omega] at this
            have e2 : (!((i : Int) == (i : Int))) = true := this
            simp at e2
        simp [allB, this]
      · rw [hB h0 (by omega), Bool.false_and]
  · rintro τ G2 ⟨qs, m', z6', rfl, g2, hq, hok, hsz, hB, p2, gr2, c2⟩
    rw [ints_len] at hq hsz hB
    left
    refine tupL_i (xs := encs qs) (lk_lst g2) ?_
    refine ⟨_, GE.refl, q qs G2 m' (wqs_mem.mpr fun c hc => (hok c hc).1) (by omega) (by omega) (depths_le fun c hc => (hok c hc).2) ?_ (fun h0 h1 => hB h0 (by omega)) p2 gr2 c2⟩
    refine Nat.le_trans hsz (Nat.mul_le_mul_right _ (by omega))
theorem scPattern : FnScope ["pool", "letters", "deep", "room", "blank", "way", "part", "other", "word"] ["pool", "letters", "deep", "room", "blank"] (defScope xPattern) := ⟨rfl, rfl, rfl, by decide +kernel, rfl, by decide +kernel, by decide +kernel⟩
set_option maxHeartbeats 16000000 in
theorem ok_pattern {n k : Nat} (hk : 3 ≤ k) (F : Fun K "_law_pattern" "_law_pattern" xPattern f fd) (B : BN mg) (CN : Cal2 P w K mg base 1 "_law_next" fn dn ["pool", "base"] spNext) (CL : Cal2 P w K mg base 3 "_law_leaf" fl dl ["pool", "letters", "blank"] spLeaf)
    (CP : Cal2 P w K mg base k "_law_pattern" fp dp ["pool", "letters", "deep", "room", "blank"] (spPattern n)) (CQ : Cal2 P w K mg base (k + 1) "_law_parts" fq dq ["pool", "letters", "deep", "room", "hard"] (spParts n)) :
    Ok2 P w K mg base (k + 2) f fd ["pool", "letters", "deep", "room", "blank"] (spPattern (n + 1)) := by
  have nd := scPattern.nd
  refine fn2 F scPattern (fun vs G Q h => ?_) (fun cdv A outer s H E as G Q hr h => ?_)
  · obtain ⟨_, _, _, _, _, _, rfl, _⟩ := h
    rfl
  have hU := u200 hr
  apply ex2
  case a => symm
  obtain ⟨a, r, z, d, m, b, rfl, hd, hp, gr, har, z1, z6, zs, q⟩ := h
  left
  refine ⟨a, 12, rfl, hp, by decide, by decide, fun way G1 w0 w12 p1 c1 => ?_⟩
  have gr1 := c1 r _ (by simpa using Ne.symm har) gr
  have k1 : Ch [a, r] G G1 := c1.mono (by simp)
  left
  refine ixL_i (lk_lst gr1) atI_zero ?_
  left
  refine setL_i (j := 0) gr1 rfl ?_
  have gr2 : up G1 r (.lst ([PV.int m].set 0 (.int (m - 1)))) r = some (.lst [.int (m - 1)]) := up_same
  have p2 := p1.ne (o := .lst ([PV.int m].set 0 (.int (m - 1)))) (Ne.symm har)
  have k2 : Ch [a, r] G (up G1 r (.lst ([PV.int m].set 0 (.int (m - 1))))) := k1.put (by simp)
  generalize up G1 r (.lst ([PV.int m].set 0 (.int (m - 1)))) = G2 at gr2 p2 k2 ⊢
  have leaf : ∀ τ R, τ = [some (.ref a), some (.str z), some (.int d), some (.ref r), some (.bl b), some (.int way), none, none, none] → sRet (eCall spLeaf (aCons (eV 0) (aCons (eV 1) (aCons (eV 4) aNil)))) { nx := R, rt := fun p G' => ∃ G0, GE G0 G' ∧ Q p G0 } τ G2 := by
    rintro τ R rfl
    left
    refine ⟨a, z, b, rfl, p2, z1, z6, zs, fun p G3 w3 i3 b3 p3 c3 => ?_⟩
    obtain ⟨e1, e2⟩ := leaf_one i3
    have := bnd_pos d
    exact ⟨_, GE.refl, q p G3 _ w3 (by omega) (by omega) b3 p3 (c3 r _ (by simpa using Ne.symm har) gr2) (k2.trans (c3.mono (by simp)))⟩
  left
  refine ifB (fun _ => ifT rfl (leaf _ _ rfl)) (fun h2 => ?_)
  have hd2 : 2 ≤ d := by
    have : ¬ ((d : Int) < 2) := of_decide_eq_false h2
    omega
  obtain ⟨e, rfl⟩ : ∃ e, d = e + 1 := ⟨d - 1, by omega⟩
  have hb1 : bnd (e + 1) = 1 + 6 * bnd e := rfl
  have hbp := bnd_pos e
  have ed : (((e + 1 : Nat) : Int) - 1) = (e : Int) := by omega
  left
  refine ixL_i (lk_lst gr2) atI_zero ?_
  left
  refine ifB (fun _ => ifT rfl (leaf _ _ rfl)) (fun _ => ?_)
  left
  refine ifB (fun _ => leaf _ _ rfl) (fun _ => ?_)
  left
  refine ifB (fun _ => ?_) (fun _ => ?_)
  · have row : ∀ (qs : List Pt) G4 m4, wqs qs → 2 ≤ qs.length → qs.length ≤ 6 → depths qs ≤ e + 1 - 1 → sizes qs ≤ 6 * bnd (e + 1 - 1) → (allB qs = true → b = true) → Pool G4 a → G4 r = some (.lst [.int m4]) → Ch [a, r] G G4 → ∃ G0, GE G0 G4 ∧ Q (.tup [.str "row", .tup (encs qs)]) G0 := by
      intro qs G4 m4 w4 l2 l6 d4 s4 b4 p4 g4 c4
      simp only [Nat.add_sub_cancel] at s4 d4
      refine ⟨_, GE.refl, q (.row qs) G4 m4 ⟨l2, l6, w4⟩ ?_ ?_ b4 p4 g4 c4⟩
      · show 1 + depths qs ≤ e + 1; omega
      · show 1 + sizes qs ≤ _; rw [hb1]; omega
    left
    cases b with
    | true =>
      refine ifT rfl ?_
      left
      refine ⟨a, r, z, e + 1, m - 1, -1, rfl, by omega, p2, gr2, har, z1, z6, zs, fun qs G4 m4 w4 l2 l6 d4 s4 b4 p4 g4 c4 => ?_⟩
      left
      exact ⟨lek, row qs G4 m4 w4 l2 l6 d4 s4 (fun _ => rfl) p4 g4 (k2.trans c4)⟩
    | false =>
      refine ifF rfl ?_
      left
      refine ⟨a, 2, rfl, p2, by decide, by decide, fun h G3 h0 h2 p3 c3 => ?_⟩
      left
      refine ⟨a, r, z, e + 1, m - 1, h, rfl, by omega, p3, c3 r _ (by simpa using Ne.symm har) gr2, har, z1, z6, zs, fun qs G4 m4 w4 l2 l6 d4 s4 b4 p4 g4 c4 => ?_⟩
      left
      exact ⟨lek, row qs G4 m4 w4 l2 l6 d4 s4 (fun hc => by rw [b4 h0 (by omega)] at hc; cases hc) p4 g4 ((k2.trans (c3.mono (by simp))).trans c4)⟩
  left
  refine ifB (fun _ => ?_) (fun _ => ?_)
  · left
    refine ⟨a, r, z, e, m - 1, b, by rw [← ed], by omega, p2, gr2, har, z1, z6, zs, fun p G3 m3 w3 d3 s3 b3 p3 g3 c3 => ?_⟩
    left
    refine ⟨a, r, z, e, m3, b, by rw [← ed], by omega, p3, g3, har, z1, z6, zs, fun p' G4 m4 w4 d4 s4 b4 p4 g4 c4 => ?_⟩
    left
    refine ⟨lek, ?_⟩
    left
    refine ⟨lek, ?_⟩
    left
    refine ⟨lek, ?_⟩
    left
    refine ⟨lek, fun l hl => ?_⟩
    have nl := pool_ne p4 hl
    have nlr : l ≠ r := Ne.symm (ne_none g4 hl)
    left
    refine ⟨a, 3, rfl, p4.new hl, by decide, by decide, fun j G5 j0 j3 p5 c5 => ?_⟩
    obtain ⟨qs, eq, hm, l2, l3⟩ : ∃ qs : List Pt, atI [PV.tup [enc p, enc p'], PV.tup [enc p, enc p], PV.tup [enc p, enc p', enc p]] j = some (.tup (encs qs)) ∧ (∀ c ∈ qs, c = p ∨ c = p') ∧ 2 ≤ qs.length ∧ qs.length ≤ 3 := by
      have : j = 0 ∨ j = 1 ∨ j = 2 := by omega
      rcases this with rfl | rfl | rfl
      · exact ⟨[p, p'], rfl, by simp, by simp, by simp⟩
      · exact ⟨[p, p], rfl, by simp, by simp, by simp⟩
      · exact ⟨[p, p', p], rfl, by intro c hc; simp only [List.mem_cons, List.not_mem_nil, or_false] at hc; rcases hc with h | h | h <;> first | exact .inl h | exact .inr h, by simp, by simp⟩
    have hall : ∀ c ∈ qs, wq c ∧ depth c ≤ e ∧ size c ≤ bnd e ∧ (canB c = true → b = true) := fun c hc => by
      rcases hm c hc with rfl | rfl
      · exact ⟨w3, d3, s3, b3⟩
      · exact ⟨w4, d4, s4, b4⟩
    left
    refine ixL_i (lk_lst (c5 l _ (by simpa using nl) up_same)) eq ?_
    left
    refine ⟨lek, _, GE.refl, q (.pick qs) G5 m4 ⟨l2, by omega, wqs_mem.mpr fun c hc => (hall c hc).1⟩ ?_ ?_ ?_ p5 (c5 r _ (by simpa using Ne.symm har) (by rw [up_ne (Ne.symm nlr)]; exact g4)) ((((k2.trans c3).trans c4).new hl).trans (c5.mono (by simp)))⟩
    · show 1 + depths qs ≤ e + 1
      have := depths_le (n := e) (ps := qs) fun c hc => (hall c hc).2.1
      omega
    · show 1 + sizes qs ≤ _
      rw [hb1]
      have key : ∀ l : List Pt, (∀ c ∈ l, size c ≤ bnd e) → sizes l ≤ l.length * bnd e := by
        intro l
        induction l with
        | nil => intro _; simp [sizes]
        | cons c l ih =>
          intro h
          have h1 := ih fun d hd => h d (by simp [hd])
          have h2 := h c (by simp)
          simp only [sizes, List.length_cons]
          rw [Nat.succ_mul]
          omega
      have h1 := key qs fun c hc => (hall c hc).2.2.1
      have h2 : qs.length * bnd e ≤ 6 * bnd e := Nat.mul_le_mul_right _ (by omega)
      omega
    · intro hc
      obtain ⟨i, c, hi, hcc⟩ := anyB_at (ps := qs) hc
      exact (hall c (List.mem_of_getElem? hi)).2.2.2 hcc
  left
  refine way_keep ?_ (fun _ hB => ?_)
  · refine ifF rfl ?_
    left
    refine eqP_i rfl rfl ?_
    left
    refine ifB (fun _ => ?_) (fun _ => ?_)
    · left
      refine ⟨lek, fun l hl => ?_⟩
      have nl := pool_ne p2 hl
      have nlr : l ≠ r := Ne.symm (ne_none gr2 hl)
      left
      refine ⟨a, 5, rfl, p2.new hl, by decide, by decide, fun j G3 j0 j5 p3 c3 => ?_⟩
      obtain ⟨wd, ew, hwl⟩ : ∃ wd : Str, atI [PV.str "x", .str "yy", .str "left", .str "pick", .str "none"] j = some (.str wd) ∧ wd.length ≤ 100 ∧ asc wd := by
        have : j = 0 ∨ j = 1 ∨ j = 2 ∨ j = 3 ∨ j = 4 := by omega
        rcases this with rfl | rfl | rfl | rfl | rfl <;> exact ⟨_, rfl, by decide, by unfold asc; decide +kernel⟩
      left
      refine ixL_i (lk_lst (c3 l _ (by simpa using nl) up_same)) ew ?_
      left
      refine ⟨a, r, z, e, m - 1, b, by rw [← ed], by omega, p3, c3 r _ (by simpa using Ne.symm har) (by rw [up_ne (Ne.symm nlr)]; exact gr2), har, z1, z6, zs, fun p G4 m4 w4 d4 s4 b4 p4 g4 c4 => ?_⟩
      left
      exact ⟨lek, _, GE.refl, q (.held wd p) G4 m4 ⟨hwl, w4⟩ (by show 1 + depth p ≤ e + 1; omega) (by show 1 + size p ≤ _; rw [hb1]; omega) b4 p4 g4 (((k2.new hl).trans (c3.mono (by simp))).trans c4)⟩
    · left
      refine ⟨lek, fun l hl => ?_⟩
      have nl := pool_ne p2 hl
      have nlr : l ≠ r := Ne.symm (ne_none gr2 hl)
      left
      refine ⟨a, 6, rfl, p2.new hl, by decide, by decide, fun j G3 j0 j6 p3 c3 => ?_⟩
      obtain ⟨nb, en, n0, n1⟩ : ∃ nb : Int, atI [PV.int 0, .int 1, .int 1, .int 2, .int 3, .int 1000] j = some (.int nb) ∧ 0 ≤ nb ∧ nb ≤ 1000 := by
        have : j = 0 ∨ j = 1 ∨ j = 2 ∨ j = 3 ∨ j = 4 ∨ j = 5 := by omega
        rcases this with rfl | rfl | rfl | rfl | rfl | rfl <;> exact ⟨_, rfl, by decide, by decide⟩
      left
      refine ixL_i (lk_lst (c3 l _ (by simpa using nl) up_same)) en ?_
      left
      refine ⟨a, r, z, e, m - 1, b, by rw [← ed], by omega, p3, c3 r _ (by simpa using Ne.symm har) (by rw [up_ne (Ne.symm nlr)]; exact gr2), har, z1, z6, zs, fun p G4 m4 w4 d4 s4 b4 p4 g4 c4 => ?_⟩
      left
      exact ⟨lek, _, GE.refl, q (.price nb p) G4 m4 ⟨n0, n1, w4⟩ (by show 1 + depth p ≤ e + 1; omega) (by show 1 + size p ≤ _; rw [hb1]; omega) b4 p4 g4 (((k2.new hl).trans (c3.mono (by simp))).trans c4)⟩
  · left
    cases b with
    | false => exact hB
    | true =>
      refine ifT rfl ?_
      left
      refine ⟨a, r, z, e, m - 1, false, by rw [← ed], by omega, p2, gr2, har, z1, z6, zs, fun p G4 m4 w4 d4 s4 b4 p4 g4 c4 => ?_⟩
      left
      have hcb : canB p = false := by
        cases hc : canB p with
        | false => rfl
        | true => cases b4 hc
      exact ⟨lek, _, GE.refl, q (.again p) G4 m4 ⟨hcb, w4⟩ (by show 1 + depth p ≤ e + 1; omega) (by show 1 + size p ≤ _; rw [hb1]; omega) (fun _ => rfl) p4 g4 (k2.trans c4)⟩
end
noncomputable abbrev xTurns : Stmt := top 37
noncomputable abbrev xGrown : Stmt := top 38
noncomputable def W (n : Nat) (x : Int) : Int := 40 * (n : Int) * x
theorem W_add (n : Nat) (x y : Int) : W n (x + y) = W n x + W n y := Int.mul_add _ _ _
theorem W_succ (n : Nat) (x : Int) : W (n + 1) x = W n x + 40 * x := by
  unfold W
  rw [show (40 * ((n + 1 : Nat) : Int)) = 40 * (n : Int) + 40 by omega, Int.add_mul]
theorem W_nonneg {n : Nat} {x : Int} (h : 0 ≤ x) : 0 ≤ W n x := Int.mul_nonneg (by omega) h
theorem W_zero (n : Nat) : W n 0 = 0 := Int.mul_zero _
theorem W_mono {n : Nat} {x y : Int} (h : x ≤ y) : W n x ≤ W n y := Int.mul_le_mul_of_nonneg_left h (by omega)
noncomputable def GT (p : Pt) (n : Nat) (l l' : Int) (t : Tr) : Prop := wt t ∧ tdp t ≤ depth p ∧ (tsz t : Int) ≤ size p + W n (l - l') ∧ (canB p = false → l' ≤ l - 1) ∧ Fit p t
noncomputable def mn (l : Int) : Int := if l ≤ 1 then l else 1
theorem mn_le (l : Int) : mn l ≤ l := by unfold mn; split <;> omega
theorem mn_le1 (l : Int) : mn l ≤ 1 := by unfold mn; split <;> omega
theorem mn_pos {l : Int} (h : 0 < l) : mn l = 1 := by unfold mn; split <;> omega
theorem mn_st {l l' s : Int} (hs : 0 ≤ s) (h : mn l - s ≤ l') : mn l - s ≤ mn l' := by
  have := mn_le1 l
  unfold mn at *; split at * <;> split at * <;> omega
noncomputable def Gr (p : Pt) (n : Nat) (r : PV) (l l' : Int) : Prop := l' ≤ l ∧ mn l - size p ≤ l' ∧ (r = .non ∨ ∃ t, r = ent t ∧ GT p n l l' t)
section
variable {P : Program} {w : World} {K : PySem.W.Frag} {mg : Str → Option Value} {base : Heap} {f fn fi ft fa fq fp fl fs : Addr} {fd dn di dt da dq dp dl ds : FuncData}
noncomputable def spGrown (n : Nat) : Sp2 := fun ps G Q => ∃ (p : Pt) (a lf : Addr) (l : Int) (n' : Nat), ps = [enc p, .ref a, .ref lf] ∧ n = n' + 1 ∧ depth p ≤ n ∧ wq p ∧ size p ≤ 40 ∧ Pool G a ∧ G lf = some (.lst [.int l]) ∧ a ≠ lf ∧
  ∀ r l' G', Gr p n' r l l' → Pool G' a → G' lf = some (.lst [.int l']) → Ch [a, lf] G G' → Q r G'
noncomputable def spTurns (n : Nat) : Sp2 := fun ps G Q => ∃ (p : Pt) (a lf : Addr) (l : Int), ps = [enc p, .ref a, .ref lf] ∧ depth p ≤ n ∧ wq p ∧ canB p = false ∧ size p ≤ 40 ∧ Pool G a ∧ G lf = some (.lst [.int l]) ∧ a ≠ lf ∧
  ∀ ts l' G', (∀ t ∈ ts, wt t ∧ tdp t ≤ depth p ∧ Fit p t) → (tszs ts : Int) ≤ W n (l - l') → l' ≤ l → mn l - size p ≤ l' → Pool G' a → G' lf = some (.lst [.int l']) → Ch [a, lf] G G' → Q (ent (.again ts)) G'
theorem scTurns : FnScope ["pattern", "pool", "left", "found", "turn"] ["pattern", "pool", "left"] (defScope xTurns) := ⟨rfl, rfl, rfl, by decide +kernel, rfl, by decide +kernel, by decide +kernel⟩
set_option maxHeartbeats 8000000 in
theorem ok_turns {n k : Nat} (hk : 1 ≤ k) (F : Fun K "_law_turns" "_law_turns" xTurns f fd) (B : BN mg) (CN : Cal2 P w K mg base 1 "_law_next" fn dn ["pool", "base"] spNext) (C : Cal2 P w K mg base k "_law_grown" fp dp ["pattern", "pool", "left"] (spGrown n)) : Ok2 P w K mg base (k + 1) f fd ["pattern", "pool", "left"] (spTurns n) := by
  have nd := scTurns.nd
  refine fn2 F scTurns (fun vs G Q h => ?_) (fun cdv A outer s H E as G Q hr h => ?_)
  · obtain ⟨_, _, _, _, rfl, _⟩ := h
    rfl
  have hU := u200 hr
  apply ex2
  case a => symm
  obtain ⟨p, a, lf, l, rfl, hd, hw, hB, hs, hp, gl, hal, q⟩ := h
  have hdp := depth_pos p
  have m0 := mn_le l
  obtain ⟨n', rfl⟩ : ∃ n', n = n' + 1 := ⟨n - 1, by omega⟩
  left
  refine ⟨lek, fun m hm => ?_⟩
  have nma := pool_ne hp hm
  have nml : m ≠ lf := Ne.symm (ne_none gl hm)
  have fin : ∀ ts l' G2, (∀ t ∈ ts, wt t ∧ tdp t ≤ depth p ∧ Fit p t) → (tszs ts : Int) ≤ W (n' + 1) (l - l') → l' ≤ l → mn l - size p ≤ l' → Pool G2 a → G2 lf = some (.lst [.int l']) → Ch [a, lf] G G2 → ∃ G0, GE G0 G2 ∧ Q (.tup [.str "again", .tup (ents ts)]) G0 :=
    fun ts l' G2 h1 h2 h3 h4 h5 h6 h7 => ⟨_, GE.refl, q ts l' G2 h1 h2 h3 h4 h5 h6 h7⟩
  left
  refine ⟨fun k τ G2 => ∃ (ts : List Tr) (l' : Int) (z : Option PV), τ = [some (enc p), some (.ref a), some (.ref lf), some (.ref m), z] ∧ G2 m = some (.lst (ents ts)) ∧ (∀ t ∈ ts, wt t ∧ tdp t ≤ depth p ∧ Fit p t) ∧ (tszs ts : Int) ≤ W (n' + 1) (l - l') ∧ l' ≤ l ∧ mn l - size p ≤ l' ∧ Pool G2 a ∧ G2 lf = some (.lst [.int l']) ∧ Ch [a, lf] G G2 ∧ k + ts.length = 12,
    ⟨12, [], l, _, rfl, up_same, by simp, ?_, by omega, by omega, hp.new hm, by rw [up_ne (Ne.symm nml)]; exact gl, Ch.refl.new hm, rfl⟩, ?_⟩
  · rw [Int.sub_self, W_zero]; simp [tszs]
  rintro k τ G2 ⟨ts, l', z, rfl, g2, hts, hW, hl1, hl2, p2, gl2, c2, hk12⟩
  left
  have ex : ∀ (ts : List Tr) (l' : Int) (z : Option PV) (G3 : Gp), G3 m = some (.lst (ents ts)) → (∀ t ∈ ts, wt t ∧ tdp t ≤ depth p ∧ Fit p t) → (tszs ts : Int) ≤ W (n' + 1) (l - l') → l' ≤ l → mn l - size p ≤ l' → Pool G3 a → G3 lf = some (.lst [.int l']) → Ch [a, lf] G G3 →
      sRet (eTup (aCons (eC (PV.str (Str.ofString "again"))) (aCons (eCl tuple2 (aCons (eV 3) aNil)) aNil))) { nx := fun x G' => ∃ G0, GE G0 G' ∧ Q PV.non G0, rt := fun p G' => ∃ G0, GE G0 G' ∧ Q p G0 } [some (enc p), some (.ref a), some (.ref lf), some (.ref m), z] G3 := by
    intro ts l' z G3 g3 h1 h2 h3 h4 h5 h6 h7
    left
    refine tupL_i (lk_lst g3) ?_
    left
    exact ⟨lek, fin ts l' G3 h1 h2 h3 h4 h5 h6 h7⟩
  refine ixL_i (lk_lst gl2) atI_zero ?_
  left
  refine ifB (fun h0 => ?_) (fun _ => ifF rfl (ex ts l' z G2 g2 hts hW hl1 hl2 p2 gl2 c2))
  have h0' : 0 < l' := of_decide_eq_true h0
  left
  refine len_i (lk_lst g2) ?_
  left
  refine ifB (fun h12 => ?_) (fun _ => ifF rfl (ex ts l' z G2 g2 hts hW hl1 hl2 p2 gl2 c2))
  have h12' : ts.length < 12 := by
    have : ((ents ts).length : Int) < 12 := of_decide_eq_true h12
    rw [ents_length] at this
    omega
  left
  refine ⟨a, 3, rfl, p2, by decide, by decide, fun nx G3 x0 x3 p3 c3 => ?_⟩
  have g3 := c3 m _ (by simpa using nma) g2
  have gl3 := c3 lf _ (by simpa using Ne.symm hal) gl2
  have k3 : Ch [a, lf] G G3 := c2.trans (c3.mono (by simp))
  left
  refine ifB (fun _ => ?_) (fun _ => ex ts l' z G3 g3 hts hW hl1 hl2 p3 gl3 k3)
  left
  refine ⟨p, a, lf, l', n', rfl, rfl, hd, hw, hs, p3, gl3, hal, fun r l2 G4 hG p4 gl4 c4 => ?_⟩
  obtain ⟨q1, q2, q3⟩ := hG
  have g4 := c4 m _ (by simp [nma, nml]) g3
  have k4 : Ch [a, lf] G G4 := k3.trans c4
  rw [mn_pos h0'] at q2
  have m1 := mn_le1 l
  have hWm : W (n' + 1) (l - l') ≤ W (n' + 1) (l - l2) := W_mono (by omega)
  rcases q3 with rfl | ⟨t, rfl, t1, t2, t3, t4, t5⟩
  · left
    refine ifT rfl ?_
    exact ex ts l2 _ G4 g4 hts (by omega) (by omega) (by omega) p4 gl4 k4
  · have h1 := t4 hB
    obtain ⟨xs, ht⟩ : ∃ xs, ent t = .tup xs := by cases t <;> exact ⟨_, rfl⟩
    rw [ht]
    left
    refine ifF rfl ?_
    left
    refine ⟨⟨_, g4⟩, ?_⟩
    left
    refine append_i g4 (by rw [ents_length]; omega) ?_
    refine ⟨k - 1, by omega, ts ++ [t], l2, _, rfl, by rw [up_same, ents_append, ← ht]; rfl, ?_, ?_, by omega, by omega, p4.ne nma, by rw [up_ne (Ne.symm nml)]; exact gl4, k4.mod' hm, by rw [List.length_append]; simp only [List.length_cons, List.length_nil]; omega⟩
    · intro u hu
      rcases List.mem_append.mp hu with hu | hu
      · exact hts u hu
      · cases List.mem_singleton.mp hu; exact ⟨t1, t2, t5⟩
    · rw [tszs_append]
      simp only [tszs]
      have e1 : W (n' + 1) (l - l2) = W (n' + 1) (l - l') + W (n' + 1) (l' - l2) := by rw [← W_add]; congr 1; omega
      have e2 := W_succ n' (l' - l2)
      omega
theorem any_of : ∀ {ps : List Pt} {c : Pt}, c ∈ ps → canB c = true → anyB ps = true
  | p :: ps, c, h, e => by
    show (canB p || anyB ps) = true
    rcases List.mem_cons.mp h with rfl | h
    · rw [e]; rfl
    · rw [any_of h e, Bool.or_true]
theorem rot_at {ps : List Pt} {f i : Nat} {x : PV} (hf : f ≤ ps.length) (h : (intsP f (ps.length - f) ++ intsP 0 f)[i]? = some x) : ∃ (kk : Nat) (c : Pt), x = .int kk ∧ ps[kk]? = some c ∧ (ps.drop f ++ ps.take f)[i]? = some c := by
  by_cases hi : i < ps.length - f
  · rw [List.getElem?_append_left (by rw [ints_len]; exact hi)] at h
    obtain ⟨_, rfl⟩ := ints_at h
    have hk : f + i < ps.length := by omega
    refine ⟨f + i, ps[f + i], by rw [Int.natCast_add], List.getElem?_eq_getElem hk, ?_⟩
    rw [List.getElem?_append_left (by rw [List.length_drop]; exact hi), List.getElem?_drop, List.getElem?_eq_getElem hk]
  · rw [List.getElem?_append_right (by rw [ints_len]; omega), ints_len] at h
    obtain ⟨h2, rfl⟩ := ints_at h
    have hk : i - (ps.length - f) < ps.length := by omega
    refine ⟨i - (ps.length - f), ps[i - (ps.length - f)], by rw [Int.zero_add], List.getElem?_eq_getElem hk, ?_⟩
    rw [List.getElem?_append_right (by rw [List.length_drop]; omega), List.length_drop, List.getElem?_take, if_pos h2, List.getElem?_eq_getElem hk]
theorem hpure2 : ∀ zs : List PV, (∀ y ∈ zs, pureP 100 y = true) → pureL 100 zs = true
  | [], _ => rfl
  | y :: zs, h => by show (pureP 100 y && pureL 100 zs) = true; rw [h y (by simp), hpure2 zs fun z hz => h z (by simp [hz])]; rfl
theorem scGrown : FnScope ["pattern", "pool", "left", "parts", "first", "k", "part"] ["pattern", "pool", "left"] (defScope xGrown) := ⟨rfl, rfl, rfl, by decide +kernel, rfl, by decide +kernel, by decide +kernel⟩
theorem csGrown : compOkB (defScope xGrown) ["pattern", "pool", "left", "parts", "first", "k", "part"] (cscope [(".0", .local), ("part", .local), ("_law_grown", .globalImplicit), ("pool", .free), ("left", .free)]) ["part", "pool", "left"] [none, some 1, some 2] 0 "part" = true := by decide +kernel
set_option maxHeartbeats 16000000 in
theorem ok_grown {n k : Nat} (hn50 : n ≤ 40) (hk : 1 ≤ k) (F : Fun K "_law_grown" "_law_grown" xGrown f fd) (B : BN mg) (CN : Cal2 P w K mg base 1 "_law_next" fn dn ["pool", "base"] spNext) (C : Cal2 P w K mg base k "_law_grown" fp dp ["pattern", "pool", "left"] (spGrown n)) (CT : Cal2 P w K mg base (k + 1) "_law_turns" ft dt ["pattern", "pool", "left"] (spTurns n)) : Ok2 P w K mg base (k + 2) f fd ["pattern", "pool", "left"] (spGrown (n + 1)) := by
  have nd := scGrown.nd
  refine fn2 F scGrown (fun vs G Q h => ?_) (fun cdv A outer s H E as G Q hr h => ?_)
  · obtain ⟨_, _, _, _, _, rfl, _⟩ := h
    rfl
  have hU := u200 hr
  apply ex2
  case a =>
    symm
    all_goals try (refine' j_comp csGrown rfl ?_ fun _ _ _ _ => ⟨?_, ?_⟩)
    all_goals symm
  obtain ⟨p, a, lf, l, n0, rfl, hn0, hd, hw, hs, hp, gl, hal, q⟩ := h
  obtain rfl : n = n0 := by omega
  have m0 := mn_le l
  have hdi := size_depth_inner p
  have hsi := size_inner p
  cases p with
  | none =>
    refine ⟨rfl, rfl, G, GE.refl, q .non l G ⟨by omega, by show mn l - ((1 : Nat) : Int) ≤ l; omega, .inl rfl⟩ hp gl Ch.refl⟩
  | blank =>
    refine ⟨rfl, rfl, rfl, rfl, lek, G, GE.refl, q (ent .blank) l G ⟨by omega, by show mn l - ((1 : Nat) : Int) ≤ l; omega, .inr ⟨.blank, rfl, ?_, ?_, ?_, (fun h => nomatch h), .blank⟩⟩ hp gl Ch.refl⟩
    · exact wt_of trivial (by intro c hc; cases hc)
    · show 1 ≤ 1; omega
    · rw [Int.sub_self, W_zero]; show ((1 : Nat) : Int) ≤ ((1 : Nat) : Int) + 0; omega
  | sign s =>
    refine ⟨rfl, rfl, rfl, rfl, rfl, rfl, ?_⟩
    left
    refine ifT rfl ?_
    left
    refine ixL_i (lk_lst gl) atI_zero ?_
    left
    refine setL_i (j := 0) gl rfl ?_
    have g1 : up G lf (.lst ([PV.int l].set 0 (.int (l - 1)))) lf = some (.lst [.int (l - 1)]) := up_same
    have p1 := hp.ne (o := .lst ([PV.int l].set 0 (.int (l - 1)))) (Ne.symm hal)
    have k1 : Ch [a, lf] G (up G lf (.lst ([PV.int l].set 0 (.int (l - 1))))) := Ch.refl.put (by simp)
    generalize up G lf (.lst ([PV.int l].set 0 (.int (l - 1)))) = G1 at g1 p1 k1 ⊢
    left
    refine ixT_i (i := 1) (xs := [.str "sign", .str s]) (x := .str s) rfl ?_
    left
    refine ixT_i (i := 1) (xs := [.str "sign", .str s]) (x := .str s) rfl ?_
    left
    have hw' : 1 ≤ s.length ∧ s.length ≤ 6 := ⟨hw.1, hw.2.1⟩
    refine lenS_i (by omega) ?_
    left
    refine ⟨a, s.length, rfl, p1, by omega, by omega, fun j G2 j0 j1 p2 c2 => ?_⟩
    obtain ⟨c, ec, hcm⟩ := atI_of (xs := s.cps.toList) j0 (by rw [Array.length_toList]; exact j1)
    left
    refine ixS_i (by omega) ec ?_
    left
    have hWn : 0 ≤ W n (l - (l - 1)) := W_nonneg (by omega)
    refine ⟨lek, G2, GE.refl, q (ent (.sign ⟨#[c]⟩)) (l - 1) G2 ⟨by omega, by show mn l - ((1 : Nat) : Int) ≤ l - 1; omega, .inr ⟨.sign ⟨#[c]⟩, rfl, wt_of rfl (by intro c hc; cases hc), by show 1 ≤ 1; omega, by show ((1 : Nat) : Int) ≤ ((1 : Nat) : Int) + W n (l - (l - 1)); omega, (fun _ => by omega), .sign hcm⟩⟩ p2 (c2 lf _ (by simpa using Ne.symm hal) g1) (k1.trans (c2.mono (by simp)))⟩
  | again p' =>
    have e1 : depth (Pt.again p') = 1 + depth p' := rfl
    have e2 : size (Pt.again p') = 1 + size p' := rfl
    refine ⟨rfl, rfl, rfl, rfl, rfl, rfl, rfl, rfl, ?_⟩
    left
    refine ifT rfl ?_
    left
    refine ixT_i (i := 1) (xs := [.str "again", enc p']) (x := enc p') rfl ?_
    left
    refine ⟨p', a, lf, l, rfl, by omega, hw.2, hw.1, by omega, hp, gl, hal, fun ts l' G1 h1 h2 h3 h4 p1 g1 c1 => ?_⟩
    refine ⟨_, GE.refl, q (ent (.again ts)) l' G1 ⟨h3, by omega, .inr ⟨.again ts, rfl, wt_of trivial fun c hc => (h1 c hc).1, ?_, ?_, (fun h => nomatch h), .again fun c hc => (h1 c hc).2.2⟩⟩ p1 g1 c1⟩
    · show 1 + tdps ts ≤ depth (Pt.again p')
      have := tdps_le (n := depth p') fun c hc => (h1 c hc).2.1
      omega
    · show ((1 + tszs ts : Nat) : Int) ≤ ((size (Pt.again p') : Nat) : Int) + _
      omega
  | row ps =>
    have e1 : depth (Pt.row ps) = 1 + depths ps := rfl
    have e2 : size (Pt.row ps) = 1 + sizes ps := rfl
    have hli := length_le_sizes ps
    refine ⟨rfl, rfl, rfl, rfl, rfl, rfl, rfl, rfl, rfl, rfl, ?_⟩
    left
    refine ifT rfl ?_
    left
    refine ixT_i (i := 1) (xs := [.str "row", .tup (encs ps)]) (x := .tup (encs ps)) rfl ?_
    left
    intro acc hacc
    have naa := pool_ne hp hacc
    have nal : acc ≠ lf := Ne.symm (ne_none gl hacc)
    refine ⟨fun i ys G2 => ∃ l1 : Int, ys.length = i ∧ l1 ≤ l ∧ mn l - sizes (ps.take i) ≤ l1 ∧ (∀ y ∈ ys, pureP 100 y = true) ∧ (PV.non ∈ ys ∨ ∃ ts, ys = ents ts ∧ (∀ t ∈ ts, wt t ∧ tdp t ≤ depths ps) ∧ (tszs ts : Int) ≤ sizes (ps.take i) + W n (l - l1) ∧ (allB (ps.take i) = false → l1 ≤ l - 1) ∧ FitL (ps.take i) ts) ∧
      Pool G2 a ∧ G2 lf = some (.lst [.int l1]) ∧ G2 acc = some (.lst ys) ∧ Ch [a, lf] G G2, ?_, ?_, ?_, ?_⟩
    · refine ⟨l, rfl, by omega, by rw [List.take_zero]; simp only [sizes]; omega, by simp, .inr ⟨[], rfl, by simp, ?_, (fun h => by rw [List.take_zero] at h; cases h), .nil⟩, hp.new hacc, by rw [up_ne (Ne.symm nal)]; exact gl, up_same, Ch.refl.new hacc⟩
      rw [Int.sub_self, W_zero, List.take_zero]; simp [tszs, sizes]
    · rintro i ys G2 hi ⟨l1, hy, _, _, _, _, _, _, g2, _⟩
      refine ⟨trivial, g2, ?_⟩
      rw [encs_length] at hi
      omega
    · rintro i ys G2 x hx ⟨l1, hy, h1, h2, h3, h4, p2, gl2, g2, c2⟩
      obtain ⟨c, hc, rfl⟩ := encs_at' hx
      have hcm := List.mem_of_getElem? hc
      have d1 := depth_mem hcm
      have d2 := size_mem hcm
      have d3 := depth_pos c
      obtain ⟨n', hn'⟩ : ∃ n', n = n' + 1 := ⟨n - 1, by omega⟩
      have tk : ps.take (i + 1) = ps.take i ++ [c] := by rw [List.take_add_one, hc]; rfl
      have stk : sizes (ps.take (i + 1)) = sizes (ps.take i) + size c := by rw [tk, sizes_append]; show _ + (size c + 0) = _; omega
      refine ifT rfl ?_
      left
      refine ⟨c, a, lf, l1, n', rfl, hn', by omega, wqs_mem.mp hw.2.2 c hcm, by omega, p2, gl2, hal, fun r l2 G3 hG p3 gl3 c3 => ?_⟩
      obtain ⟨q1, q2, q3⟩ := hG
      have m2 := mn_st (Int.natCast_nonneg _) h2
      have g3 := c3 acc _ (by simp [naa, nal]) g2
      refine ⟨g3, l2, by rw [List.length_append, hy]; rfl, by omega, by omega, ?_, ?_, p3.ne naa, by rw [up_ne (Ne.symm nal)]; exact gl3, up_same, (c2.trans c3).mod' hacc⟩
      · intro y hy'
        rcases List.mem_append.mp hy' with hy' | hy'
        · exact h3 y hy'
        · cases List.mem_singleton.mp hy'
          rcases q3 with rfl | ⟨t, rfl, t1, t2, _⟩
          · rfl
          · exact ent_pure t 100 (by omega)
      · rcases q3 with rfl | ⟨t, rfl, t1, t2, t3, t4, t5⟩
        · exact .inl (by simp)
        rcases h4 with h4 | ⟨ts, rfl, u1, u2, u3, u4⟩
        · exact .inl (by simp [h4])
        refine .inr ⟨ts ++ [t], by rw [ents_append]; rfl, ?_, ?_, ?_, by rw [tk]; exact u4.snoc t5⟩
        · intro u hu
          rcases List.mem_append.mp hu with hu | hu
          · exact u1 u hu
          · cases List.mem_singleton.mp hu; exact ⟨t1, by omega⟩
        · rw [tszs_append, stk]
          simp only [tszs]
          have f1 : W n (l - l2) = W n (l - l1) + W n (l1 - l2) := by rw [← W_add]; congr 1; omega
          have f2 : W n (l1 - l2) = W n' (l1 - l2) + 40 * (l1 - l2) := by rw [hn', W_succ]
          omega
        · intro hB
          rw [tk, allB_append, Bool.and_eq_false_iff] at hB
          rcases hB with hB | hB
          · have := u3 hB; omega
          · have hcB : canB c = false := by simpa [allB] using hB
            have := t4 hcB; omega
    · rintro ys G2 ⟨l1, hy, h1, h2, h3, h4, p2, gl2, g2, c2⟩
      rw [encs_length] at hy h2 h4
      rw [List.take_length] at h2 h4
      left
      refine tupL_i (lk_lst g2) ?_
      left
      refine ⟨hpure2 ys h3, ?_⟩
      left
      refine ifB (fun _ => ?_) (fun hN => ?_)
      · exact ⟨_, GE.refl, q .non l1 G2 ⟨h1, by omega, .inl rfl⟩ p2 gl2 c2⟩
      · rcases h4 with h4 | ⟨ts, rfl, u1, u2, u3, u4⟩
        · have : (ys.any fun y => deq y .non) = true := List.any_eq_true.mpr ⟨_, h4, rfl⟩
          rw [this] at hN
          cases hN
        left
        refine ⟨lek, _, GE.refl, q (ent (.row ts)) l1 G2 ⟨h1, by omega, .inr ⟨.row ts, rfl, wt_of trivial fun c hc => (u1 c hc).1, ?_, ?_, (fun h => u3 h), u4.row⟩⟩ p2 gl2 c2⟩
        · show 1 + tdps ts ≤ depth (Pt.row ps)
          have := tdps_le (n := depths ps) fun c hc => (u1 c hc).2
          omega
        · show ((1 + tszs ts : Nat) : Int) ≤ ((size (Pt.row ps) : Nat) : Int) + _
          omega
  | pick ps =>
    have e1 : depth (Pt.pick ps) = 1 + depths ps := rfl
    have e2 : size (Pt.pick ps) = 1 + sizes ps := rfl
    have hli := length_le_sizes ps
    have hl2 : 2 ≤ ps.length := hw.1
    refine ⟨rfl, rfl, rfl, rfl, rfl, rfl, rfl, rfl, rfl, rfl, rfl, rfl, ?_⟩
    left
    refine ifT rfl ?_
    left
    refine ixT_i (i := 1) (xs := [.str "pick", .tup (encs ps)]) (x := .tup (encs ps)) rfl ?_
    left
    refine ⟨a, (encs ps).length, rfl, hp, by rw [encs_length]; omega, by rw [encs_length]; omega, fun fi G1 f0 f1 p1 c1 => ?_⟩
    rw [encs_length] at f1
    have gl1 := c1 lf _ (by simpa using Ne.symm hal) gl
    have k1 : Ch [a, lf] G G1 := c1.mono (by simp)
    left
    refine ixT_i (i := 1) (xs := [.str "pick", .tup (encs ps)]) (x := .tup (encs ps)) rfl ?_
    left
    refine lenT_i ?_
    left
    intro r1 hr1
    have gl2 : up G1 r1 (.rng fi (encs ps).length) lf = some (.lst [.int l]) := by rw [up_ne (ne_none gl1 hr1)]; exact gl1
    have p2 := p1.new (o := .rng fi (encs ps).length) hr1
    have k2 := k1.new (o := .rng fi (encs ps).length) hr1
    have gr1 : up G1 r1 (.rng fi (encs ps).length) r1 = some (.rng fi (encs ps).length) := up_same
    generalize up G1 r1 (.rng fi (encs ps).length) = G2 at gl2 p2 k2 gr1 ⊢
    left
    refine listR_i gr1 ⟨by omega, by omega, by omega, by rw [encs_length]; omega⟩ (by rw [encs_length]; omega) fun r2 hr2 => ?_
    have gl3 : up G2 r2 (.lst (intsP fi (((encs ps).length : Int) - fi).toNat)) lf = some (.lst [.int l]) := by rw [up_ne (ne_none gl2 hr2)]; exact gl2
    have p3 := p2.new (o := .lst (intsP fi (((encs ps).length : Int) - fi).toNat)) hr2
    have k3 := k2.new (o := .lst (intsP fi (((encs ps).length : Int) - fi).toNat)) hr2
    have gr3 : up G2 r2 (.lst (intsP fi (((encs ps).length : Int) - fi).toNat)) r2 = some (.lst (intsP fi (((encs ps).length : Int) - fi).toNat)) := up_same
    generalize up G2 r2 (.lst (intsP fi (((encs ps).length : Int) - fi).toNat)) = G3 at gl3 p3 k3 gr3 ⊢
    left
    intro r3 hr3
    have gl4 : up G3 r3 (.rng 0 fi) lf = some (.lst [.int l]) := by rw [up_ne (ne_none gl3 hr3)]; exact gl3
    have p4 := p3.new (o := .rng 0 fi) hr3
    have k4 := k3.new (o := .rng 0 fi) hr3
    have gr4 : up G3 r3 (.rng 0 fi) r2 = some (.lst (intsP fi (((encs ps).length : Int) - fi).toNat)) := by rw [up_ne (ne_none gr3 hr3)]; exact gr3
    have gr4' : up G3 r3 (.rng 0 fi) r3 = some (.rng 0 fi) := up_same
    generalize up G3 r3 (.rng 0 fi) = G4 at gl4 p4 k4 gr4 gr4' ⊢
    left
    refine listR_i gr4' ⟨by omega, by omega, by omega, by omega⟩ (by omega) fun r4 hr4 => ?_
    have gl5 : up G4 r4 (.lst (intsP 0 (fi - 0).toNat)) lf = some (.lst [.int l]) := by rw [up_ne (ne_none gl4 hr4)]; exact gl4
    have p5 := p4.new (o := .lst (intsP 0 (fi - 0).toNat)) hr4
    have k5 := k4.new (o := .lst (intsP 0 (fi - 0).toNat)) hr4
    have gr5 : up G4 r4 (.lst (intsP 0 (fi - 0).toNat)) r2 = some (.lst (intsP fi (((encs ps).length : Int) - fi).toNat)) := by rw [up_ne (ne_none gr4 hr4)]; exact gr4
    have gr5' : up G4 r4 (.lst (intsP 0 (fi - 0).toNat)) r4 = some (.lst (intsP 0 (fi - 0).toNat)) := up_same
    generalize up G4 r4 (.lst (intsP 0 (fi - 0).toNat)) = G5 at gl5 p5 k5 gr5 gr5' ⊢
    left
    refine addL_i (lk_lst gr5) (lk_lst gr5') (by rw [ints_len, ints_len, encs_length]; omega) fun r5 hr5 => ?_
    have nr5a := pool_ne p5 hr5
    have nr5l : r5 ≠ lf := Ne.symm (ne_none gl5 hr5)
    have hr5G : G r5 = none := by
      cases e : G r5 with
      | none => rfl
      | some o => have := k5 r5 o (by simp [nr5a, nr5l]) e; rw [hr5] at this; cases this
    left
    rw [lk_up]
    left
    refine ⟨fun i τ G2 => ∃ (l1 : Int) (z5 z6 : Option PV), τ = [some (enc (.pick ps)), some (.ref a), some (.ref lf), none, some (.int fi), z5, z6] ∧ G2 r5 = some (.lst (intsP fi (((encs ps).length : Int) - fi).toNat ++ intsP 0 (fi - 0).toNat)) ∧ l1 ≤ l ∧ mn l - sizes ((ps.drop fi.toNat ++ ps.take fi.toNat).take i) ≤ l1 ∧ Pool G2 a ∧ G2 lf = some (.lst [.int l1]) ∧ Ch [a, lf] G G2,
      ⟨l, _, _, rfl, up_same, by omega, by rw [List.take_zero]; simp only [sizes]; omega, p5.new hr5, by rw [up_ne (Ne.symm nr5l)]; exact gl5, k5.new hr5⟩, ?_, ?_, ?_⟩
    · rintro i τ G6 _ ⟨_, _, _, rfl, g6, _⟩
      exact lk_lst g6
    · rintro i x τ G6 hx ⟨l1, z5, z6, rfl, g6, h1, h2, p6, gl6, c6⟩
      rw [show (((encs ps).length : Int) - fi).toNat = ps.length - fi.toNat by rw [encs_length]; omega, show (fi - 0).toNat = fi.toNat by omega, show fi = ((fi.toNat : Nat) : Int) by omega] at hx
      obtain ⟨kk, c, rfl, hkc, hrot⟩ := rot_at (by omega) hx
      have hcm := List.mem_of_getElem? hkc
      have d1 := depth_mem hcm
      have d2 := size_mem hcm
      have d3 := depth_pos c
      obtain ⟨n', hn'⟩ : ∃ n', n = n' + 1 := ⟨n - 1, by omega⟩
      have stk : sizes ((ps.drop fi.toNat ++ ps.take fi.toNat).take (i + 1)) = sizes ((ps.drop fi.toNat ++ ps.take fi.toNat).take i) + size c := by
        rw [List.take_add_one, hrot, sizes_append]; show _ + (size c + 0) = _; omega
      left
      refine ixT_i (i := 1) (xs := [.str "pick", .tup (encs ps)]) (x := .tup (encs ps)) rfl ?_
      left
      refine ixT_i (x := enc c) (atI_nat (by rw [encs_map, List.getElem?_map, hkc]; rfl)) ?_
      left
      refine ⟨c, a, lf, l1, n', rfl, hn', by omega, wqs_mem.mp hw.2.2 c hcm, by omega, p6, gl6, hal, fun r l2 G7 hG p7 gl7 c7 => ?_⟩
      obtain ⟨q1, q2, q3⟩ := hG
      have m2 := mn_st (Int.natCast_nonneg _) h2
      have g7 := c7 r5 _ (by simp [nr5a, nr5l]) g6
      have hle : sizes ((ps.drop fi.toNat ++ ps.take fi.toNat).take (i + 1)) ≤ sizes ps := by
        have e := sizes_append ((ps.drop fi.toNat ++ ps.take fi.toNat).take (i + 1)) ((ps.drop fi.toNat ++ ps.take fi.toNat).drop (i + 1))
        rw [List.take_append_drop, sizes_append] at e
        have e' := sizes_append (ps.take fi.toNat) (ps.drop fi.toNat)
        rw [List.take_append_drop] at e'
        omega
      rcases q3 with rfl | ⟨t, rfl, t1, t2, t3, t4, t5⟩
      · left
        refine ifF rfl ?_
        exact ⟨l2, _, _, rfl, g7, by omega, by omega, p7, gl7, c6.trans c7⟩
      · obtain ⟨xs, ht⟩ : ∃ xs, ent t = .tup xs := by cases t <;> exact ⟨_, rfl⟩
        rw [ht]
        left
        refine ifT rfl ?_
        rw [← ht]
        left
        have f1 : W n (l - l2) = W n (l - l1) + W n (l1 - l2) := by rw [← W_add]; congr 1; omega
        have f2 : W n (l1 - l2) = W n' (l1 - l2) + 40 * (l1 - l2) := by rw [hn', W_succ]
        have f3 : 0 ≤ W n (l - l1) := W_nonneg (by omega)
        refine ⟨lek, _, GE.refl, q (ent (.pick kk t)) l2 G7 ⟨by omega, by omega, .inr ⟨.pick kk t, rfl, wt_of trivial (fun c hc => by cases List.mem_singleton.mp hc; exact t1), ?_, ?_, (fun hB => ?_), .pick hkc t5⟩⟩ p7 gl7 (c6.trans c7)⟩
        · show 1 + tdp t ≤ depth (Pt.pick ps); omega
        · show ((1 + tsz t : Nat) : Int) ≤ ((size (Pt.pick ps) : Nat) : Int) + _; omega
        · have hcB : canB c = false := by
            cases hc : canB c with
            | false => rfl
            | true =>
              have : anyB ps = true := any_of hcm hc
              have hB' : anyB ps = false := hB
              rw [this] at hB'
              cases hB'
          have := t4 hcB
          omega
    · rintro τ G6 ⟨l1, z5, z6, rfl, g6, h1, h2, p6, gl6, c6⟩
      refine ⟨_, GE.refl, q .non l1 G6 ⟨h1, ?_, .inl rfl⟩ p6 gl6 c6⟩
      have hle : sizes ((ps.drop fi.toNat ++ ps.take fi.toNat).take (intsP fi (((encs ps).length : Int) - fi).toNat ++ intsP 0 (fi - 0).toNat).length) ≤ sizes ps := by
        generalize (intsP fi (((encs ps).length : Int) - fi).toNat ++ intsP 0 (fi - 0).toNat).length = i
        have e := sizes_append ((ps.drop fi.toNat ++ ps.take fi.toNat).take i) ((ps.drop fi.toNat ++ ps.take fi.toNat).drop i)
        rw [List.take_append_drop, sizes_append] at e
        have e' := sizes_append (ps.take fi.toNat) (ps.drop fi.toNat)
        rw [List.take_append_drop] at e'
        omega
      omega
  | held m p' =>
    have e1 : depth (Pt.held m p') = 1 + depth p' := rfl
    have e2 : size (Pt.held m p') = 1 + size p' := rfl
    have d3 := depth_pos p'
    obtain ⟨n', hn'⟩ : ∃ n', n = n' + 1 := ⟨n - 1, by omega⟩
    refine ⟨rfl, rfl, rfl, rfl, rfl, rfl, rfl, rfl, rfl, rfl, rfl, rfl, ?_⟩
    left
    refine ifF rfl ?_
    left
    refine ixT_i (i := 2) (xs := [.str "held", .str m, enc p']) (x := enc p') rfl ?_
    left
    refine ⟨p', a, lf, l, n', rfl, hn', by omega, hw.2, by omega, hp, gl, hal, fun r l1 G1 hG p1 g1 c1 => ?_⟩
    obtain ⟨q1, q2, q3⟩ := hG
    rcases q3 with rfl | ⟨t, rfl, t1, t2, t3, t4, t5⟩
    · left
      refine ifT rfl ?_
      exact ⟨_, GE.refl, q .non l1 G1 ⟨q1, by omega, .inl rfl⟩ p1 g1 c1⟩
    · obtain ⟨xs, ht⟩ : ∃ xs, ent t = .tup xs := by cases t <;> exact ⟨_, rfl⟩
      rw [ht]
      left
      refine ifF rfl ?_
      rw [← ht]
      left
      show sl2 (.tup [.str "held", .str m, enc p']) none (some 2) G1 _
      refine ⟨by simp [HT.sIx], ?_⟩
      left
      refine ⟨lek, ?_⟩
      left
      have hWm : W n (l - l1) = W n' (l - l1) + 40 * (l - l1) := by rw [hn', W_succ]
      refine ⟨by simp [cutP, HT.sIx], by simp [cutP, HT.sIx], G1, GE.refl, q (ent (.held m t)) l1 G1 ⟨q1, by omega, .inr ⟨.held m t, rfl, wt_of hw.1.1 (fun c hc => by cases List.mem_singleton.mp hc; exact t1), ?_, ?_, t4, .held t5⟩⟩ p1 g1 c1⟩
      · show 1 + tdp t ≤ depth (Pt.held m p'); omega
      · show ((1 + tsz t : Nat) : Int) ≤ ((size (Pt.held m p') : Nat) : Int) + _; omega
  | price m p' =>
    have e1 : depth (Pt.price m p') = 1 + depth p' := rfl
    have e2 : size (Pt.price m p') = 1 + size p' := rfl
    have d3 := depth_pos p'
    obtain ⟨n', hn'⟩ : ∃ n', n = n' + 1 := ⟨n - 1, by omega⟩
    refine ⟨rfl, rfl, rfl, rfl, rfl, rfl, rfl, rfl, rfl, rfl, rfl, rfl, ?_⟩
    left
    refine ifF rfl ?_
    left
    refine ixT_i (i := 2) (xs := [.str "price", .int m, enc p']) (x := enc p') rfl ?_
    left
    refine ⟨p', a, lf, l, n', rfl, hn', by omega, hw.2.2, by omega, hp, gl, hal, fun r l1 G1 hG p1 g1 c1 => ?_⟩
    obtain ⟨q1, q2, q3⟩ := hG
    rcases q3 with rfl | ⟨t, rfl, t1, t2, t3, t4, t5⟩
    · left
      refine ifT rfl ?_
      exact ⟨_, GE.refl, q .non l1 G1 ⟨q1, by omega, .inl rfl⟩ p1 g1 c1⟩
    · obtain ⟨xs, ht⟩ : ∃ xs, ent t = .tup xs := by cases t <;> exact ⟨_, rfl⟩
      rw [ht]
      left
      refine ifF rfl ?_
      rw [← ht]
      left
      show sl2 (.tup [.str "price", .int m, enc p']) none (some 2) G1 _
      refine ⟨by simp [HT.sIx], ?_⟩
      left
      refine ⟨lek, ?_⟩
      left
      have hWm : W n (l - l1) = W n' (l - l1) + 40 * (l - l1) := by rw [hn', W_succ]
      refine ⟨by simp [cutP, HT.sIx], by simp [cutP, HT.sIx], G1, GE.refl, q (ent (.price m t)) l1 G1 ⟨q1, by omega, .inr ⟨.price m t, rfl, wt_of trivial (fun c hc => by cases List.mem_singleton.mp hc; exact t1), ?_, ?_, t4, .price t5⟩⟩ p1 g1 c1⟩
      · show 1 + tdp t ≤ depth (Pt.price m p'); omega
      · show ((1 + tsz t : Nat) : Int) ≤ ((size (Pt.price m p') : Nat) : Int) + _; omega
theorem scDrawn : FnScope ["pool", "letters", "pattern"] ["pool", "letters"] (defScope xDrawn) := ⟨rfl, rfl, rfl, by decide +kernel, rfl, by decide +kernel, by decide +kernel⟩
noncomputable def spDrawn : Sp2 := fun ps G Q => ∃ (a : Addr) (z : Str), ps = [.ref a, .str z] ∧ Pool G a ∧ 1 ≤ z.length ∧ z.length ≤ 6 ∧ oS z ∧ ∀ p G', wq p → depth p ≤ 5 → size p ≤ 40 → Pool G' a → Ch [a] G G' → Q (enc p) G'
set_option maxHeartbeats 8000000 in
theorem ok_drawn {k : Nat} (hk : 11 ≤ k) (F : Fun K "_law_drawn" "_law_drawn" xDrawn f fd) (B : BN mg) (CN : Cal2 P w K mg base 1 "_law_next" fn dn ["pool", "base"] spNext) (CP : Cal2 P w K mg base k "_law_pattern" fp dp ["pool", "letters", "deep", "room", "blank"] (spPattern 6)) (CI : Cal2 P w K mg base 1 "_law_inside" fi di ["pattern"] spInside) (CS : Cal2 P w K mg base 11 "_law_size" fs ds ["pattern"] (spSize 10)) : Ok2 P w K mg base (k + 1) f fd ["pool", "letters"] spDrawn := by
  have nd := scDrawn.nd
  refine fn2 F scDrawn (fun vs G Q h => ?_) (fun cdv A outer s H E as G Q hr h => ?_)
  · obtain ⟨_, _, rfl, _⟩ := h
    rfl
  have hU := u200 hr
  apply ex2
  case a => symm
  obtain ⟨a, z, rfl, hp, z1, z6, zs, q⟩ := h
  left
  refine ⟨a, 4, rfl, hp, by decide, by decide, fun n1 G1 n10 n14 p1 c1 => ?_⟩
  left
  refine ⟨a, 8, rfl, p1, by decide, by decide, fun n2 G2 n20 n28 p2 c2 => ?_⟩
  left
  refine ⟨lek, fun r hr' => ?_⟩
  have har : a ≠ r := Ne.symm (pool_ne p2 hr')
  left
  refine ⟨a, r, z, (2 + n1).toNat, 6 + n2, true, by rw [Int.toNat_of_nonneg (by omega)], by omega, p2.new hr', up_same, har, z1, z6, zs, fun p G3 m3 w3 d3 s3 _ p3 g3 c3 => ?_⟩
  have hbm : bnd (2 + n1).toNat ≤ 9331 := by
    have : (2 + n1).toNat = 2 ∨ (2 + n1).toNat = 3 ∨ (2 + n1).toNat = 4 ∨ (2 + n1).toNat = 5 := by omega
    rcases this with h | h | h | h <;> rw [h] <;> decide
  have hrn : G r = none := by
    cases e : G r with
    | none => rfl
    | some o => have := (c1.trans c2) r o (by simpa using Ne.symm har) e; rw [hr'] at this; cases this
  have k3 : Ch [a] G G3 := fun b o hb ho => by
    have hbr : b ≠ r := fun e => by subst e; rw [hrn] at ho; cases ho
    exact c3 b o (by simp [show b ≠ a by simpa using hb, hbr]) (by rw [up_ne hbr]; exact (c1.trans c2) b o hb ho)
  left
  refine ⟨fun k τ G2 => ∃ p, τ = [some (.ref a), some (.str z), some (enc p)] ∧ wq p ∧ depth p ≤ 5 ∧ size p ≤ 9331 ∧ Pool G2 a ∧ Ch [a] G G2 ∧ k = size p, ⟨_, p, rfl, w3, by omega, by omega, p3, k3, rfl⟩, ?_⟩
  rintro k τ G4 ⟨p, rfl, w4, d4, s4, p4, c4, rfl⟩
  left
  refine ⟨p, rfl, by omega, by omega, ?_⟩
  left
  refine ifB (fun h40 => ?_) (fun h40 => ?_)
  · have h40' : 40 < size p := by
      have : (40 : Int) < ((size p : Nat) : Int) := of_decide_eq_true h40
      omega
    left
    refine ⟨p, rfl, fun l hl => ?_⟩
    have hsi := size_inner p
    have hdi := size_depth_inner p
    cases hin : inner p with
    | nil => rw [hin] at hsi; simp only [sizes] at hsi; omega
    | cons c cs =>
      have hcm : c ∈ inner p := by rw [hin]; simp
      have d1 := depth_mem hcm
      have d2 := size_mem hcm
      left
      refine ixL_i (xs := enc c :: encs cs) lk_up atI_zero ?_
      exact ⟨size c, by omega, c, rfl, wq_inn w4 hcm, by omega, by omega, p4.new hl, c4.new hl, rfl⟩
  · have h40' : size p ≤ 40 := by
      have : ¬ (40 : Int) < ((size p : Nat) : Int) := of_decide_eq_false h40
      omega
    exact ⟨_, GE.refl, q p G4 w4 d4 h40' p4 c4⟩
end
noncomputable abbrev xInnT : Stmt := top 15
noncomputable abbrev xWithin : Stmt := top 16
noncomputable abbrev xTextOf : Stmt := top 17
@[reducible] noncomputable def sgP : PV → Bool
  | .tup [.str k, _] => k == "sign"
  | _ => false
@[reducible] noncomputable def sg1 : PV → PV
  | .tup [_, y] => y
  | _ => .non
theorem sg_map : ∀ l : List Tr, ((ents l).filter sgP).map sg1 = (l.filterMap sgO).map PV.str
  | [] => rfl
  | c :: l => by
    have ih := sg_map l
    show ((ent c :: ents l).filter sgP).map sg1 = _
    cases c with
    | sign s =>
      rw [List.filter_cons_of_pos (by rfl), List.map_cons, ih]; rfl
    | _ => rw [List.filter_cons_of_neg (by simp only [ent, sgP]; decide), ih]; rfl
section
variable {P : Program} {w : World} {K : PySem.W.Frag} {mg : Str → Option Value} {base : Heap} {f fi ft : Addr} {fd di dt : FuncData}
theorem scInnT : FnScope ["tree", "kind"] ["tree"] (defScope xInnT) := ⟨rfl, rfl, rfl, by decide +kernel, rfl, by decide +kernel, by decide +kernel⟩
noncomputable def spInnT : Sp2 := fun ps G Q => ∃ t, ps = [ent t] ∧ Q (.tup (ents (tinn t))) G
set_option maxHeartbeats 2000000 in
theorem ok_innT (F : Fun K "inner_trees" "inner_trees" xInnT f fd) (B : BN mg) : Ok2 P w K mg base 1 f fd ["tree"] spInnT := by
  have nd := scInnT.nd
  refine fn2 F scInnT (fun vs G Q h => ?_) (fun cdv A outer s H E as G Q hr h => ?_)
  · obtain ⟨p, rfl, _⟩ := h
    rfl
  have hU := u200 hr
  apply ex2
  case a => symm
  obtain ⟨t, rfl, q⟩ := h
  cases t with
  | blank => exact ⟨lek, rfl, rfl, lek, rfl, rfl, lek, G, GE.refl, q⟩
  | sign s => exact ⟨lek, rfl, rfl, lek, rfl, rfl, lek, G, GE.refl, q⟩
  | row ps => exact ⟨lek, rfl, rfl, G, GE.refl, q⟩
  | again ps => exact ⟨lek, rfl, rfl, G, GE.refl, q⟩
  | pick k p => exact ⟨lek, rfl, rfl, lek, rfl, rfl, lek, G, GE.refl, q⟩
  | held n p => exact ⟨lek, rfl, rfl, lek, rfl, rfl, lek, G, GE.refl, q⟩
  | price n p => exact ⟨lek, rfl, rfl, lek, rfl, rfl, lek, G, GE.refl, q⟩
theorem scWithin : FnScope ["tree", "found", "waiting", "inner"] ["tree"] (defScope xWithin) := ⟨rfl, rfl, rfl, by decide +kernel, rfl, by decide +kernel, by decide +kernel⟩
noncomputable def spWithin : Sp2 := fun ps G Q => ∃ t, ps = [ent t] ∧ tsz t ≤ 900000 ∧ ∀ c, G c = none → Q (.ref c) (up G c (.lst (ents (tin t))))
theorem tins_len (ts : List Tr) : (tins ts).length = tszs ts := by
  induction ts with
  | nil => rfl
  | cons a l ih => simp only [tins, List.length_append, tszs]; rw [tin_len _ a (Nat.le_refl _), ih]
set_option maxHeartbeats 2000000 in
theorem ok_within (F : Fun K "trees_within" "trees_within" xWithin f fd) (B : BN mg) (C : Cal2 P w K mg base 1 "inner_trees" fi di ["tree"] spInnT) : Ok2 P w K mg base 2 f fd ["tree"] spWithin := by
  have nd := scWithin.nd
  refine fn2 F scWithin (fun vs G Q h => ?_) (fun cdv A outer s H E as G Q hr h => ?_)
  · obtain ⟨p, rfl, _⟩ := h
    rfl
  have hU := u200 hr
  apply ex2
  case a => symm
  obtain ⟨p, rfl, hz, q⟩ := h
  refine ⟨lek, fun m hm => ⟨lek, fun v hv => ?_⟩⟩
  obtain ⟨hvm, hv⟩ := up_none hv
  refine ⟨fun k τ G' => ∃ (dn st : List Tr) (z : Option PV), τ = [some (ent p), some (.ref m), some (.ref v), z] ∧ G' m = some (.lst (ents dn)) ∧ G' v = some (.lst (ents st.reverse)) ∧ GE G G' ∧ dn ++ tins st = tin p ∧ k = tszs st,
    ⟨_, [], [p], .none, rfl, by rw [up_ne (Ne.symm hvm), up_same]; rfl, by rw [up_same]; rfl, (GE.refl.new hm).mod hv, by simp [tins], rfl⟩, ?_⟩
  rintro k τ G' ⟨dn, st, z, rfl, gm, gv, ge, he, rfl⟩
  have hl : dn.length + tszs st = tsz p := by
    have := congrArg List.length he
    rwa [List.length_append, tins_len, tin_len _ p (Nat.le_refl _)] at this
  refine len_i (lk_lst gv) ?_
  cases st with
  | nil =>
    have hd : dn = tin p := by simpa [tins] using he
    subst hd
    exact ⟨_, ge.at gm, q m hm⟩
  | cons x st =>
    have ln : (ents (x :: st).reverse).length = st.length + 1 := by rw [ents_length, List.length_reverse]; rfl
    have hs : tszs (x :: st) = tsz x + tszs st := rfl
    have hx := tsz_inn x
    have hi := tszs_len (tinn x)
    have hst := tszs_len st
    rw [show ents (x :: st).reverse = ents st.reverse ++ [ent x] by rw [List.reverse_cons, ents_append]; rfl] at gv ln ⊢
    refine ifT ?_ ?_
    · refine decide_eq_true ?_
      rw [ln]; omega
    refine ⟨⟨_, gv⟩, pop_i gv ?_⟩
    refine ⟨⟨ents dn, by rw [up_ne (Ne.symm hvm)]; exact gm⟩, append_i (by rw [up_ne (Ne.symm hvm)]; exact gm) (by rw [ents_length]; omega) ?_⟩
    refine ⟨⟨_, by rw [up_ne hvm, up_same]⟩, x, rfl, extT_i (by rw [up_ne hvm, up_same]) ?_ ?_⟩
    · rw [List.length_reverse, ents_length, ents_length, List.length_reverse]; omega
    refine ⟨tszs (tinn x ++ st), ?_, dn ++ [x], tinn x ++ st, _, rfl, ?_, ?_, ((ge.mod hv).mod hm).mod hv, ?_, rfl⟩
    · rw [tszs_append]; omega
    · rw [up_ne (Ne.symm hvm), up_same, ents_append]; rfl
    · rw [up_same, List.reverse_append, ents_append, ents_reverse (tinn x)]
    · rw [tins_append]
      rw [← he]
      simp [tins, tin_inn x]
theorem scTextOf : FnScope ["tree"] ["tree"] (defScope xTextOf) := ⟨rfl, rfl, rfl, by decide +kernel, rfl, by decide +kernel, by decide +kernel⟩
theorem csTextOf : compOkB (defScope xTextOf) ["tree"] (cscope [(".0", .local), ("inner", .local)]) ["inner"] [none] 0 "inner" = true := by decide +kernel
noncomputable def spTextOf : Sp2 := fun ps G Q => ∃ t, ps = [ent t] ∧ wt t ∧ tsz t ≤ 900000 ∧ Q (.str (tx t)) G
theorem sg_sum {l : List Tr} (h : ∀ c ∈ l, wt1 c) : ((l.filterMap sgO).map (·.length)).sum ≤ l.length := by
  have := tcsL_le h
  unfold tcsL at this
  rw [List.length_flatten, List.map_map] at this
  refine Nat.le_trans (Nat.le_of_eq ?_) this
  congr 1
set_option maxHeartbeats 2000000 in
theorem ok_textOf (F : Fun K "text_of" "text_of" xTextOf f fd) (B : BN mg) (C : Cal2 P w K mg base 2 "trees_within" fi di ["tree"] spWithin) : Ok2 P w K mg base 3 f fd ["tree"] spTextOf := by
  have nd := scTextOf.nd
  refine fn2 F scTextOf (fun vs G Q h => ?_) (fun cdv A outer s H E as G Q hr h => ?_)
  · obtain ⟨p, rfl, _⟩ := h
    rfl
  have hU := u200 hr
  apply ex2
  case a =>
    symm
    all_goals try (refine' j_comp csTextOf rfl ?_ fun _ _ _ _ => ⟨?_, ?_⟩)
    all_goals symm
  obtain ⟨t, rfl, hw, hz, q⟩ := h
  left
  refine ⟨t, rfl, hz, fun l hl => ?_⟩
  left
  rw [lk_up]
  left
  intro acc hacc
  have nla := ne_none (G := up G l (.lst (ents (tin t)))) up_same hacc
  have hln := tin_len _ t (Nat.le_refl _)
  refine cGo_pure sgP sg1 (by rw [ents_length]; omega) (fun ys => lk_lst (by rw [up_ne nla, up_same])) (fun x ys R hx r => ?_) (fun x ys R hx hs r => ?_) ?_
  · rw [ents_map] at hx
    obtain ⟨c, _, rfl⟩ := List.mem_map.mp hx
    cases c <;> exact ⟨rfl, rfl, r⟩
  · rw [ents_map] at hx
    obtain ⟨c, _, rfl⟩ := List.mem_map.mp hx
    cases c with
    | sign s => exact r
    | _ => exact absurd hs (by simp only [ent, sgP]; decide)
  left
  refine joinL_i (zs := (tin t).filterMap sgO) (lk_lst (by rw [up_same, sg_map])) ?_ ?_
  · have := sg_sum hw
    have e : (Str.ofString "").length = 0 := rfl
    rw [e, Nat.mul_zero]
    omega
  rw [join_str]
  exact ⟨G, (GE.refl.new hl).new hacc, q⟩
end
noncomputable abbrev xMT : Stmt := top 21
noncomputable abbrev xMarks : Stmt := top 22
@[reducible] noncomputable def encI : Int ⊕ Tr → PV
  | .inl i => .int i
  | .inr t => ent t
noncomputable def turnsI : List Tr → List (Int ⊕ Tr)
  | [] => []
  | t :: ts => .inl 0 :: .inr t :: turnsI ts
theorem turnsI_len : ∀ ts : List Tr, (turnsI ts).length = 2 * ts.length
  | [] => rfl
  | t :: ts => by show (turnsI ts).length + 1 + 1 = _; rw [turnsI_len ts, List.length_cons]; omega
theorem turnsI_app : ∀ ts us : List Tr, turnsI (ts ++ us) = turnsI ts ++ turnsI us
  | [], us => rfl
  | t :: ts, us => by show .inl 0 :: .inr t :: turnsI (ts ++ us) = _; rw [turnsI_app ts us]; rfl
noncomputable def mtI : Tr → List (Int ⊕ Tr)
  | .pick k t => [.inl k, .inr t]
  | .again ts => turnsI ts ++ [.inl 1]
  | t => (tinn t).map .inr
section
variable {P : Program} {w : World} {K : PySem.W.Frag} {mg : Str → Option Value} {base : Heap} {f fi ft : Addr} {fd di dt : FuncData}
theorem scMT : FnScope ["tree", "row", "turn"] ["tree"] (defScope xMT) := ⟨rfl, rfl, rfl, by decide +kernel, rfl, by decide +kernel, by decide +kernel⟩
noncomputable def spMT : Sp2 := fun ps G Q => ∃ t, ps = [ent t] ∧ tsz t ≤ 400000 ∧ ∀ c, G c = none → Q (.ref c) (up G c (.lst ((mtI t).map encI)))
set_option maxHeartbeats 4000000 in
theorem ok_mt {t0 t1 : Tok} (h0 : mg "TURN" = some (.int 0 t0)) (h1 : mg "STOP" = some (.int 1 t1)) (F : Fun K "marks_and_trees" "marks_and_trees" xMT f fd) (B : BN mg) (C : Cal2 P w K mg base 1 "inner_trees" fi di ["tree"] spInnT) : Ok2 P w K mg base 2 f fd ["tree"] spMT := by
  have nd := scMT.nd
  refine fn2 F scMT (fun vs G Q h => ?_) (fun cdv A outer s H E as G Q hr h => ?_)
  · obtain ⟨_, rfl, _⟩ := h
    rfl
  have hU := u200 hr
  apply ex2
  case a => symm
  obtain ⟨t, rfl, hz, q⟩ := h
  cases t with
  | pick k t =>
    refine ⟨rfl, rfl, ?_⟩
    refine ifT rfl ?_
    left
    exact ⟨lek, fun c hc => ⟨_, GE.refl, q c hc⟩⟩
  | blank =>
    refine ⟨rfl, rfl, ?_⟩
    refine ifF rfl ?_
    left
    refine ⟨rfl, rfl, ?_⟩
    refine ifT rfl ?_
    left
    refine ⟨_, rfl, ?_⟩
    left
    intro c hc
    have := q c hc
    rw [show (mtI (.blank)).map encI = ents (tinn (.blank)) by rw [ents_map]; simp [mtI, tinn, encI]; try rfl] at this
    exact ⟨_, GE.refl, this⟩
  | sign z =>
    refine ⟨rfl, rfl, ?_⟩
    refine ifF rfl ?_
    left
    refine ⟨rfl, rfl, ?_⟩
    refine ifT rfl ?_
    left
    refine ⟨_, rfl, ?_⟩
    left
    intro c hc
    have := q c hc
    rw [show (mtI (.sign z)).map encI = ents (tinn (.sign z)) by rw [ents_map]; simp [mtI, tinn, encI]; try rfl] at this
    exact ⟨_, GE.refl, this⟩
  | row ts =>
    refine ⟨rfl, rfl, ?_⟩
    refine ifF rfl ?_
    left
    refine ⟨rfl, rfl, ?_⟩
    refine ifT rfl ?_
    left
    refine ⟨_, rfl, ?_⟩
    left
    intro c hc
    have := q c hc
    rw [show (mtI (.row ts)).map encI = ents (tinn (.row ts)) by rw [ents_map]; simp [mtI, tinn, encI]; try rfl] at this
    exact ⟨_, GE.refl, this⟩
  | held m t =>
    refine ⟨rfl, rfl, ?_⟩
    refine ifF rfl ?_
    left
    refine ⟨rfl, rfl, ?_⟩
    refine ifT rfl ?_
    left
    refine ⟨_, rfl, ?_⟩
    left
    intro c hc
    have := q c hc
    rw [show (mtI (.held m t)).map encI = ents (tinn (.held m t)) by rw [ents_map]; simp [mtI, tinn, encI]; try rfl] at this
    exact ⟨_, GE.refl, this⟩
  | price m t =>
    refine ⟨rfl, rfl, ?_⟩
    refine ifF rfl ?_
    left
    refine ⟨rfl, rfl, ?_⟩
    refine ifT rfl ?_
    left
    refine ⟨_, rfl, ?_⟩
    left
    intro c hc
    have := q c hc
    rw [show (mtI (.price m t)).map encI = ents (tinn (.price m t)) by rw [ents_map]; simp [mtI, tinn, encI]; try rfl] at this
    exact ⟨_, GE.refl, this⟩
  | again ts =>
    refine ⟨rfl, rfl, ?_⟩
    refine ifF rfl ?_
    left
    refine ⟨rfl, rfl, ?_⟩
    refine ifF rfl ?_
    left
    refine ⟨lek, fun r hr => ?_⟩
    left
    have hts : ts.length ≤ 400000 := by
      have h1 := tsz_inn (.again ts)
      have h2 := tszs_len ts
      have h3 : tinn (.again ts) = ts := rfl
      rw [h3] at h1
      omega
    refine ⟨fun i τ G1 => ∃ t2 : Option PV, τ = [some (ent (.again ts)), some (.ref r), t2] ∧ GE G G1 ∧ G1 r = some (.lst ((turnsI (ts.take i)).map encI)), ⟨_, rfl, GE.refl.new hr, by rw [up_same]; rfl⟩, fun _ _ _ _ _ => trivial, ?_, ?_⟩
    · rintro i x τ G1 hx ⟨t2, rfl, ge, gr⟩
      obtain ⟨c, hc, rfl⟩ := ents_at hx
      have tk : ts.take (i + 1) = ts.take i ++ [c] := by rw [List.take_add_one, hc]; rfl
      have hi : i < ts.length := (List.getElem?_eq_some_iff.mp hc).1
      left
      refine ⟨⟨_, gr⟩, ?_⟩
      left
      refine ⟨lek, fun l hl => ?_⟩
      left
      refine extL_i (by rw [up_ne (ne_none gr hl)]; exact gr) up_same ?_ ?_
      · rw [List.length_map, turnsI_len, List.length_take]
        show _ + 2 ≤ _
        omega
      left
      refine ⟨_, rfl, (ge.new hl).mod hr, ?_⟩
      rw [up_same, tk, turnsI_app, List.map_append]
      rfl
    · rintro τ G1 ⟨t2, rfl, ge, gr⟩
      rw [ents_length, List.take_length] at gr
      left
      refine ⟨⟨_, gr⟩, ?_⟩
      left
      refine append_i gr (by rw [List.length_map, turnsI_len]; omega) ?_
      left
      refine ⟨_, (ge.mod hr).at up_same, ?_⟩
      have := q r hr
      rw [show (mtI (.again ts)).map encI = (turnsI ts).map encI ++ [.int 1] by show (turnsI ts ++ [Sum.inl 1]).map encI = _; rw [List.map_append]; rfl] at this
      exact this
end
mutual
noncomputable def mks : Tr → List Int
  | .pick k t => k :: mks t
  | .again ts => mksT ts
  | .row ts => mkss ts
  | .held _ t => mks t
  | .price _ t => mks t
  | _ => []
noncomputable def mkss : List Tr → List Int
  | [] => []
  | t :: ts => mks t ++ mkss ts
noncomputable def mksT : List Tr → List Int
  | [] => [1]
  | t :: ts => 0 :: (mks t ++ mksT ts)
end
mutual
noncomputable def wT : Tr → Nat
  | .pick _ t => 2 + wT t
  | .again ts => 2 + wTT ts
  | .row ts => 1 + wTs ts
  | .held _ t => 1 + wT t
  | .price _ t => 1 + wT t
  | _ => 1
noncomputable def wTs : List Tr → Nat
  | [] => 0
  | t :: ts => wT t + wTs ts
noncomputable def wTT : List Tr → Nat
  | [] => 0
  | t :: ts => 1 + wT t + wTT ts
end
mutual
theorem wT_le : ∀ t : Tr, wT t + 1 ≤ 3 * tsz t
  | .pick _ t => by have := wT_le t; simp only [wT, tsz]; omega
  | .again ts => by have := wTT_le ts; simp only [wT, tsz]; omega
  | .row ts => by have := wTs_le ts; simp only [wT, tsz]; omega
  | .held _ t => by have := wT_le t; simp only [wT, tsz]; omega
  | .price _ t => by have := wT_le t; simp only [wT, tsz]; omega
  | .blank => by simp [wT, tsz]
  | .sign _ => by simp [wT, tsz]
theorem wTs_le : ∀ ts : List Tr, wTs ts ≤ 3 * tszs ts
  | [] => by simp [wTs]
  | t :: ts => by have := wT_le t; have := wTs_le ts; simp only [wTs, tszs]; omega
theorem wTT_le : ∀ ts : List Tr, wTT ts ≤ 3 * tszs ts
  | [] => by simp [wTT]
  | t :: ts => by have := wT_le t; have := wTT_le ts; simp only [wTT, tszs]; omega
end
noncomputable def wI : Int ⊕ Tr → Nat
  | .inl _ => 1
  | .inr t => wT t
noncomputable def wIs : List (Int ⊕ Tr) → Nat
  | [] => 0
  | x :: l => wI x + wIs l
theorem wIs_app : ∀ a b : List (Int ⊕ Tr), wIs (a ++ b) = wIs a + wIs b
  | [], b => by simp [wIs]
  | x :: a, b => by simp only [List.cons_append, wIs, wIs_app a b]; omega
noncomputable def itm : Int ⊕ Tr → List Int
  | .inl i => [i]
  | .inr t => mks t
noncomputable def itms : List (Int ⊕ Tr) → List Int
  | [] => []
  | x :: l => itm x ++ itms l
theorem itms_app : ∀ a b : List (Int ⊕ Tr), itms (a ++ b) = itms a ++ itms b
  | [], b => rfl
  | x :: a, b => by simp only [List.cons_append, itms, itms_app a b, List.append_assoc]
theorem itms_inr : ∀ ts : List Tr, itms (ts.map .inr) = mkss ts
  | [] => rfl
  | t :: ts => by simp only [List.map_cons, itms, itm, mkss, itms_inr ts]
theorem itms_turns : ∀ ts : List Tr, itms (turnsI ts ++ [.inl 1]) = mksT ts
  | [] => rfl
  | t :: ts => by
    show itms (.inl 0 :: .inr t :: (turnsI ts ++ [.inl 1])) = _
    simp only [itms, itm, mksT, itms_turns ts]
    rfl
theorem itms_mt (t : Tr) : itms (mtI t) = mks t := by
  cases t with
  | pick k t => simp [mtI, itms, itm, mks]
  | again ts => exact itms_turns ts
  | row ts => exact itms_inr ts
  | held n t => simp [mtI, tinn, itms, itm, mks]
  | price n t => simp [mtI, tinn, itms, itm, mks]
  | blank => rfl
  | sign z => rfl
theorem wIs_inr : ∀ ts : List Tr, wIs (ts.map .inr) = wTs ts
  | [] => rfl
  | t :: ts => by simp only [List.map_cons, wIs, wI, wTs, wIs_inr ts]
theorem wIs_turns : ∀ ts : List Tr, wIs (turnsI ts) = wTT ts
  | [] => rfl
  | t :: ts => by
    show wIs (.inl 0 :: .inr t :: turnsI ts) = _
    simp only [wIs, wI, wTT, wIs_turns ts]
    omega
theorem wIs_mt (t : Tr) : wIs (mtI t) + 1 = wT t := by
  cases t with
  | pick k t => simp [mtI, wIs, wI, wT]; omega
  | again ts =>
    show wIs (turnsI ts ++ [.inl 1]) + 1 = 2 + wTT ts
    rw [wIs_app, wIs_turns]
    simp [wIs, wI]
    omega
  | row ts => show wIs (ts.map .inr) + 1 = 1 + wTs ts; rw [wIs_inr]; omega
  | held n t => simp [mtI, tinn, wIs, wI, wT]; omega
  | price n t => simp [mtI, tinn, wIs, wI, wT]; omega
  | blank => rfl
  | sign z => rfl
mutual
theorem tsz_wT : ∀ t : Tr, tsz t ≤ wT t
  | .pick _ t => by have := tsz_wT t; simp only [wT, tsz]; omega
  | .again ts => by have := tszs_wTT ts; simp only [wT, tsz]; omega
  | .row ts => by have := tszs_wTs ts; simp only [wT, tsz]; omega
  | .held _ t => by have := tsz_wT t; simp only [wT, tsz]; omega
  | .price _ t => by have := tsz_wT t; simp only [wT, tsz]; omega
  | .blank => by simp [wT, tsz]
  | .sign _ => by simp [wT, tsz]
theorem tszs_wTs : ∀ ts : List Tr, tszs ts ≤ wTs ts
  | [] => by simp [tszs]
  | t :: ts => by have := tsz_wT t; have := tszs_wTs ts; simp only [wTs, tszs]; omega
theorem tszs_wTT : ∀ ts : List Tr, tszs ts ≤ wTT ts
  | [] => by simp [tszs]
  | t :: ts => by have := tsz_wT t; have := tszs_wTT ts; simp only [wTT, tszs]; omega
end
section
variable {P : Program} {w : World} {K : PySem.W.Frag} {mg : Str → Option Value} {base : Heap} {f fi ft fm : Addr} {fd di dt dm : FuncData}
noncomputable def isInl : Int ⊕ Tr → Bool
  | .inl _ => true
  | .inr _ => false
noncomputable def spWholeI : Sp2 := fun ps G Q => ∃ x : Int ⊕ Tr, ps = [encI x] ∧ Q (.bl (isInl x)) G
set_option maxHeartbeats 2000000 in
theorem ok_wholeI (F : Fun K "is_whole" "is_whole" xWhole f fd) (B : BN mg) : Ok2 P w K mg base 1 f fd ["thing"] spWholeI := by
  have nd := scWhole.nd
  refine fn2 F scWhole (fun vs G Q h => ?_) (fun cdv A outer s H E as G Q hr h => ?_)
  · obtain ⟨p, rfl, _⟩ := h
    rfl
  have hU := u200 hr
  apply ex2
  case a => symm
  obtain ⟨x, rfl, q⟩ := h
  cases x with
  | inl n =>
    left
    refine inst_i rfl (by decide) ?_
    refine ifT rfl ?_
    left
    refine inst_i rfl (by decide) ?_
    left
    exact ⟨G, GE.refl, q⟩
  | inr t =>
    cases t <;> (refine inst_i rfl (by decide) ?_; refine ifF rfl ?_; exact ⟨G, GE.refl, q⟩)
theorem scMarks : FnScope ["tree", "marks", "waiting", "one"] ["tree"] (defScope xMarks) := ⟨rfl, rfl, rfl, by decide +kernel, rfl, by decide +kernel, by decide +kernel⟩
noncomputable def spMarks : Sp2 := fun ps G Q => ∃ t, ps = [ent t] ∧ tsz t ≤ 100000 ∧ Q (.tup ((mks t).map PV.int)) G
set_option maxHeartbeats 4000000 in
theorem ok_marks (F : Fun K "marks_of" "marks_of" xMarks f fd) (B : BN mg) (CW : Cal2 P w K mg base 1 "is_whole" ft dt ["thing"] spWholeI) (C : Cal2 P w K mg base 2 "marks_and_trees" fm dm ["tree"] spMT) : Ok2 P w K mg base 3 f fd ["tree"] spMarks := by
  have nd := scMarks.nd
  refine fn2 F scMarks (fun vs G Q h => ?_) (fun cdv A outer s H E as G Q hr h => ?_)
  · obtain ⟨p, rfl, _⟩ := h
    rfl
  have hU := u200 hr
  apply ex2
  case a => symm
  obtain ⟨t, rfl, hz, q⟩ := h
  have hwt := wT_le t
  refine ⟨lek, fun m hm => ⟨lek, fun v hv => ?_⟩⟩
  obtain ⟨hvm, hv⟩ := up_none hv
  refine ⟨fun k τ G' => ∃ (dn : List Int) (st : List (Int ⊕ Tr)) (z : Option PV), τ = [some (ent t), some (.ref m), some (.ref v), z] ∧ G' m = some (.lst (dn.map PV.int)) ∧ G' v = some (.lst (st.reverse.map encI)) ∧ GE G G' ∧ dn ++ itms st = mks t ∧ dn.length + wIs st ≤ wT t ∧ k = wIs st,
    ⟨_, [], [.inr t], .none, rfl, by rw [up_ne (Ne.symm hvm), up_same]; rfl, by rw [up_same]; rfl, (GE.refl.new hm).mod hv, by simp [itms, itm], by simp [wIs, wI], rfl⟩, ?_⟩
  rintro k τ G' ⟨dn, st, z, rfl, gm, gv, ge, he, hl, rfl⟩
  have hlen : ∀ l : List (Int ⊕ Tr), l.length ≤ wIs l := by
    intro l
    induction l with
    | nil => simp
    | cons x l ih =>
      have : 1 ≤ wI x := by
        cases x with
        | inl i => exact Nat.le_refl _
        | inr t => have := wIs_mt t; show 1 ≤ wT t; omega
      simp only [List.length_cons, wIs]
      omega
  refine len_i (lk_lst gv) ?_
  cases st with
  | nil =>
    have hd : dn = mks t := by simpa [itms] using he
    subst hd
    left
    refine tupL_i (lk_lst gm) ?_
    exact ⟨G, ge, q⟩
  | cons x st =>
    have ln : ((x :: st).reverse.map encI).length = st.length + 1 := by rw [List.length_map, List.length_reverse]; rfl
    have hls := hlen st
    have hw : wIs (x :: st) = wI x + wIs st := rfl
    rw [show (x :: st).reverse.map encI = st.reverse.map encI ++ [encI x] by rw [List.reverse_cons, List.map_append]; rfl] at gv ln ⊢
    refine ifT ?_ ?_
    · refine decide_eq_true ?_
      rw [ln]; omega
    refine ⟨⟨_, gv⟩, pop_i gv ?_⟩
    left
    refine ⟨x, rfl, ?_⟩
    cases x with
    | inl i =>
      refine ifT rfl ?_
      left
      refine ⟨⟨_, by rw [up_ne (Ne.symm hvm)]; exact gm⟩, ?_⟩
      refine append_i (by rw [up_ne (Ne.symm hvm)]; exact gm) (by rw [List.length_map]; omega) ?_
      have h1 : wI (.inl i) = 1 := rfl
      refine ⟨wIs st, by omega, dn ++ [i], st, _, rfl, ?_, ?_, (ge.mod hv).mod hm, ?_, ?_, rfl⟩
      · rw [up_same, List.map_append]; rfl
      · rw [up_ne hvm, up_same]
      · rw [← he]; simp [itms, itm]
      · rw [List.length_append]; show dn.length + 1 + wIs st ≤ wT t; omega
    | inr u =>
      have h1 : wI (.inr u) = wT u := rfl
      have h2 := wIs_mt u
      have h3 := hlen (mtI u)
      refine ifF rfl ?_
      left
      refine ⟨⟨_, by rw [up_same]⟩, ?_⟩
      left
      refine ⟨u, rfl, ?_, fun r hr' => ?_⟩
      · have := tsz_wT u
        omega
      left
      rw [lk_up]
      left
      intro r2 hr2
      have nvr : v ≠ r := fun e => by subst e; rw [up_same] at hr'; cases hr'
      have gv2 : up (up G' v (.lst (st.reverse.map encI))) r (.lst ((mtI u).map encI)) v = some (.lst (st.reverse.map encI)) := by rw [up_ne nvr, up_same]
      have nv2 : v ≠ r2 := ne_none gv2 hr2
      have nmr : m ≠ r := ne_none (show up G' v (.lst (st.reverse.map encI)) m = some (.lst (dn.map PV.int)) by rw [up_ne (Ne.symm hvm)]; exact gm) hr'
      have gm2 : up (up G' v (.lst (st.reverse.map encI))) r (.lst ((mtI u).map encI)) m = some (.lst (dn.map PV.int)) := by rw [up_ne nmr, up_ne (Ne.symm hvm)]; exact gm
      have nm2 : m ≠ r2 := ne_none gm2 hr2
      left
      refine extL_i (xs := st.reverse.map encI) (ys := ((mtI u).map encI).reverse) (by rw [up_ne nv2]; exact gv2) up_same ?_ ?_
      · rw [List.length_map, List.length_reverse, List.length_reverse, List.length_map]; omega
      refine ⟨wIs (mtI u ++ st), by rw [wIs_app]; omega, dn, mtI u ++ st, _, rfl, ?_, ?_, (((ge.mod hv).new hr').new hr2).mod hv, ?_, ?_, rfl⟩
      · rw [up_ne (Ne.symm hvm), up_ne nm2]; exact gm2
      · rw [up_same, List.reverse_append, List.map_append, List.map_reverse (l := mtI u)]
      · rw [itms_app, itms_mt, ← he]; rfl
      · rw [wIs_app]; omega
end
noncomputable abbrev xUsed : Stmt := inClass (top 23) 1
noncomputable def rdg (ms : List Int) (z : Str) (i j : Nat) : List (Str × PV) := [("marks", .tup (ms.map PV.int)), ("signs", .str z), ("marks_used", .int i), ("signs_used", .int j)]
section
variable {P : Program} {w : World} {K : PySem.W.Frag} {mg : Str → Option Value} {base : Heap} {f fi ft fm C : Addr} {fd di dt dm : FuncData}
theorem scUsed : FnScope ["self"] ["self"] (defScope xUsed) := ⟨rfl, rfl, rfl, by decide +kernel, rfl, by decide +kernel, by decide +kernel⟩
noncomputable def spUsed (C : Addr) : Sp2 := fun ps G Q => ∃ (a dx : Addr) (ms : List Int) (z : Str) (i j : Nat), ps = [.ref a] ∧ G a = some (.ins C dx (rdg ms z i j)) ∧ z.length ≤ 1000000 ∧ Q (.bl (decide (i = ms.length) && decide (j = z.length))) G
set_option maxHeartbeats 4000000 in
theorem ok_used (c : Cls K C) (n1 : NoAttr K C "marks") (n2 : NoAttr K C "signs") (n3 : NoAttr K C "marks_used") (n4 : NoAttr K C "signs_used") (F : Fun K "is_used_up" "Reading.is_used_up" xUsed f fd) (B : BN mg) : Ok2 P w K mg base 1 f fd ["self"] (spUsed C) := by
  have nd := scUsed.nd
  refine fn2 F scUsed (fun vs G Q h => ?_) (fun cdv A outer s H E as G Q hr h => ?_)
  · obtain ⟨_, _, _, _, _, _, rfl, _⟩ := h
    rfl
  have hU := u200 hr
  apply ex2
  case a =>
    symm
    all_goals try first
      | refine' j_fld (C := C) c n1 ?_
      | refine' j_fld (C := C) c n2 ?_
      | refine' j_fld (C := C) c n3 ?_
      | refine' j_fld (C := C) c n4 ?_
    all_goals symm
  obtain ⟨a, dx, ms, z, i, j, rfl, ga, hz, q⟩ := h
  left
  refine fld_i ga rfl ?_
  left
  refine fld_i ga rfl ?_
  left
  refine (show ∀ {xs : List PV} {G : Gp} {Q : K2}, Q (.int xs.length) G → len2 [.tup xs] G Q from fun q => q) ?_
  rw [List.length_map]
  left
  refine eqP_i rfl rfl ?_
  have e1 : deq (.int (i : Int)) (.int (ms.length : Nat)) = decide (i = ms.length) := by
    show ((i : Int) == ((ms.length : Nat) : Int)) = _
    rw [Bool.eq_iff_iff]; simp; omega
  have e2 : deq (.int (j : Int)) (.int (z.length : Nat)) = decide (j = z.length) := by
    show ((j : Int) == ((z.length : Nat) : Int)) = _
    rw [Bool.eq_iff_iff]; simp; omega
  rw [e1]
  refine ifB (fun h => ?_) (fun h => ?_)
  · rw [h, Bool.true_and] at q
    left
    refine fld_i ga rfl ?_
    left
    refine fld_i ga rfl ?_
    left
    refine (show ∀ {x : Str} {G : Gp} {Q : K2}, x.length ≤ 1000000 → Q (.int x.length) G → len2 [.str x] G Q from fun h q => ⟨h, q⟩) hz ?_
    left
    refine eqP_i rfl rfl ?_
    rw [e2]
    exact ⟨G, GE.refl, q⟩
  · rw [h, Bool.false_and] at q
    exact ⟨G, GE.refl, q⟩
end
noncomputable abbrev xInit : Stmt := inClass (top 23) 0
noncomputable abbrev xTM : Stmt := inClass (top 23) 2
noncomputable abbrev xTS : Stmt := inClass (top 23) 3
section
variable {P : Program} {w : World} {K : PySem.W.Frag} {mg : Str → Option Value} {base : Heap} {f fi ft fm C D : Addr} {fd di dt dm : FuncData}
theorem len_tup {xs : List PV} {G : Gp} {Q : K2} (q : Q (.int xs.length) G) : len2 [.tup xs] G Q := q
theorem len_str {x : Str} {G : Gp} {Q : K2} (h : x.length ≤ 1000000) (q : Q (.int x.length) G) : len2 [.str x] G Q := ⟨h, q⟩
theorem augF_i {C a dx : Addr} {f : Str} {G : Gp} {Q : Gp → Prop} {fs : List (Str × PV)} {i j : Int} {τ : St2} (h : G a = some (.ins C dx fs)) (e : fs.lookup f = some (.int i)) (hl : fs.length < 1000) (hq : Q (up G a (.ins C dx (putP2 f (.int (i + j)) fs)))) : augF2 C f (.ref a) (eC (.int j)) τ G Q := by
  unfold augF2; simp only [h, e, eC]; exact ⟨trivial, trivial, hl, hq⟩
theorem rdg_m {ms : List Int} {z : Str} {i j : Nat} : putP2 "marks_used" (.int ((i : Int) + 1)) (rdg ms z i j) = rdg ms z (i + 1) j := rfl
theorem rdg_s {ms : List Int} {z : Str} {i j : Nat} : putP2 "signs_used" (.int ((j : Int) + 1)) (rdg ms z i j) = rdg ms z i (j + 1) := rfl
theorem notin1_i {S : Str} {c : Nat} {G : Gp} {Q : K2} (q : Q (.bl (!decide (c ∈ S.cps.toList))) G) : in2 true (.str ⟨#[c]⟩) (.str S) G Q := by
  show Q (.bl (!(!(Builtin.Str.occurrences S ⟨#[c]⟩ 0 S.length 1).isEmpty))) G
  rw [StrLaws.found_one]; exact q
theorem scInit : FnScope ["self", "marks", "text"] ["self", "marks", "text"] (defScope xInit) := ⟨rfl, rfl, rfl, by decide +kernel, rfl, by decide +kernel, by decide +kernel⟩
noncomputable def spInit (C : Addr) : Sp2 := fun ps G Q => ∃ (a dx : Addr) (ms : List Int) (z : Str), ps = [.ref a, .tup (ms.map PV.int), .str z] ∧ G a = some (.ins C dx []) ∧ Q .non (up G a (.ins C dx (rdg ms z 0 0)))
set_option maxHeartbeats 4000000 in
theorem ok_init (c : Cls K C) (n1 : NoAttr K C "marks") (n2 : NoAttr K C "signs") (n3 : NoAttr K C "marks_used") (n4 : NoAttr K C "signs_used") (F : Fun K "__init__" "Reading.__init__" xInit f fd) (B : BN mg) : Ok2 P w K mg base 1 f fd ["self", "marks", "text"] (spInit C) := by
  have nd := scInit.nd
  refine fn2 F scInit (fun vs G Q h => ?_) (fun cdv A outer s H E as G Q hr h => ?_)
  · obtain ⟨_, _, _, _, rfl, _⟩ := h
    rfl
  have hU := u200 hr
  apply ex2
  case a => symm
  obtain ⟨a, dx, ms, z, rfl, ga, q⟩ := h
  left
  refine setF_i ga (Nat.le_of_ble_eq_true rfl) ?_
  left
  refine setF_i up_same (Nat.le_of_ble_eq_true rfl) ?_
  left
  refine setF_i up_same (Nat.le_of_ble_eq_true rfl) ?_
  left
  refine setF_i up_same (Nat.le_of_ble_eq_true rfl) ?_
  left
  rw [up_up, up_up, up_up]
  exact ⟨_, GE.refl, q⟩
theorem scTM : FnScope ["self", "choices", "mark"] ["self", "choices"] (defScope xTM) := ⟨rfl, rfl, rfl, by decide +kernel, rfl, by decide +kernel, by decide +kernel⟩
noncomputable def spTM (C : Addr) : Sp3 := fun ps G Q EX => ∃ (a dx : Addr) (ms : List Int) (z : Str) (i j : Nat) (c : Int), ps = [.ref a, .int c] ∧ G a = some (.ins C dx (rdg ms z i j)) ∧ i ≤ ms.length ∧
  (∀ m, ms[i]? = some m → 0 ≤ m → m < c → Q (.int m) (up G a (.ins C dx (rdg ms z (i + 1) j)))) ∧ (ms[i]? = none → EX G) ∧ ∀ m, ms[i]? = some m → ¬ (0 ≤ m ∧ m < c) → EX G
set_option maxHeartbeats 4000000 in
theorem ok_tm (c : Cls K C) (n1 : NoAttr K C "marks") (n2 : NoAttr K C "signs") (n3 : NoAttr K C "marks_used") (n4 : NoAttr K C "signs_used") (xq : PySem.W.excIn K D bmV "ValueError.__new__" = true) (hD : mg "NoTree" = some (.ref D)) (F : Fun K "take_mark" "Reading.take_mark" xTM f fd) (B : BN mg) : OkX P w K mg base D 1 f fd ["self", "choices"] (spTM C) := by
  have nd := scTM.nd
  refine fnX F scTM (fun vs G Q EX h => ?_) (fun cdv A outer s H E as G Q EX hr h hX => ?_)
  · obtain ⟨_, _, _, _, _, _, _, rfl, _⟩ := h
    rfl
  have hU := u200 hr
  apply ex2
  case a => symm
  obtain ⟨a, dx, ms, z, i, j, ch, rfl, ga, hi, q1, q2, q3⟩ := h
  have e1 : deq (.int (i : Int)) (.int (ms.length : Nat)) = decide (i = ms.length) := by
    show ((i : Int) == ((ms.length : Nat) : Int)) = _
    rw [Bool.eq_iff_iff]; simp; omega
  left
  refine fld_i ga rfl ?_
  left
  refine fld_i ga rfl ?_
  left
  refine len_tup ?_
  rw [List.length_map]
  left
  refine eqP_i rfl rfl ?_
  left
  rw [e1]
  refine ifB (fun h => ?_) (fun h => ?_)
  · left
    have hi' := of_decide_eq_true h
    exact ⟨lek, q2 (by rw [hi']; simp)⟩
  · left
    have hi' := of_decide_eq_false h
    have hlt : i < ms.length := by omega
    refine fld_i ga rfl ?_
    left
    refine fld_i ga rfl ?_
    left
    have hm : ms[i]? = some ms[i] := List.getElem?_eq_getElem hlt
    refine ixT_i (x := .int ms[i]) (atI_nat (by rw [List.getElem?_map, hm]; rfl)) ?_
    left
    refine ifB (fun h0 => ?_) (fun h0 => ?_)
    · left
      refine ifB (fun h1 => ?_) (fun h1 => ?_)
      · left
        refine ⟨lek, q3 _ hm fun hh => ?_⟩
        have := of_decide_eq_false (Bool.not_eq_true' _ ▸ h1)
        exact this hh.2
      · left
        refine augF_i ga rfl (Nat.le_of_ble_eq_true rfl) ?_
        rw [rdg_m]
        left
        refine ⟨_, GE.refl, q1 _ hm (of_decide_eq_true h0) ?_⟩
        have := of_decide_eq_true (Bool.not_eq_false' _ ▸ h1)
        exact this
    · left
      refine ⟨lek, q3 _ hm fun hh => ?_⟩
      exact of_decide_eq_false h0 hh.1
theorem scTS : FnScope ["self", "signs", "sign"] ["self", "signs"] (defScope xTS) := ⟨rfl, rfl, rfl, by decide +kernel, rfl, by decide +kernel, by decide +kernel⟩
noncomputable def spTS (C : Addr) : Sp3 := fun ps G Q EX => ∃ (a dx : Addr) (ms : List Int) (z : Str) (i j : Nat) (S : Str), ps = [.ref a, .str S] ∧ G a = some (.ins C dx (rdg ms z i j)) ∧ j ≤ z.length ∧ z.length ≤ 1000000 ∧
  (∀ c, z.cps.toList[j]? = some c → c ∈ S.cps.toList → Q (.str ⟨#[c]⟩) (up G a (.ins C dx (rdg ms z i (j + 1))))) ∧ (z.cps.toList[j]? = none → EX G) ∧ ∀ c, z.cps.toList[j]? = some c → c ∉ S.cps.toList → EX G
set_option maxHeartbeats 4000000 in
theorem ok_ts (c : Cls K C) (n1 : NoAttr K C "marks") (n2 : NoAttr K C "signs") (n3 : NoAttr K C "marks_used") (n4 : NoAttr K C "signs_used") (xq : PySem.W.excIn K D bmV "ValueError.__new__" = true) (hD : mg "NoTree" = some (.ref D)) (F : Fun K "take_sign" "Reading.take_sign" xTS f fd) (B : BN mg) : OkX P w K mg base D 1 f fd ["self", "signs"] (spTS C) := by
  have nd := scTS.nd
  refine fnX F scTS (fun vs G Q EX h => ?_) (fun cdv A outer s H E as G Q EX hr h hX => ?_)
  · obtain ⟨_, _, _, _, _, _, _, rfl, _⟩ := h
    rfl
  have hU := u200 hr
  apply ex2
  case a => symm
  obtain ⟨a, dx, ms, z, i, j, S, rfl, ga, hj, hz, q1, q2, q3⟩ := h
  have e1 : deq (.int (j : Int)) (.int (z.length : Nat)) = decide (j = z.length) := by
    show ((j : Int) == ((z.length : Nat) : Int)) = _
    rw [Bool.eq_iff_iff]; simp; omega
  have hzl : z.cps.toList.length = z.length := by rw [Array.length_toList]; rfl
  left
  refine fld_i ga rfl ?_
  left
  refine fld_i ga rfl ?_
  left
  refine len_str hz ?_
  left
  refine eqP_i rfl rfl ?_
  left
  rw [e1]
  refine ifB (fun h => ?_) (fun h => ?_)
  · left
    have hi' := of_decide_eq_true h
    exact ⟨lek, q2 (by rw [hi']; rw [← hzl]; simp)⟩
  · left
    have hi' := of_decide_eq_false h
    have hlt : j < z.cps.toList.length := by omega
    refine fld_i ga rfl ?_
    left
    refine fld_i ga rfl ?_
    left
    have hm : z.cps.toList[j]? = some z.cps.toList[j] := List.getElem?_eq_getElem hlt
    refine ixS_i (c := z.cps.toList[j]) hz (atI_nat hm) ?_
    left
    refine notin1_i ?_
    left
    refine ifB (fun h0 => ?_) (fun h0 => ?_)
    · left
      refine ⟨lek, q3 _ hm ?_⟩
      exact of_decide_eq_false (Bool.not_eq_true' _ ▸ h0)
    · left
      refine augF_i ga rfl (Nat.le_of_ble_eq_true rfl) ?_
      rw [rdg_s]
      left
      exact ⟨_, GE.refl, q1 _ hm (of_decide_eq_true (Bool.not_eq_false' _ ▸ h0))⟩
end
mutual
noncomputable def sn : Tr → Nat
  | .sign _ => 1
  | .pick _ t => sn t
  | .again ts => sns ts
  | .row ts => sns ts
  | .held _ t => sn t
  | .price _ t => sn t
  | .blank => 0
noncomputable def sns : List Tr → Nat
  | [] => 0
  | t :: ts => sn t + sns ts
end
mutual
noncomputable def fl : Tr → Pt → List Nat → Option Tr
  | .blank, _, _ => some .blank
  | .sign _, p, cs => match p, cs with
    | .sign S, d :: _ => if d ∈ S.cps.toList then some (.sign ⟨#[d]⟩) else none
    | _, _ => none
  | .row ts, p, cs => match p with
    | .row ps => (fls ts ps cs).map .row
    | _ => none
  | .pick k t, p, cs => match p with
    | .pick ps => match ps[k.toNat]? with
      | some q => (fl t q cs).map (.pick k)
      | none => none
    | _ => none
  | .again ts, p, cs => match p with
    | .again q => (flT ts q cs).map .again
    | _ => none
  | .held n t, p, cs => match p with
    | .held _ q => (fl t q cs).map (.held n)
    | _ => none
  | .price n t, p, cs => match p with
    | .price _ q => (fl t q cs).map (.price n)
    | _ => none
noncomputable def fls : List Tr → List Pt → List Nat → Option (List Tr)
  | [], _, _ => some []
  | t :: ts, ps, cs => match ps with
    | [] => none
    | p :: ps => match fl t p cs with
      | none => none
      | some t' => (fls ts ps (cs.drop (sn t))).map (t' :: ·)
noncomputable def flT : List Tr → Pt → List Nat → Option (List Tr)
  | [], _, _ => some []
  | t :: ts, p, cs => match fl t p cs with
    | none => none
    | some t' => (flT ts p (cs.drop (sn t))).map (t' :: ·)
end
theorem map_some {α β : Type} {f : α → β} {o : Option α} {b : β} (h : o.map f = some b) : ∃ a, o = some a ∧ f a = b := by
  cases o with
  | none => cases h
  | some a => exact ⟨a, rfl, Option.some.inj h⟩
mutual
theorem fl_sn : ∀ (t : Tr) (p : Pt) (cs : List Nat) (t' : Tr), fl t p cs = some t' → sn t ≤ cs.length
  | .blank, _, _, _, _ => Nat.zero_le _
  | .sign _, p, cs, t', h => by
    unfold fl at h
    split at h
    · simp [sn]
    · cases h
  | .row ts, p, cs, t', h => by
    unfold fl at h
    split at h
    · obtain ⟨a, e, _⟩ := map_some h
      simpa [sn] using fls_sn ts _ cs a e
    · cases h
  | .pick k t, p, cs, t', h => by
    unfold fl at h
    split at h
    · split at h
      · obtain ⟨a, e, _⟩ := map_some h
        simpa [sn] using fl_sn t _ cs a e
      · cases h
    · cases h
  | .again ts, p, cs, t', h => by
    unfold fl at h
    split at h
    · obtain ⟨a, e, _⟩ := map_some h
      simpa [sn] using flT_sn ts _ cs a e
    · cases h
  | .held n t, p, cs, t', h => by
    unfold fl at h
    split at h
    · obtain ⟨a, e, _⟩ := map_some h
      simpa [sn] using fl_sn t _ cs a e
    · cases h
  | .price n t, p, cs, t', h => by
    unfold fl at h
    split at h
    · obtain ⟨a, e, _⟩ := map_some h
      simpa [sn] using fl_sn t _ cs a e
    · cases h
theorem fls_sn : ∀ (ts : List Tr) (ps : List Pt) (cs : List Nat) (ts' : List Tr), fls ts ps cs = some ts' → sns ts ≤ cs.length
  | [], _, _, _, _ => Nat.zero_le _
  | t :: ts, ps, cs, ts', h => by
    unfold fls at h
    split at h
    · cases h
    · split at h
      · cases h
      · rename_i t1 e1
        obtain ⟨a, e, _⟩ := map_some h
        have h1 := fl_sn t _ cs _ e1
        have h2 := fls_sn ts _ _ a e
        rw [List.length_drop] at h2
        simp only [sns]; omega
theorem flT_sn : ∀ (ts : List Tr) (p : Pt) (cs : List Nat) (ts' : List Tr), flT ts p cs = some ts' → sns ts ≤ cs.length
  | [], _, _, _, _ => Nat.zero_le _
  | t :: ts, p, cs, ts', h => by
    unfold flT at h
    split at h
    · cases h
    · rename_i t1 e1
      obtain ⟨a, e, _⟩ := map_some h
      have h1 := fl_sn t _ cs _ e1
      have h2 := flT_sn ts _ _ a e
      rw [List.length_drop] at h2
      simp only [sns]; omega
end
mutual
theorem mks_tsz : ∀ t : Tr, (mks t).length + 1 ≤ 2 * tsz t
  | .pick _ t => by have := mks_tsz t; simp only [mks, tsz, List.length_cons]; omega
  | .again ts => by have := mksT_tsz ts; simp only [mks, tsz]; omega
  | .row ts => by have := mkss_tsz ts; simp only [mks, tsz]; omega
  | .held _ t => by have := mks_tsz t; simp only [mks, tsz]; omega
  | .price _ t => by have := mks_tsz t; simp only [mks, tsz]; omega
  | .blank => by simp [mks, tsz]
  | .sign _ => by simp [mks, tsz]
theorem mkss_tsz : ∀ ts : List Tr, (mkss ts).length ≤ 2 * tszs ts
  | [] => by simp [mkss]
  | t :: ts => by have := mks_tsz t; have := mkss_tsz ts; simp only [mkss, tszs, List.length_append]; omega
theorem mksT_tsz : ∀ ts : List Tr, (mksT ts).length ≤ 2 * tszs ts + 1
  | [] => by simp [mksT]
  | t :: ts => by have := mks_tsz t; have := mksT_tsz ts; simp only [mksT, tszs, List.length_append, List.length_cons]; omega
end
theorem fl_own {p : Pt} {t : Tr} (h : Fit p t) : sn t = (tcs t).length ∧ ∀ r, fl t p (tcs t ++ r) = some t := by
  induction h with
  | blank => exact ⟨rfl, fun r => rfl⟩
  | sign hc =>
    rename_i S c
    have e : tcs (.sign ⟨#[c]⟩) = [c] := tcs_sign _
    refine ⟨by rw [e]; rfl, fun r => ?_⟩
    rw [e]
    show (if c ∈ S.cps.toList then some (Tr.sign ⟨#[c]⟩) else none) = _
    rw [if_pos hc]
  | row hl hf ih =>
    rename_i ps ts
    have e : tcs (.row ts) = tcsL (tins ts) := tcs_inn rfl
    have key : ∀ (ts : List Tr) (ps : List Pt), ts.length = ps.length → (∀ (i : Nat) (p : Pt) (t : Tr), ps[i]? = some p → ts[i]? = some t → sn t = (tcs t).length ∧ ∀ r, fl t p (tcs t ++ r) = some t) → sns ts = (tcsL (tins ts)).length ∧ ∀ r, fls ts ps (tcsL (tins ts) ++ r) = some ts := by
      intro ts
      induction ts with
      | nil => intro ps _ _; exact ⟨rfl, fun r => by unfold fls; rfl⟩
      | cons t ts ih2 =>
        intro ps hl2 hh
        cases ps with
        | nil => cases hl2
        | cons p ps =>
          obtain ⟨h1, h2⟩ := hh 0 p t rfl rfl
          obtain ⟨h3, h4⟩ := ih2 ps (by simpa using hl2) fun i q u hq hu => hh (i + 1) q u (by simpa using hq) (by simpa using hu)
          rw [tcs_cons]
          refine ⟨by simp only [sns, List.length_append]; omega, fun r => ?_⟩
          unfold fls
          simp only
          rw [List.append_assoc, h2]
          simp only
          rw [h1, List.drop_left, h4]
          rfl
    obtain ⟨k1, k2⟩ := key ts ps hl ih
    rw [e]
    refine ⟨k1, fun r => ?_⟩
    show (fls ts ps _).map Tr.row = _
    rw [k2]; rfl
  | pick hp hf ih =>
    rename_i ps i q t
    have e : tcs (.pick (i : Int) t) = tcs t := by rw [tcs_inn rfl]; show tcsL (tins [t]) = _; rw [tcs_cons]; simp [tins, tcsL]
    rw [e]
    refine ⟨ih.1, fun r => ?_⟩
    show (match ps[(i : Int).toNat]? with | some q => (fl t q _).map (Tr.pick i) | none => none) = _
    rw [Int.toNat_natCast, hp]
    simp only
    rw [ih.2]; rfl
  | again hf ih =>
    rename_i q ts
    have e : tcs (.again ts) = tcsL (tins ts) := tcs_inn rfl
    have key : ∀ (ts : List Tr), (∀ t ∈ ts, sn t = (tcs t).length ∧ ∀ r, fl t q (tcs t ++ r) = some t) → sns ts = (tcsL (tins ts)).length ∧ ∀ r, flT ts q (tcsL (tins ts) ++ r) = some ts := by
      intro ts
      induction ts with
      | nil => intro _; exact ⟨rfl, fun r => by unfold flT; rfl⟩
      | cons t ts ih2 =>
        intro hh
        obtain ⟨h1, h2⟩ := hh t (by simp)
        obtain ⟨h3, h4⟩ := ih2 fun u hu => hh u (by simp [hu])
        rw [tcs_cons]
        refine ⟨by simp only [sns, List.length_append]; omega, fun r => ?_⟩
        unfold flT
        rw [List.append_assoc, h2]
        simp only
        rw [h1, List.drop_left, h4]
        rfl
    obtain ⟨k1, k2⟩ := key ts ih
    rw [e]
    refine ⟨k1, fun r => ?_⟩
    show (flT ts q _).map Tr.again = _
    rw [k2]; rfl
  | held hf ih =>
    rename_i n q t
    have e : tcs (.held n t) = tcs t := by rw [tcs_inn rfl]; show tcsL (tins [t]) = _; rw [tcs_cons]; simp [tins, tcsL]
    rw [e]
    refine ⟨ih.1, fun r => ?_⟩
    show (fl t q _).map (Tr.held n) = _
    rw [ih.2]; rfl
  | price hf ih =>
    rename_i n q t
    have e : tcs (.price n t) = tcs t := by rw [tcs_inn rfl]; show tcsL (tins [t]) = _; rw [tcs_cons]; simp [tins, tcsL]
    rw [e]
    refine ⟨ih.1, fun r => ?_⟩
    show (fl t q _).map (Tr.price n) = _
    rw [ih.2]; rfl
theorem fl_few {p : Pt} {t : Tr} {cs : List Nat} (h : Fit p t) (hc : cs.length < (tcs t).length) : fl t p cs = none := by
  cases e : fl t p cs with
  | none => rfl
  | some t' =>
    have := fl_sn t p cs t' e
    rw [(fl_own h).1] at this
    omega
theorem fit_row {ps : List Pt} {t : Tr} (h : Fit (.row ps) t) : ∃ ts, t = .row ts ∧ FitL ps ts := by
  cases h with
  | row a b => exact ⟨_, rfl, a, b⟩
theorem fit_pick {ps : List Pt} {t : Tr} (h : Fit (.pick ps) t) : ∃ (i : Nat) (q : Pt) (u : Tr), t = .pick (i : Int) u ∧ ps[i]? = some q ∧ Fit q u := by
  cases h with
  | pick a b => exact ⟨_, _, _, rfl, a, b⟩
theorem fit_again {p : Pt} {t : Tr} (h : Fit (.again p) t) : ∃ ts, t = .again ts ∧ ∀ u ∈ ts, Fit p u := by
  cases h with
  | again a => exact ⟨_, rfl, a⟩
theorem fit_held {n : Str} {p : Pt} {t : Tr} (h : Fit (.held n p) t) : ∃ u, t = .held n u ∧ Fit p u := by
  cases h with
  | held a => exact ⟨_, rfl, a⟩
theorem fit_price {n : Int} {p : Pt} {t : Tr} (h : Fit (.price n p) t) : ∃ u, t = .price n u ∧ Fit p u := by
  cases h with
  | price a => exact ⟨_, rfl, a⟩
theorem fit_sign {S : Str} {t : Tr} (h : Fit (.sign S) t) : ∃ c, t = .sign ⟨#[c]⟩ ∧ c ∈ S.cps.toList := by
  cases h with
  | sign a => exact ⟨_, rfl, a⟩
theorem fit_blank {t : Tr} (h : Fit .blank t) : t = .blank := by
  cases h with
  | blank => rfl
theorem fit_none {t : Tr} (h : Fit .none t) : False := by cases h
noncomputable abbrev xTT : Stmt := inClass (top 23) 5
noncomputable abbrev xTu : Stmt := inClass (top 23) 4
noncomputable abbrev frm (z : Str) (j : Nat) : List Nat := z.cps.toList.drop j
noncomputable def spTT (C : Addr) (n : Nat) : Sp3 := fun ps G Q EX => ∃ (a dx : Addr) (p : Pt) (t : Tr) (ms : List Int) (z : Str) (i j : Nat) (r : List Int), ps = [.ref a, enc p] ∧ depth p ≤ n ∧ wq p ∧ Fit p t ∧ G a = some (.ins C dx (rdg ms z i j)) ∧
  ms.drop i = mks t ++ r ∧ i ≤ ms.length ∧ ms.length ≤ 900000 ∧ j ≤ z.length ∧ z.length ≤ 1000000 ∧
  (∀ t', fl t p (frm z j) = some t' → Q (ent t') (up G a (.ins C dx (rdg ms z (i + (mks t).length) (j + sn t))))) ∧ (fl t p (frm z j) = none → ∀ G', Ch [a] G G' → EX G')
noncomputable def spTu (C : Addr) (n : Nat) : Sp3 := fun ps G Q EX => ∃ (a dx : Addr) (p : Pt) (ts : List Tr) (ms : List Int) (z : Str) (i j : Nat) (r : List Int), ps = [.ref a, enc p] ∧ depth p ≤ n ∧ wq p ∧ (∀ t ∈ ts, Fit p t) ∧ G a = some (.ins C dx (rdg ms z i j)) ∧
  ms.drop i = mksT ts ++ r ∧ i ≤ ms.length ∧ ms.length ≤ 900000 ∧ j ≤ z.length ∧ z.length ≤ 1000000 ∧
  (∀ ts', flT ts p (frm z j) = some ts' → Q (.tup (ents ts')) (up G a (.ins C dx (rdg ms z (i + (mksT ts).length) (j + sns ts))))) ∧ (flT ts p (frm z j) = none → ∀ G', Ch [a] G G' → EX G')
theorem drop_cons {ms r : List Int} {i : Nat} {m : Int} (h : ms.drop i = m :: r) : ms[i]? = some m ∧ ms.drop (i + 1) = r := by
  constructor
  · have := congrArg List.head? h
    rw [List.head?_drop] at this
    exact this
  · have := congrArg List.tail h
    rw [List.tail_drop] at this
    exact this
theorem drop_add {ms a r : List Int} {i : Nat} (h : ms.drop i = a ++ r) : ms.drop (i + a.length) = r := by
  rw [← List.drop_drop, h, List.drop_left]
theorem flen {z : Str} : z.cps.toList.length = z.length := by rw [Array.length_toList]; rfl
theorem drop_le {ms a r : List Int} {i : Nat} (hi : i ≤ ms.length) (h : ms.drop i = a ++ r) : i + a.length ≤ ms.length := by
  have := congrArg List.length h
  rw [List.length_drop, List.length_append] at this
  omega
theorem ch_put {a : Addr} {G G' : Gp} {o : MO} (h : Ch [a] G G') : GE (up G a o) (up G' a o) := fun b u q => by
  by_cases hb : b = a
  · subst hb; rw [up_same] at q ⊢; exact q
  · rw [up_ne hb] at q ⊢; exact h b u (by simpa using hb) q
theorem ch_at {a : Addr} {G G' : Gp} {o : MO} (h : Ch [a] G G') (g : G' a = some o) : GE (up G a o) G' := fun b u q => by
  by_cases hb : b = a
  · subst hb; rw [up_same] at q; cases q; exact g
  · rw [up_ne hb] at q; exact h b u (by simpa using hb) q
theorem frm_add {z : Str} {j k : Nat} : frm z (j + k) = (frm z j).drop k := by rw [List.drop_drop]
section
variable {P : Program} {w : World} {K : PySem.W.Frag} {mg : Str → Option Value} {base : Heap} {f fi ft fm fs C D : Addr} {fd di dt dm ds : FuncData}
theorem scTu : FnScope ["self", "part", "turns"] ["self", "part"] (defScope xTu) := ⟨rfl, rfl, rfl, by decide +kernel, rfl, by decide +kernel, by decide +kernel⟩
set_option maxHeartbeats 4000000 in
theorem ok_tu {n k : Nat} (hk : 1 ≤ k) {t0 : Tok} (h0 : mg "TURN" = some (.int 0 t0)) (F : Fun K "take_turns" "Reading.take_turns" xTu f fd) (B : BN mg) (MM : MetX P w K mg base D C 1 "take_mark" fm dm ["self", "choices"] (spTM C)) (MT : MetX P w K mg base D C k "take_tree" ft dt ["self", "pattern"] (spTT C n)) : OkX P w K mg base D (k + 1) f fd ["self", "part"] (spTu C n) := by
  have nd := scTu.nd
  refine fnX F scTu (fun vs G Q EX h => ?_) (fun cdv A outer s H E as G Q EX hr h hX => ?_)
  · obtain ⟨_, _, _, _, _, _, _, _, _, rfl, _⟩ := h
    rfl
  have hU := u200 hr
  apply ex2
  case a => symm
  obtain ⟨a, dx, p, ts, ms, z, i, j, r, rfl, hd, hw, hf, ga, hm, hi, hms, hj, hz, q1, q2⟩ := h
  left
  refine ⟨lek, fun l hl => ?_⟩
  left
  have nla : a ≠ l := ne_none ga hl
  refine ⟨fun m τ G' => ∃ (dn st : List Tr) (i' j' : Nat), τ = [some (.ref a), some (enc p), some (.ref l)] ∧ G' l = some (.lst (ents dn)) ∧ G' a = some (.ins C dx (rdg ms z i' j')) ∧ Ch [a] G G' ∧ (∀ t ∈ st, Fit p t) ∧ ms.drop i' = mksT st ++ r ∧ i' ≤ ms.length ∧ j' ≤ z.length ∧
      i' + (mksT st).length = i + (mksT ts).length ∧ j' + sns st = j + sns ts ∧ flT ts p (frm z j) = (flT st p (frm z j')).map (dn ++ ·) ∧ dn.length ≤ i' ∧ m = st.length,
    ⟨_, [], ts, i, j, rfl, up_same, by rw [up_ne nla]; exact ga, Ch.refl.new hl, hf, hm, hi, hj, rfl, rfl, by simp, Nat.zero_le _, rfl⟩, ?_⟩
  rintro m τ G' ⟨dn, st, i', j', rfl, gl, ga', ch, hf', hm', hi', hj', e1, e2, e3, hdn, rfl⟩
  left
  refine ⟨⟨a, dx, _, rfl, ga', rfl⟩, ?_⟩
  left
  cases st with
  | nil =>
    obtain ⟨m1, m2⟩ := drop_cons (m := 1) hm'
    refine ⟨a, dx, ms, z, i', j', 2, rfl, ga', hi', fun m hm0 _ _ => ?_, (fun h => by rw [m1] at h; cases h), fun m hm0 h => ?_⟩
    · rw [m1] at hm0; cases hm0
      left
      refine eqP_i rfl rfl ?_
      left
      have gl1 : up G' a (.ins C dx (rdg ms z (i' + 1) j')) l = some (.lst (ents dn)) := by rw [up_ne (Ne.symm nla)]; exact gl
      refine tupL_i (lk_lst gl1) ?_
      have e1' : i' + 1 = i + (mksT ts).length := e1
      have e2' : j' = j + sns ts := e2
      rw [e1', e2']
      refine ⟨_, ch_put ch, q1 dn ?_⟩
      rw [e3]
      show some (dn ++ []) = _
      rw [List.append_nil]
    · rw [m1] at hm0; cases hm0
      exact absurd (by decide) h
  | cons t us =>
    obtain ⟨m1, m2⟩ := drop_cons (m := 0) hm'
    have m2' : ms.drop (i' + 1) = mks t ++ (mksT us ++ r) := m2.trans (List.append_assoc _ _ _)
    have hlt : i' < ms.length := (List.getElem?_eq_some_iff.mp m1).1
    refine ⟨a, dx, ms, z, i', j', 2, rfl, ga', hi', fun m hm0 _ _ => ?_, (fun h => by rw [m1] at h; cases h), fun m hm0 h => ?_⟩
    · rw [m1] at hm0; cases hm0
      left
      refine eqP_i rfl rfl ?_
      left
      have gl1 : up G' a (.ins C dx (rdg ms z (i' + 1) j')) l = some (.lst (ents dn)) := by rw [up_ne (Ne.symm nla)]; exact gl
      refine ⟨⟨_, gl1⟩, ?_⟩
      left
      refine ⟨⟨a, dx, _, rfl, up_same, rfl⟩, ?_⟩
      left
      refine ⟨a, dx, p, t, ms, z, i' + 1, j', mksT us ++ r, rfl, hd, hw, hf' t (by simp), up_same, m2', hlt, hms, hj', hz, fun t' ht' => ?_, fun hn G2 c2 => ?_⟩
      · have hsn := fl_sn t p _ t' ht'
        rw [List.length_drop, flen] at hsn
        have hle := drop_le hlt m2'
        rw [up_up]
        left
        refine append_i (xs := ents dn) (by rw [up_ne (Ne.symm nla)]; exact gl) (by rw [ents_length]; omega) ?_
        left
        refine ⟨us.length, Nat.lt_succ_self _, dn ++ [t'], us, i' + 1 + (mks t).length, j' + sn t, rfl, by rw [up_same, ents_append]; rfl, by rw [up_ne nla, up_same], (ch.put (by simp)).mod' hl, fun u hu => hf' u (by simp [hu]), drop_add m2', by omega, by omega, ?_, ?_, ?_, ?_, rfl⟩
        · have : (mksT (t :: us)).length = 1 + (mks t).length + (mksT us).length := by
            show (0 :: (mks t ++ mksT us)).length = _
            rw [List.length_cons, List.length_append]; omega
          omega
        · have : sns (t :: us) = sn t + sns us := rfl
          omega
        · rw [e3]
          show Option.map _ (match fl t p (frm z j') with | none => none | some t' => (flT us p ((frm z j').drop (sn t))).map (t' :: ·)) = _
          rw [ht', frm_add]
          simp only [Option.map_map]
          congr 1
          funext x
          simp
        · rw [List.length_append, List.length_singleton]; omega
      · refine q2 ?_ G2 ?_
        · rw [e3]
          show Option.map _ (match fl t p (frm z j') with | none => none | some t' => (flT us p ((frm z j').drop (sn t))).map (t' :: ·)) = _
          rw [hn]
          rfl
        · exact (ch.put (by simp)).trans c2
    · rw [m1] at hm0; cases hm0
      exact absurd (by decide) h
end
section
variable {P : Program} {w : World} {K : PySem.W.Frag} {mg : Str → Option Value} {base : Heap} {f fi ft fm fs fu C D : Addr} {fd di dt dm ds du : FuncData}
theorem scTT : FnScope ["self", "pattern", "kind", "mark"] ["self", "pattern"] (defScope xTT) := ⟨rfl, rfl, rfl, by decide +kernel, rfl, by decide +kernel, by decide +kernel⟩
theorem csTT : compOkB (defScope xTT) ["self", "pattern", "kind", "mark"] (cscope [(".0", .local), ("part", .local), ("self", .free)]) ["part", "self"] [none, some 0] 0 "part" = true := by decide +kernel
set_option maxHeartbeats 8000000 in
theorem ok_tt {n k : Nat} (hk : 1 ≤ k) (xq : PySem.W.excIn K D bmV "ValueError.__new__" = true) (hD : mg "NoTree" = some (.ref D)) (F : Fun K "take_tree" "Reading.take_tree" xTT f fd) (B : BN mg) (MM : MetX P w K mg base D C 1 "take_mark" fm dm ["self", "choices"] (spTM C)) (MS : MetX P w K mg base D C 1 "take_sign" fs ds ["self", "signs"] (spTS C)) (MT : MetX P w K mg base D C k "take_tree" ft dt ["self", "pattern"] (spTT C n)) (MU : MetX P w K mg base D C (k + 1) "take_turns" fu du ["self", "part"] (spTu C n)) : OkX P w K mg base D (k + 2) f fd ["self", "pattern"] (spTT C (n + 1)) := by
  have nd := scTT.nd
  refine fnX F scTT (fun vs G Q EX h => ?_) (fun cdv A outer s H E as G Q EX hr h hX => ?_)
  · obtain ⟨_, _, _, _, _, _, _, _, _, rfl, _⟩ := h
    rfl
  have hU := u200 hr
  apply ex2
  case a =>
    symm
    all_goals try (refine' j_compX csTT ?_ fun _ _ _ _ hp => ⟨?_, ?_⟩)
    all_goals symm
  obtain ⟨a, dx, p, t, ms, z, i, j, r, rfl, hd, hw, hf, ga, hm, hi, hms, hj, hz, q1, q2⟩ := h
  have hdi := size_depth_inner p
  cases p with
  | none => exact (fit_none hf).elim
  | blank =>
    obtain rfl := fit_blank hf
    left
    refine ⟨rfl, rfl, ?_⟩
    refine ifF rfl ?_
    left
    refine ⟨rfl, rfl, ?_⟩
    refine ifF rfl ?_
    left
    refine ⟨rfl, rfl, ?_⟩
    refine ifF rfl ?_
    left
    refine ⟨rfl, rfl, ?_⟩
    refine ifF rfl ?_
    left
    refine ⟨rfl, rfl, ?_⟩
    refine ifF rfl ?_
    left
    refine ⟨lek, rfl, rfl, ?_⟩
    refine ifF rfl ?_
    left
    refine ⟨lek, ?_⟩
    refine ⟨G, GE.refl, ?_⟩
    have := q1 .blank rfl
    rw [show up G a (.ins C dx (rdg ms z (i + (mks .blank).length) (j + sn .blank))) = G from up_self ga] at this
    exact this
  | sign S =>
    obtain ⟨c, rfl, hc⟩ := fit_sign hf
    left
    refine ⟨rfl, rfl, ?_⟩
    refine ifF rfl ?_
    left
    refine ⟨rfl, rfl, ?_⟩
    refine ifT rfl ?_
    left
    refine ⟨⟨a, dx, _, rfl, ga, rfl⟩, ?_⟩
    left
    refine ⟨a, dx, ms, z, i, j, S, rfl, ga, hj, hz, fun d hd' hS => ?_, fun hn => ?_, fun d hd' hS => ?_⟩
    · left
      refine ⟨lek, ?_⟩
      refine ⟨_, GE.refl, q1 (.sign ⟨#[d]⟩) ?_⟩
      rw [frm, List.drop_eq_getElem_cons (List.getElem?_eq_some_iff.mp hd').1, (List.getElem?_eq_some_iff.mp hd').2]
      show (if d ∈ S.cps.toList then some (Tr.sign ⟨#[d]⟩) else none) = _
      rw [if_pos hS]
    · refine q2 ?_ G Ch.refl
      rw [frm, List.drop_eq_nil_of_le (List.getElem?_eq_none_iff.mp hn)]
      rfl
    · refine q2 ?_ G Ch.refl
      rw [frm, List.drop_eq_getElem_cons (List.getElem?_eq_some_iff.mp hd').1, (List.getElem?_eq_some_iff.mp hd').2]
      show (if d ∈ S.cps.toList then some (Tr.sign ⟨#[d]⟩) else none) = _
      rw [if_neg hS]
  | row ps =>
    obtain ⟨ts, rfl, hft⟩ := fit_row hf
    have hfl : ∀ cs, fl (.row ts) (.row ps) cs = (fls ts ps cs).map .row := fun cs => rfl
    have hw' : 2 ≤ ps.length ∧ ps.length ≤ 6 ∧ wqs ps := hw
    have hdp : depth (.row ps) = 1 + depths ps := hdi
    have hm0 : ms.drop i = mkss ts ++ r := hm
    left
    refine ⟨rfl, rfl, ?_⟩
    refine ifF rfl ?_
    left
    refine ⟨rfl, rfl, ?_⟩
    refine ifF rfl ?_
    left
    refine ⟨rfl, rfl, ?_⟩
    refine ifT rfl ?_
    left
    intro acc hacc
    have nac : a ≠ acc := ne_none ga hacc
    refine ⟨fun k ys G' => ∃ (dn : List Tr) (i' j' : Nat), ys = ents dn ∧ G' acc = some (.lst ys) ∧ G' a = some (.ins C dx (rdg ms z i' j')) ∧ Ch [a] G G' ∧ ms.drop i' = mkss (ts.drop k) ++ r ∧ i' ≤ ms.length ∧ j' ≤ z.length ∧ i' + (mkss (ts.drop k)).length = i + (mkss ts).length ∧ j' + sns (ts.drop k) = j + sns ts ∧
        fls ts ps (frm z j) = (fls (ts.drop k) (ps.drop k) (frm z j')).map (dn ++ ·) ∧ dn.length = k,
      ⟨[], i, j, rfl, up_same, by rw [up_ne nac]; exact ga, Ch.refl.new hacc, hm0, hi, hj, rfl, rfl, by simp, rfl⟩, ?_, ?_, ?_⟩
    · rintro k ys G' hk' ⟨dn, i', j', rfl, g1, _, _, _, _, _, _, _, _, hl⟩
      rw [encs_length] at hk'
      exact ⟨trivial, g1, by rw [ents_length]; omega⟩
    · rintro k ys G' x hx ⟨dn, i', j', rfl, g1, g2, ch, hm', hi', hj', e1, e2, e3, hl⟩
      obtain ⟨q, hq, rfl⟩ : ∃ q, ps[k]? = some q ∧ x = enc q := by
        rw [encs_map, List.getElem?_map] at hx
        cases e : ps[k]? with
        | none => rw [e] at hx; cases hx
        | some c => rw [e] at hx; exact ⟨c, rfl, (Option.some.inj hx).symm⟩
      have hkp : k < ps.length := (List.getElem?_eq_some_iff.mp hq).1
      have hkt : k < ts.length := by rw [hft.1]; exact hkp
      have htk : ts[k]? = some ts[k] := List.getElem?_eq_getElem hkt
      have dt1 : ts.drop k = ts[k] :: ts.drop (k + 1) := List.drop_eq_getElem_cons hkt
      have dp1 : ps.drop k = q :: ps.drop (k + 1) := by rw [List.drop_eq_getElem_cons hkp, (List.getElem?_eq_some_iff.mp hq).2]
      generalize ts[k] = u at htk dt1
      rw [dt1] at hm' e1 e2 e3
      have m2' : ms.drop i' = mks u ++ (mkss (ts.drop (k + 1)) ++ r) := hm'.trans (List.append_assoc _ _ _)
      rw [dp1] at e3
      left
      refine ⟨⟨a, dx, _, rfl, g2, rfl⟩, ?_⟩
      left
      refine ⟨a, dx, q, u, ms, z, i', j', mkss (ts.drop (k + 1)) ++ r, rfl, ?_, wqs_mem.mp hw'.2.2 q (List.mem_of_getElem? hq), hft.2 k q u hq htk, g2, m2', hi', hms, hj', hz, fun t' ht' => ?_, fun hn G2 c2 => ?_⟩
      · have := depth_part (q := .row ps) hq
        omega
      · have hsn := fl_sn u q _ t' ht'
        rw [List.length_drop, flen] at hsn
        have hle := drop_le hi' m2'
        have g3 : up G' a (.ins C dx (rdg ms z (i' + (mks u).length) (j' + sn u))) acc = some (.lst (ents dn)) := by rw [up_ne (Ne.symm nac)]; exact g1
        refine ⟨g3, dn ++ [t'], i' + (mks u).length, j' + sn u, by rw [ents_append]; rfl, up_same, by rw [up_ne nac, up_same], (ch.put (by simp)).mod' hacc, drop_add m2', by omega, by omega, ?_, ?_, ?_, by rw [List.length_append, hl]; rfl⟩
        · have : (mkss (u :: ts.drop (k + 1))).length = (mks u).length + (mkss (ts.drop (k + 1))).length := by
            show (mks u ++ mkss (ts.drop (k + 1))).length = _
            rw [List.length_append]
          omega
        · have : sns (u :: ts.drop (k + 1)) = sn u + sns (ts.drop (k + 1)) := rfl
          omega
        · rw [e3]
          show Option.map _ (match fl u q (frm z j') with | none => none | some t' => (fls (ts.drop (k + 1)) (ps.drop (k + 1)) ((frm z j').drop (sn u))).map (t' :: ·)) = _
          rw [ht', frm_add]
          simp only [Option.map_map]
          congr 1
          funext x
          simp
      · refine q2 ?_ G2 (ch.trans c2)
        rw [hfl, e3]
        show Option.map _ (Option.map _ (match fl u q (frm z j') with | none => none | some t' => (fls (ts.drop (k + 1)) (ps.drop (k + 1)) ((frm z j').drop (sn u))).map (t' :: ·))) = _
        rw [hn]
        rfl
    · rintro ys G' ⟨dn, i', j', rfl, g1, g2, ch, hm', hi', hj', e1, e2, e3, hl⟩
      rw [encs_length, ← hft.1, List.drop_length] at e1 e2
      rw [encs_length, List.drop_length, ← hft.1, List.drop_length] at e3
      left
      refine tupL_i (lk_lst g1) ?_
      left
      refine ⟨lek, ?_⟩
      have e1' : i' = i + (mkss ts).length := e1
      have e2' : j' = j + sns ts := e2
      subst e1' e2'
      refine ⟨_, ch_at ch g2, q1 (.row dn) ?_⟩
      rw [hfl, e3]
      show some (Tr.row (dn ++ [])) = _
      rw [List.append_nil]
  | pick ps =>
    obtain ⟨b, q, u, rfl, hq, hf⟩ := fit_pick hf
    have hfl : ∀ cs, fl (.pick (b : Int) u) (.pick ps) cs = (fl u q cs).map (.pick (b : Int)) := fun cs => by
      show (match ps[(b : Int).toNat]? with | some q => (fl u q cs).map (Tr.pick b) | none => none) = _
      rw [Int.toNat_natCast, hq]
    have hw' : 2 ≤ ps.length ∧ ps.length ≤ 6 ∧ wqs ps := hw
    have hbp : b < ps.length := (List.getElem?_eq_some_iff.mp hq).1
    obtain ⟨m1, m2⟩ := drop_cons (m := (b : Int)) hm
    have hlt : i < ms.length := (List.getElem?_eq_some_iff.mp m1).1
    left
    refine ⟨rfl, rfl, ?_⟩
    refine ifF rfl ?_
    left
    refine ⟨rfl, rfl, ?_⟩
    refine ifF rfl ?_
    left
    refine ⟨rfl, rfl, ?_⟩
    refine ifF rfl ?_
    left
    refine ⟨rfl, rfl, ?_⟩
    refine ifT rfl ?_
    left
    refine ⟨⟨a, dx, _, rfl, ga, rfl⟩, ?_⟩
    left
    refine ⟨a, dx, ms, z, i, j, ((encs ps).length : Nat), rfl, ga, hi, fun m hm0 _ _ => ?_, (fun h => by rw [m1] at h; cases h), fun m hm0 h => ?_⟩
    · rw [m1] at hm0; cases hm0
      left
      refine ⟨⟨a, dx, _, rfl, up_same, rfl⟩, ?_⟩
      left
      refine ixT_i (x := .tup (encs ps)) rfl ?_
      left
      refine ixT_i (x := enc q) (atI_nat (by rw [encs_map, List.getElem?_map, hq]; rfl)) ?_
      left
      refine ⟨a, dx, q, u, ms, z, i + 1, j, r, rfl, ?_, wqs_mem.mp hw'.2.2 q (List.mem_of_getElem? hq), hf, up_same, m2, hlt, hms, hj, hz, fun t' ht' => ?_, fun hn G' c => q2 (by rw [hfl, hn]; rfl) G' ((Ch.refl.put (by simp)).trans c)⟩
      · have := depth_part (q := .pick ps) hq
        omega
      rw [up_up]
      left
      refine ⟨lek, ?_⟩
      refine ⟨_, GE.refl, ?_⟩
      have := q1 (.pick (b : Int) t') (by rw [hfl, ht']; rfl)
      rw [show i + (mks (.pick (b : Int) u)).length = i + 1 + (mks u).length by show i + ((b : Int) :: mks u).length = _; rw [List.length_cons]; omega] at this
      exact this
    · rw [m1] at hm0; cases hm0
      rw [encs_length] at h
      exact absurd ⟨by omega, by omega⟩ h
  | again p =>
    obtain ⟨ts, rfl, hf1⟩ := fit_again hf
    have hfl : ∀ cs, fl (.again ts) (.again p) cs = (flT ts p cs).map .again := fun cs => rfl
    left
    refine ⟨rfl, rfl, ?_⟩
    refine ifF rfl ?_
    left
    refine ⟨rfl, rfl, ?_⟩
    refine ifF rfl ?_
    left
    refine ⟨rfl, rfl, ?_⟩
    refine ifF rfl ?_
    left
    refine ⟨rfl, rfl, ?_⟩
    refine ifF rfl ?_
    left
    refine ⟨rfl, rfl, ?_⟩
    refine ifT rfl ?_
    left
    refine ⟨⟨a, dx, _, rfl, ga, rfl⟩, ?_⟩
    left
    refine ⟨a, dx, p, ts, ms, z, i, j, r, rfl, by show depth p ≤ n; have : depth (.again p) = 1 + depths [p] := hdi; simp only [depths] at this; omega, wq_inn hw (List.mem_singleton.mpr rfl), hf1, ga, hm, hi, hms, hj, hz, fun t' ht' => ?_, fun hn G' c => q2 (by rw [hfl, hn]; rfl) G' c⟩
    left
    refine ⟨lek, ?_⟩
    exact ⟨_, GE.refl, q1 (.again t') (by rw [hfl, ht']; rfl)⟩
  | held m p =>
    obtain ⟨u, rfl, hf1⟩ := fit_held hf
    have hfl : ∀ cs, fl (.held m u) (.held m p) cs = (fl u p cs).map (.held m) := fun cs => rfl
    left
    refine ⟨rfl, rfl, ?_⟩
    refine ifF rfl ?_
    left
    refine ⟨rfl, rfl, ?_⟩
    refine ifF rfl ?_
    left
    refine ⟨rfl, rfl, ?_⟩
    refine ifF rfl ?_
    left
    refine ⟨rfl, rfl, ?_⟩
    refine ifF rfl ?_
    left
    refine ⟨rfl, rfl, ?_⟩
    refine ifF rfl ?_
    left
    refine ⟨lek, rfl, rfl, ?_⟩
    refine ifT rfl ?_
    left
    refine ⟨⟨a, dx, _, rfl, ga, rfl⟩, ?_⟩
    left
    refine ⟨a, dx, p, u, ms, z, i, j, r, rfl, by show depth p ≤ n; have : depth (.held m p) = 1 + depths [p] := hdi; simp only [depths] at this; omega, wq_inn hw (List.mem_singleton.mpr rfl), hf1, ga, hm, hi, hms, hj, hz, fun t' ht' => ?_, fun hn G' c => q2 (by rw [hfl, hn]; rfl) G' c⟩
    left
    refine ⟨lek, ?_⟩
    exact ⟨_, GE.refl, q1 (.held m t') (by rw [hfl, ht']; rfl)⟩
  | price m p =>
    obtain ⟨u, rfl, hf1⟩ := fit_price hf
    have hfl : ∀ cs, fl (.price m u) (.price m p) cs = (fl u p cs).map (.price m) := fun cs => rfl
    left
    refine ⟨rfl, rfl, ?_⟩
    refine ifF rfl ?_
    left
    refine ⟨rfl, rfl, ?_⟩
    refine ifF rfl ?_
    left
    refine ⟨rfl, rfl, ?_⟩
    refine ifF rfl ?_
    left
    refine ⟨rfl, rfl, ?_⟩
    refine ifF rfl ?_
    left
    refine ⟨rfl, rfl, ?_⟩
    refine ifF rfl ?_
    left
    refine ⟨lek, rfl, rfl, ?_⟩
    refine ifT rfl ?_
    left
    refine ⟨⟨a, dx, _, rfl, ga, rfl⟩, ?_⟩
    left
    refine ⟨a, dx, p, u, ms, z, i, j, r, rfl, by show depth p ≤ n; have : depth (.price m p) = 1 + depths [p] := hdi; simp only [depths] at this; omega, wq_inn hw (List.mem_singleton.mpr rfl), hf1, ga, hm, hi, hms, hj, hz, fun t' ht' => ?_, fun hn G' c => q2 (by rw [hfl, hn]; rfl) G' c⟩
    left
    refine ⟨lek, ?_⟩
    exact ⟨_, GE.refl, q1 (.price m t') (by rw [hfl, ht']; rfl)⟩
end
noncomputable abbrev xTB : Stmt := top 24
noncomputable abbrev xRef : Stmt := top 39
noncomputable def spTB (n : Nat) : Sp3 := fun ps G Q EX => ∃ (p : Pt) (t : Tr) (r : List Int) (z : Str), ps = [enc p, .tup ((mks t ++ r).map PV.int), .str z] ∧ depth p ≤ n ∧ wq p ∧ Fit p t ∧ (mks t ++ r).length ≤ 900000 ∧ z.length ≤ 1000000 ∧
  (∀ t', fl t p z.cps.toList = some t' → r = [] → z.length = sn t → Q (ent t') G) ∧ ((fl t p z.cps.toList = none ∨ r ≠ [] ∨ z.length ≠ sn t) → ∀ G', GE G G' → EX G')
section
variable {P : Program} {w : World} {K : PySem.W.Frag} {mg : Str → Option Value} {base : Heap} {f fi ft fm fs fu C D : Addr} {fd di dt dm ds du : FuncData}
theorem scTB : FnScope ["pattern", "marks", "text", "reading", "tree"] ["pattern", "marks", "text"] (defScope xTB) := ⟨rfl, rfl, rfl, by decide +kernel, rfl, by decide +kernel, by decide +kernel⟩
set_option maxHeartbeats 8000000 in
theorem ok_tb {n k : Nat} (hk : 2 ≤ k) (xq : PySem.W.excIn K D bmV "ValueError.__new__" = true) (hD : mg "NoTree" = some (.ref D)) (F : Fun K "tree_by" "tree_by" xTB f fd) (B : BN mg) (Mk1 : Mk K C fi) (oki : Ok2 P w K mg base 1 fi di ["self", "marks", "text"] (spInit C)) (bi : Binds K di ["self", "marks", "text"] []) (hC : mg "Reading" = some (.ref C))
    (MT : MetX P w K mg base D C k "take_tree" ft dt ["self", "pattern"] (spTT C n)) (MU : Met2 P w K mg base C 1 "is_used_up" fu du ["self"] (spUsed C)) : OkX P w K mg base D (k + 1) f fd ["pattern", "marks", "text"] (spTB n) := by
  have nd := scTB.nd
  refine fnX F scTB (fun vs G Q EX h => ?_) (fun cdv A outer s H E as G Q EX hr h hX => ?_)
  · obtain ⟨_, _, _, _, rfl, _⟩ := h
    rfl
  have hU := u200 hr
  apply ex2
  case a => symm
  obtain ⟨p, t, r, z, rfl, hd, hw, hf, hms, hz, q1, q2⟩ := h
  left
  intro x dx hx hdx ne
  refine ⟨x, dx, mks t ++ r, z, rfl, up_same, rfl, ?_⟩
  rw [up_up]
  left
  refine ⟨⟨x, dx, _, rfl, up_same, rfl⟩, ?_⟩
  left
  refine ⟨x, dx, p, t, mks t ++ r, z, 0, 0, r, rfl, hd, hw, hf, up_same, rfl, Nat.zero_le _, hms, Nat.zero_le _, hz, fun t' ht' => ?_, fun hn G' c => q2 (.inl hn) G' (((GE.refl.new hx).ch.trans c).ge fun b hb => by cases List.mem_singleton.mp hb; exact hx)⟩
  rw [up_up]
  left
  refine ⟨⟨x, dx, _, rfl, up_same, rfl⟩, ?_⟩
  left
  refine ⟨x, dx, mks t ++ r, z, 0 + (mks t).length, 0 + sn t, rfl, up_same, hz, ?_⟩
  have e : (decide (0 + (mks t).length = (mks t ++ r).length) && decide (0 + sn t = z.length)) = decide (r = [] ∧ z.length = sn t) := by
    rw [Bool.eq_iff_iff]
    simp only [Bool.and_eq_true, decide_eq_true_eq, List.length_append, Nat.zero_add]
    constructor
    · rintro ⟨h1, h2⟩
      exact ⟨List.eq_nil_of_length_eq_zero (by omega), h2.symm⟩
    · rintro ⟨h1, h2⟩
      subst h1
      exact ⟨rfl, h2.symm⟩
  rw [e]
  left
  refine ifB (fun h => ?_) (fun h => ?_)
  · have h' := of_decide_eq_false (Bool.not_eq_true' _ ▸ h)
    left
    refine ⟨lek, q2 (.inr ?_) _ (GE.refl.new hx)⟩
    by_cases hr0 : r = []
    · exact .inr fun h3 => h' ⟨hr0, h3⟩
    · exact .inl hr0
  · have h' := of_decide_eq_true (Bool.not_eq_false' _ ▸ h)
    left
    exact ⟨G, GE.refl.new hx, q1 t' ht' h'.1 h'.2⟩
theorem scRef : FnScope ["pattern", "marks", "text"] ["pattern", "marks", "text"] (defScope xRef) := ⟨rfl, rfl, rfl, by decide +kernel, rfl, by decide +kernel, by decide +kernel⟩
noncomputable def spRef (n : Nat) : Sp2 := fun ps G Q => ∃ (p : Pt) (t : Tr) (r : List Int) (z : Str), ps = [enc p, .tup ((mks t ++ r).map PV.int), .str z] ∧ depth p ≤ n ∧ wq p ∧ Fit p t ∧ (mks t ++ r).length ≤ 900000 ∧ z.length ≤ 1000000 ∧
  (fl t p z.cps.toList = none ∨ r ≠ [] ∨ z.length ≠ sn t) ∧ Q (.bl true) G
set_option maxHeartbeats 8000000 in
theorem ok_ref {n k : Nat} (hk : 2 ≤ k) (xq : PySem.W.excIn K D bmV "ValueError.__new__" = true) (hD : mg "NoTree" = some (.ref D)) (F : Fun K "_law_refused" "_law_refused" xRef f fd) (B : BN mg) (CT : CalX P w K mg base D k "tree_by" ft dt ["pattern", "marks", "text"] (spTB n)) : Ok2 P w K mg base (k + 1) f fd ["pattern", "marks", "text"] (spRef n) := by
  have nd := scRef.nd
  refine fn2 F scRef (fun vs G Q h => ?_) (fun cdv A outer s H E as G Q hr h => ?_)
  · obtain ⟨_, _, _, _, rfl, _⟩ := h
    rfl
  have hU := u200 hr
  apply ex2
  case a => symm
  obtain ⟨p, t, r, z, rfl, hd, hw, hf, hms, hz, hn, q⟩ := h
  left
  refine ⟨p, t, r, z, rfl, hd, hw, hf, hms, hz, fun t' ht' h1 h2 => ?_, fun _ G' ge => ⟨G, ge, q⟩⟩
  rcases hn with hn | hn | hn
  · rw [hn] at ht'; cases ht'
  · exact absurd h1 hn
  · exact absurd h2 hn
end
noncomputable abbrev xLInn : Stmt := top 36
noncomputable abbrev xHolds : Stmt := top 40
noncomputable abbrev xBen : Stmt := top 41
section
variable {P : Program} {w : World} {K : PySem.W.Frag} {mg : Str → Option Value} {base : Heap} {f fi ft fm fs fu fx C D : Addr} {fd di dt dm ds du dx : FuncData}
theorem scLInn : FnScope ["tree"] ["tree"] (defScope xLInn) := ⟨rfl, rfl, rfl, by decide +kernel, rfl, by decide +kernel, by decide +kernel⟩
noncomputable def spLInn : Sp2 := fun ps G Q => ∃ p, ps = [ent p] ∧ ∀ c, G c = none → Q (.ref c) (up G c (.lst (ents (tinn p))))
set_option maxHeartbeats 4000000 in
theorem ok_linn (F : Fun K "_law_inner" "_law_inner" xLInn f fd) (B : BN mg) : Ok2 P w K mg base 1 f fd ["tree"] spLInn := by
  have nd := scLInn.nd
  refine fn2 F scLInn (fun vs G Q h => ?_) (fun cdv A outer s H E as G Q hr h => ?_)
  · obtain ⟨_, rfl, _⟩ := h
    rfl
  have hU := u200 hr
  have hUE := UseE.mk
  apply ex2
  case a => symm
  obtain ⟨p, rfl, q⟩ := h
  cases p with
  | row ps =>
    refine ⟨lek, rfl, rfl, fun c hc => ⟨_, GE.refl, q c hc⟩⟩
  | again ps =>
    refine ⟨lek, rfl, rfl, fun c hc => ⟨_, GE.refl, q c hc⟩⟩
  | _ => exact ⟨lek, rfl, rfl, lek, rfl, rfl, lek, fun c hc => ⟨_, GE.refl, q c hc⟩⟩
theorem scHolds : FnScope ["pattern", "tree", "marks", "text"] ["pattern", "tree"] (defScope xHolds) := ⟨rfl, rfl, rfl, by decide +kernel, rfl, by decide +kernel, by decide +kernel⟩
noncomputable def spHolds (n : Nat) : Sp2 := fun ps G Q => ∃ (p : Pt) (t : Tr), ps = [enc p, ent t] ∧ depth p < n ∧ wq p ∧ Fit p t ∧ wt t ∧ tsz t ≤ 90000 ∧ tdp t ≤ 20 ∧ Q (.bl true) G
set_option maxHeartbeats 8000000 in
theorem ok_holds {n k : Nat} (hk : 3 ≤ k) (F : Fun K "_law_holds" "_law_holds" xHolds f fd) (B : BN mg) (CM : Cal2 P w K mg base 3 "marks_of" fm dm ["tree"] spMarks) (CT : Cal2 P w K mg base 3 "text_of" ft dt ["tree"] spTextOf) (CB : CalX P w K mg base D k "tree_by" fs ds ["pattern", "marks", "text"] (spTB n))
    (CI : Cal2 P w K mg base k "is_tree" fi di ["pattern", "thing"] (spIsTree n)) (CR : Cal2 P w K mg base k "_law_refused" fu du ["pattern", "marks", "text"] (spRef n)) : Ok2 P w K mg base (k + 1) f fd ["pattern", "tree"] (spHolds n) := by
  have nd := scHolds.nd
  refine fn2 F scHolds (fun vs G Q h => ?_) (fun cdv A outer s H E as G Q hr h => ?_)
  · obtain ⟨_, _, rfl, _⟩ := h
    rfl
  have hU := u200 hr
  have hUE := UseE.mk
  apply ex2
  case a => symm
  obtain ⟨p, t, rfl, hd, hw, hf, hwt, hz, htd, q⟩ := h
  have hmk := mks_tsz t
  have htl := tln_le hwt
  have hlt := tln_len t
  have own := fl_own hf
  have hpe : pureP 100 (ent t) = true := ent_pure t 100 (by omega)
  have hpl : plV (ent t) := pl_mono (by omega) (by omega) (pl_ent hf hw (by omega))
  left
  refine ⟨t, rfl, by omega, ?_⟩
  left
  refine ⟨t, rfl, hwt, by omega, ?_⟩
  left
  refine ⟨p, t, [], tx t, by rw [List.append_nil], by omega, hw, hf, by rw [List.append_nil]; omega, by omega, fun t' ht' _ _ => ?_, fun hn G' _ => ?_⟩
  rotate_left
  · rcases hn with hn | hn | hn
    · have := own.2 []
      rw [List.append_nil] at this
      rw [tx_cps, this] at hn; cases hn
    · exact hn rfl
    · exact hn (by rw [hlt, own.1])
  have et : t' = t := by
    have := own.2 []
    rw [List.append_nil] at this
    rw [tx_cps, this] at ht'; cases ht'; rfl
  subst et
  left
  refine neP_i hpe hpe ?_
  refine ifF (by rw [deq_refl 100 _ hpe]; rfl) ?_
  left
  refine ⟨p, ent t', rfl, hd, hw, hpl, ?_⟩
  rw [fit_isT hf]
  left
  refine ⟨lek, ?_⟩
  left
  refine addET_i (xs := (mks t').map PV.int) (ys := [.int 1]) (by rw [List.length_map]; show _ + 1 ≤ _; omega) ?_
  left
  refine ⟨p, t', [1], tx t', by rw [List.map_append]; rfl, by omega, hw, hf, by rw [List.length_append]; show _ + 1 ≤ _; omega, by omega, .inr (.inl (by simp)), ?_⟩
  left
  have ha : (Str.ofString "a").length = 1 := rfl
  have hta : (tx t' ++ Str.ofString "a").length = tln t' + 1 := by
    show ((tx t').cps ++ (Str.ofString "a").cps).size = _
    rw [Array.size_append]
    show (tx t').length + 1 = _
    rw [hlt]
  refine ifF rfl ?_
  left
  refine addES_i (by rw [ha]; omega) ?_
  left
  refine ⟨p, t', [], tx t' ++ Str.ofString "a", by rw [List.append_nil], by omega, hw, hf, by rw [List.append_nil]; omega, by rw [hta]; omega, .inr (.inr (by rw [hta, own.1]; omega)), ?_⟩
  left
  refine ifF rfl ?_
  left
  refine eqP_i rfl rfl ?_
  refine ifB (fun h => ?_) (fun h => ?_)
  · exact ⟨_, GE.refl, q⟩
  left
  refine ⟨by omega, ?_⟩
  left
  have h1 : 1 ≤ (tx t').length := by
    cases hq : tcs t' with
    | nil =>
      exfalso
      have e : tx t' = Str.ofString "" := by unfold tx; rw [hq]; rfl
      rw [e] at h
      exact absurd h (by decide)
    | cons c cs => rw [hlt]; show 1 ≤ (tcs t').length; rw [hq]; simp
  have hsl : (Txt.slice (tx t') none (some (-1))).cps.toList.length = (tx t').length - 1 := by
    rw [head_cps h1, List.length_take, flen]; omega
  have hsl2 : (Txt.slice (tx t') none (some (-1))).length = (tx t').length - 1 := by rw [← hsl, flen]
  refine ⟨p, t', [], Txt.slice (tx t') none (some (-1)), by rw [List.append_nil], by omega, hw, hf, by rw [List.append_nil]; omega, by rw [hsl2]; omega, .inl (fl_few hf (by rw [hsl]; omega)), ?_⟩
  exact ⟨_, GE.refl, q⟩
end
@[reducible] noncomputable def prP2 (x : Pt × Tr) : PV := .tup [enc x.1, ent x.2]
theorem fit_parts {p : Pt} {t : Tr} (h : Fit p t) (h1 : ∀ ps, p ≠ .pick ps) (h2 : ∀ q, p ≠ .again q) : FitL (inner p) (tinn t) := by
  cases h with
  | blank => exact .nil
  | sign _ => exact .nil
  | row a b => exact ⟨a, b⟩
  | pick _ _ => exact absurd rfl (h1 _)
  | again _ => exact absurd rfl (h2 _)
  | held a => exact FitL.nil.snoc a
  | price a => exact FitL.nil.snoc a
noncomputable def gz (ps : List Pt) (ts : List Tr) (i : Nat) : PV := .tup [((encs ps)[i]?).getD .non, ((ents ts)[i]?).getD .non]
theorem zip_map {ps : List Pt} {ts : List Tr} (h : ts.length = ps.length) : (List.range ps.length).map (gz ps ts) = (ps.zip ts).map prP2 := by
  apply List.ext_getElem
  · simp [h]
  · intro i h1 h2
    have hi : i < ps.length := by simpa using h1
    have hi2 : i < ts.length := by omega
    simp only [List.getElem_map, List.getElem_range, List.getElem_zip]
    unfold gz prP2
    rw [encs_map, ents_map, List.getElem?_map, List.getElem?_map, List.getElem?_eq_getElem hi, List.getElem?_eq_getElem hi2]
    rfl
theorem zip_fit {ps : List Pt} {ts : List Tr} (h : FitL ps ts) : ∀ x ∈ ps.zip ts, x.1 ∈ ps ∧ x.2 ∈ ts ∧ Fit x.1 x.2 := by
  intro x hx
  obtain ⟨i, hi, e⟩ := List.mem_iff_getElem.mp hx
  have hi1 : i < ps.length := by rw [List.length_zip] at hi; omega
  have hi2 : i < ts.length := by rw [List.length_zip] at hi; omega
  rw [List.getElem_zip] at e
  subst e
  exact ⟨List.getElem_mem hi1, List.getElem_mem hi2, h.2 i _ _ (List.getElem?_eq_getElem hi1) (List.getElem?_eq_getElem hi2)⟩
theorem nP_len (lo : Int) (n : Nat) : (intsP lo n).length = n := by unfold intsP; simp
section
variable {P : Program} {w : World} {K : PySem.W.Frag} {mg : Str → Option Value} {base : Heap} {f fi ft fm fs fu fx C D : Addr} {fd di dt dm ds du dx : FuncData}
theorem scBen : FnScope ["pattern", "tree", "parts", "some"] ["pattern", "tree"] (defScope xBen) := ⟨rfl, rfl, rfl, by decide +kernel, rfl, by decide +kernel, by decide +kernel⟩
theorem csBen1 : compOkB (defScope xBen) ["pattern", "tree", "parts", "some"] (cscope [(".0", .local), ("turn", .local), ("pattern", .free)]) ["turn", "pattern"] [none, some 0] 0 "turn" = true := by decide +kernel
theorem csBen2 : compOkB (defScope xBen) ["pattern", "tree", "parts", "some"] (cscope [(".0", .local), ("k", .local), ("parts", .free), ("some", .free)]) ["k", "parts", "some"] [none, some 2, some 3] 0 "k" = true := by decide +kernel
noncomputable def spBen : Sp2 := fun ps G Q => ∃ (p : Pt) (t : Tr), ps = [enc p, ent t] ∧ wq p ∧ Fit p t ∧ tsz t ≤ 90000 ∧
  ∀ c (xs : List (Pt × Tr)) G', G c = none → GE G G' → G' c = some (.lst (xs.map prP2)) → (∀ x ∈ xs, x.1 ∈ inner p ∧ x.2 ∈ tinn t ∧ Fit x.1 x.2) → xs.length ≤ 1000 → Q (.ref c) G'
set_option maxHeartbeats 8000000 in
theorem ok_ben (F : Fun K "_law_beneath" "_law_beneath" xBen f fd) (B : BN mg) (CI : Cal2 P w K mg base 1 "_law_inside" fi di ["pattern"] spInside) (CL : Cal2 P w K mg base 1 "_law_inner" fm dm ["tree"] spLInn) : Ok2 P w K mg base 2 f fd ["pattern", "tree"] spBen := by
  have nd := scBen.nd
  refine fn2 F scBen (fun vs G Q h => ?_) (fun cdv A outer s H E as G Q hr h => ?_)
  · obtain ⟨_, _, rfl, _⟩ := h
    rfl
  have hU := u200 hr
  have hUE := UseE.mk
  apply ex2
  case a =>
    symm
    all_goals try first
      | (refine' j_comp csBen1 rfl ?_ fun _ _ _ _ => ⟨?_, ?_⟩)
      | (refine' j_comp csBen2 rfl ?_ fun _ _ _ _ => ⟨?_, ?_⟩)
    all_goals symm
  obtain ⟨p, t, rfl, hw, hf, hz, q⟩ := h
  cases p with
  | pick ps =>
    obtain ⟨b, q', u, rfl, hq, hf1⟩ := fit_pick hf
    refine ⟨rfl, rfl, ?_⟩
    refine ifT rfl ?_
    left
    refine ixT_i (x := .tup (encs ps)) rfl ?_
    left
    refine ixT_i (x := .int (b : Int)) rfl ?_
    left
    refine ixT_i (x := enc q') (atI_nat (by rw [encs_map, List.getElem?_map, hq]; rfl)) ?_
    left
    refine ixT_i (x := ent u) rfl ?_
    left
    refine ⟨lek, ?_⟩
    left
    refine ⟨lek, fun c hc => ?_⟩
    refine ⟨_, GE.refl, q c [(q', u)] _ hc (GE.refl.new hc) up_same (fun x hx => ?_) lek⟩
    cases List.mem_singleton.mp hx
    exact ⟨List.mem_of_getElem? hq, List.mem_singleton.mpr rfl, hf1⟩
  | again p =>
    obtain ⟨ts, rfl, hf1⟩ := fit_again hf
    refine ⟨rfl, rfl, ?_⟩
    refine ifF rfl ?_
    left
    refine ⟨rfl, rfl, ?_⟩
    refine ifT rfl ?_
    left
    have hcut : cutP (ents ts) none (some 3) = ents (ts.take (min 3 ts.length)) := by
      unfold cutP
      show List.take (min (3 : Int).toNat (ents ts).length - 0) (List.drop 0 (ents ts)) = _
      rw [List.drop_zero, Nat.sub_zero, ents_length, ents_map, ents_map, List.map_take]
      rfl
    intro acc hacc
    rw [hcut]
    have hle : (ts.take (min 3 ts.length)).length ≤ 3 := by rw [List.length_take]; omega
    have hmem : ∀ u ∈ ts.take (min 3 ts.length), u ∈ ts := fun u hu => List.mem_of_mem_take hu
    generalize ts.take (min 3 ts.length) = us at hle hmem ⊢
    refine cGo_ix (fun i => .tup [enc p, ((ents us)[i]?).getD .non]) (by rw [ents_length]; omega) (fun _ => trivial) (fun i y zs R hy r => ?_) ?_
    · rw [hy] at r
      left
      refine ixT_i (x := enc p) rfl ?_
      left
      exact ⟨lek, r⟩
    · left
      refine ⟨_, GE.refl, q acc (us.map fun u => (p, u)) _ hacc (GE.refl.new hacc) ?_ (fun x hx => ?_) (by rw [List.length_map]; omega)⟩
      · rw [up_same, ents_length]
        congr 2
        apply List.ext_getElem
        · simp
        · intro i h1 h2
          have hi : i < us.length := by simpa using h1
          simp only [List.getElem_map, List.getElem_range]
          rw [ents_map, List.getElem?_map, List.getElem?_eq_getElem hi]
          rfl
      · obtain ⟨u, hu, rfl⟩ := List.mem_map.mp hx
        exact ⟨List.mem_singleton.mpr rfl, hmem u hu, hf1 u (hmem u hu)⟩
  | none => exact (fit_none hf).elim
  | blank =>
    have hfp := fit_parts hf (fun _ h => by cases h) (fun _ h => by cases h)
    have hl6 : (inner (.blank)).length ≤ 6 := by decide
    refine ⟨rfl, rfl, ?_⟩
    refine ifF rfl ?_
    left
    refine ⟨rfl, rfl, ?_⟩
    refine ifF rfl ?_
    left
    refine ⟨.blank, rfl, fun l1 hl1 => ?_⟩
    left
    refine ⟨t, rfl, fun l2 hl2 => ?_⟩
    obtain ⟨n12, hl2'⟩ := up_none hl2
    generalize inner (.blank) = ip at hfp hl6 hl1 hl2 q ⊢
    generalize tinn t = it at hfp hl2 q ⊢
    left
    refine len_i (xs := encs ip) (lk_lst (by rw [up_ne (Ne.symm n12), up_same])) ?_
    rw [encs_length]
    left
    refine ⟨by omega, by omega, fun acc hacc => ?_⟩
    have g1 : up (up G l1 (.lst (encs ip))) l2 (.lst (ents it)) l1 = some (.lst (encs ip)) := by rw [up_ne (Ne.symm n12), up_same]
    have g2 : up (up G l1 (.lst (encs ip))) l2 (.lst (ents it)) l2 = some (.lst (ents it)) := up_same
    have na1 := ne_none g1 hacc
    have na2 := ne_none g2 hacc
    have hn0 : G acc = none := (up_none (up_none hacc).2).2
    refine cGo_ix (gz ip it) (by rw [nP_len]; omega) (fun _ => trivial) (fun i y zs R hy r => ?_) ?_
    · obtain ⟨hi, rfl⟩ := ints_at hy
      have hi1 : i < ip.length := by omega
      have hi2 : i < it.length := by rw [hfp.1]; exact hi1
      have e0 : (0 : Int) + (i : Int) = (i : Int) := Int.zero_add _
      rw [e0]
      have a1 : (encs ip)[i]? = some (((encs ip)[i]?).getD .non) := by rw [encs_map, List.getElem?_map, List.getElem?_eq_getElem hi1]; rfl
      have a2 : (ents it)[i]? = some (((ents it)[i]?).getD .non) := by rw [ents_map, List.getElem?_map, List.getElem?_eq_getElem hi2]; rfl
      left
      refine ixL_i (lk_lst (by rw [up_ne na1]; exact g1)) (atI_nat a1) ?_
      left
      refine ixL_i (lk_lst (by rw [up_ne na2]; exact g2)) (atI_nat a2) ?_
      left
      exact ⟨lek, r⟩
    · left
      refine ⟨_, GE.refl, q acc (ip.zip it) _ hn0 (((GE.refl.new hl1).new hl2).new hacc) ?_ (zip_fit hfp) (by rw [List.length_zip]; omega)⟩
      rw [up_same, nP_len, ← zip_map hfp.1]
      rw [Int.toNat_natCast]
  | sign S =>
    have hfp := fit_parts hf (fun _ h => by cases h) (fun _ h => by cases h)
    have hl6 : (inner (.sign S)).length ≤ 6 := by show 0 ≤ 6; decide
    refine ⟨rfl, rfl, ?_⟩
    refine ifF rfl ?_
    left
    refine ⟨rfl, rfl, ?_⟩
    refine ifF rfl ?_
    left
    refine ⟨.sign S, rfl, fun l1 hl1 => ?_⟩
    left
    refine ⟨t, rfl, fun l2 hl2 => ?_⟩
    obtain ⟨n12, hl2'⟩ := up_none hl2
    generalize inner (.sign S) = ip at hfp hl6 hl1 hl2 q ⊢
    generalize tinn t = it at hfp hl2 q ⊢
    left
    refine len_i (xs := encs ip) (lk_lst (by rw [up_ne (Ne.symm n12), up_same])) ?_
    rw [encs_length]
    left
    refine ⟨by omega, by omega, fun acc hacc => ?_⟩
    have g1 : up (up G l1 (.lst (encs ip))) l2 (.lst (ents it)) l1 = some (.lst (encs ip)) := by rw [up_ne (Ne.symm n12), up_same]
    have g2 : up (up G l1 (.lst (encs ip))) l2 (.lst (ents it)) l2 = some (.lst (ents it)) := up_same
    have na1 := ne_none g1 hacc
    have na2 := ne_none g2 hacc
    have hn0 : G acc = none := (up_none (up_none hacc).2).2
    refine cGo_ix (gz ip it) (by rw [nP_len]; omega) (fun _ => trivial) (fun i y zs R hy r => ?_) ?_
    · obtain ⟨hi, rfl⟩ := ints_at hy
      have hi1 : i < ip.length := by omega
      have hi2 : i < it.length := by rw [hfp.1]; exact hi1
      have e0 : (0 : Int) + (i : Int) = (i : Int) := Int.zero_add _
      rw [e0]
      have a1 : (encs ip)[i]? = some (((encs ip)[i]?).getD .non) := by rw [encs_map, List.getElem?_map, List.getElem?_eq_getElem hi1]; rfl
      have a2 : (ents it)[i]? = some (((ents it)[i]?).getD .non) := by rw [ents_map, List.getElem?_map, List.getElem?_eq_getElem hi2]; rfl
      left
      refine ixL_i (lk_lst (by rw [up_ne na1]; exact g1)) (atI_nat a1) ?_
      left
      refine ixL_i (lk_lst (by rw [up_ne na2]; exact g2)) (atI_nat a2) ?_
      left
      exact ⟨lek, r⟩
    · left
      refine ⟨_, GE.refl, q acc (ip.zip it) _ hn0 (((GE.refl.new hl1).new hl2).new hacc) ?_ (zip_fit hfp) (by rw [List.length_zip]; omega)⟩
      rw [up_same, nP_len, ← zip_map hfp.1]
      rw [Int.toNat_natCast]
  | row ps =>
    have hfp := fit_parts hf (fun _ h => by cases h) (fun _ h => by cases h)
    have hl6 : (inner (.row ps)).length ≤ 6 := hw.2.1
    refine ⟨rfl, rfl, ?_⟩
    refine ifF rfl ?_
    left
    refine ⟨rfl, rfl, ?_⟩
    refine ifF rfl ?_
    left
    refine ⟨.row ps, rfl, fun l1 hl1 => ?_⟩
    left
    refine ⟨t, rfl, fun l2 hl2 => ?_⟩
    obtain ⟨n12, hl2'⟩ := up_none hl2
    generalize inner (.row ps) = ip at hfp hl6 hl1 hl2 q ⊢
    generalize tinn t = it at hfp hl2 q ⊢
    left
    refine len_i (xs := encs ip) (lk_lst (by rw [up_ne (Ne.symm n12), up_same])) ?_
    rw [encs_length]
    left
    refine ⟨by omega, by omega, fun acc hacc => ?_⟩
    have g1 : up (up G l1 (.lst (encs ip))) l2 (.lst (ents it)) l1 = some (.lst (encs ip)) := by rw [up_ne (Ne.symm n12), up_same]
    have g2 : up (up G l1 (.lst (encs ip))) l2 (.lst (ents it)) l2 = some (.lst (ents it)) := up_same
    have na1 := ne_none g1 hacc
    have na2 := ne_none g2 hacc
    have hn0 : G acc = none := (up_none (up_none hacc).2).2
    refine cGo_ix (gz ip it) (by rw [nP_len]; omega) (fun _ => trivial) (fun i y zs R hy r => ?_) ?_
    · obtain ⟨hi, rfl⟩ := ints_at hy
      have hi1 : i < ip.length := by omega
      have hi2 : i < it.length := by rw [hfp.1]; exact hi1
      have e0 : (0 : Int) + (i : Int) = (i : Int) := Int.zero_add _
      rw [e0]
      have a1 : (encs ip)[i]? = some (((encs ip)[i]?).getD .non) := by rw [encs_map, List.getElem?_map, List.getElem?_eq_getElem hi1]; rfl
      have a2 : (ents it)[i]? = some (((ents it)[i]?).getD .non) := by rw [ents_map, List.getElem?_map, List.getElem?_eq_getElem hi2]; rfl
      left
      refine ixL_i (lk_lst (by rw [up_ne na1]; exact g1)) (atI_nat a1) ?_
      left
      refine ixL_i (lk_lst (by rw [up_ne na2]; exact g2)) (atI_nat a2) ?_
      left
      exact ⟨lek, r⟩
    · left
      refine ⟨_, GE.refl, q acc (ip.zip it) _ hn0 (((GE.refl.new hl1).new hl2).new hacc) ?_ (zip_fit hfp) (by rw [List.length_zip]; omega)⟩
      rw [up_same, nP_len, ← zip_map hfp.1]
      rw [Int.toNat_natCast]
  | held m p =>
    have hfp := fit_parts hf (fun _ h => by cases h) (fun _ h => by cases h)
    have hl6 : (inner (.held m p)).length ≤ 6 := by show 1 ≤ 6; decide
    refine ⟨rfl, rfl, ?_⟩
    refine ifF rfl ?_
    left
    refine ⟨rfl, rfl, ?_⟩
    refine ifF rfl ?_
    left
    refine ⟨.held m p, rfl, fun l1 hl1 => ?_⟩
    left
    refine ⟨t, rfl, fun l2 hl2 => ?_⟩
    obtain ⟨n12, hl2'⟩ := up_none hl2
    generalize inner (.held m p) = ip at hfp hl6 hl1 hl2 q ⊢
    generalize tinn t = it at hfp hl2 q ⊢
    left
    refine len_i (xs := encs ip) (lk_lst (by rw [up_ne (Ne.symm n12), up_same])) ?_
    rw [encs_length]
    left
    refine ⟨by omega, by omega, fun acc hacc => ?_⟩
    have g1 : up (up G l1 (.lst (encs ip))) l2 (.lst (ents it)) l1 = some (.lst (encs ip)) := by rw [up_ne (Ne.symm n12), up_same]
    have g2 : up (up G l1 (.lst (encs ip))) l2 (.lst (ents it)) l2 = some (.lst (ents it)) := up_same
    have na1 := ne_none g1 hacc
    have na2 := ne_none g2 hacc
    have hn0 : G acc = none := (up_none (up_none hacc).2).2
    refine cGo_ix (gz ip it) (by rw [nP_len]; omega) (fun _ => trivial) (fun i y zs R hy r => ?_) ?_
    · obtain ⟨hi, rfl⟩ := ints_at hy
      have hi1 : i < ip.length := by omega
      have hi2 : i < it.length := by rw [hfp.1]; exact hi1
      have e0 : (0 : Int) + (i : Int) = (i : Int) := Int.zero_add _
      rw [e0]
      have a1 : (encs ip)[i]? = some (((encs ip)[i]?).getD .non) := by rw [encs_map, List.getElem?_map, List.getElem?_eq_getElem hi1]; rfl
      have a2 : (ents it)[i]? = some (((ents it)[i]?).getD .non) := by rw [ents_map, List.getElem?_map, List.getElem?_eq_getElem hi2]; rfl
      left
      refine ixL_i (lk_lst (by rw [up_ne na1]; exact g1)) (atI_nat a1) ?_
      left
      refine ixL_i (lk_lst (by rw [up_ne na2]; exact g2)) (atI_nat a2) ?_
      left
      exact ⟨lek, r⟩
    · left
      refine ⟨_, GE.refl, q acc (ip.zip it) _ hn0 (((GE.refl.new hl1).new hl2).new hacc) ?_ (zip_fit hfp) (by rw [List.length_zip]; omega)⟩
      rw [up_same, nP_len, ← zip_map hfp.1]
      rw [Int.toNat_natCast]
  | price m p =>
    have hfp := fit_parts hf (fun _ h => by cases h) (fun _ h => by cases h)
    have hl6 : (inner (.price m p)).length ≤ 6 := by show 1 ≤ 6; decide
    refine ⟨rfl, rfl, ?_⟩
    refine ifF rfl ?_
    left
    refine ⟨rfl, rfl, ?_⟩
    refine ifF rfl ?_
    left
    refine ⟨.price m p, rfl, fun l1 hl1 => ?_⟩
    left
    refine ⟨t, rfl, fun l2 hl2 => ?_⟩
    obtain ⟨n12, hl2'⟩ := up_none hl2
    generalize inner (.price m p) = ip at hfp hl6 hl1 hl2 q ⊢
    generalize tinn t = it at hfp hl2 q ⊢
    left
    refine len_i (xs := encs ip) (lk_lst (by rw [up_ne (Ne.symm n12), up_same])) ?_
    rw [encs_length]
    left
    refine ⟨by omega, by omega, fun acc hacc => ?_⟩
    have g1 : up (up G l1 (.lst (encs ip))) l2 (.lst (ents it)) l1 = some (.lst (encs ip)) := by rw [up_ne (Ne.symm n12), up_same]
    have g2 : up (up G l1 (.lst (encs ip))) l2 (.lst (ents it)) l2 = some (.lst (ents it)) := up_same
    have na1 := ne_none g1 hacc
    have na2 := ne_none g2 hacc
    have hn0 : G acc = none := (up_none (up_none hacc).2).2
    refine cGo_ix (gz ip it) (by rw [nP_len]; omega) (fun _ => trivial) (fun i y zs R hy r => ?_) ?_
    · obtain ⟨hi, rfl⟩ := ints_at hy
      have hi1 : i < ip.length := by omega
      have hi2 : i < it.length := by rw [hfp.1]; exact hi1
      have e0 : (0 : Int) + (i : Int) = (i : Int) := Int.zero_add _
      rw [e0]
      have a1 : (encs ip)[i]? = some (((encs ip)[i]?).getD .non) := by rw [encs_map, List.getElem?_map, List.getElem?_eq_getElem hi1]; rfl
      have a2 : (ents it)[i]? = some (((ents it)[i]?).getD .non) := by rw [ents_map, List.getElem?_map, List.getElem?_eq_getElem hi2]; rfl
      left
      refine ixL_i (lk_lst (by rw [up_ne na1]; exact g1)) (atI_nat a1) ?_
      left
      refine ixL_i (lk_lst (by rw [up_ne na2]; exact g2)) (atI_nat a2) ?_
      left
      exact ⟨lek, r⟩
    · left
      refine ⟨_, GE.refl, q acc (ip.zip it) _ hn0 (((GE.refl.new hl1).new hl2).new hacc) ?_ (zip_fit hfp) (by rw [List.length_zip]; omega)⟩
      rw [up_same, nP_len, ← zip_map hfp.1]
      rw [Int.toNat_natCast]
end
noncomputable abbrev xLaw : Stmt := top 42
section
variable {P : Program} {w : World} {K : PySem.W.Frag} {mg : Str → Option Value} {base : Heap} {f fp fl fi fg fb ft : Addr} {fd dp dl di dg db dt : FuncData}
theorem scLaw : FnScope ["script", "cell", "pool", "pattern", "tree", "part", "beneath"] ["script"] (defScope xLaw) := ⟨rfl, rfl, rfl, by decide +kernel, rfl, by decide +kernel, by decide +kernel⟩
noncomputable def spLaw : Sp2 := fun ps G Q => ∃ ns : List Int, ps = [.ro (ns.map PV.int)] ∧ ns.length ≤ 63 ∧ ∀ G', Q (.bl true) G'
set_option maxHeartbeats 16000000 in
theorem ok_law {n k : Nat} (hn : 6 ≤ n) (hk : 20 ≤ k) (F : Fun K "law" "law" xLaw f fd) (B : BN mg) (CP : Cal2 P w K mg base 1 "_law_pool" fp dp ["cell"] spPool) (CL : Cal2 P w K mg base 2 "_law_letters" fl dl ["pool"] spLetters) (CD : Cal2 P w K mg base 16 "_law_drawn" fi di ["pool", "letters"] spDrawn)
    (CG : Cal2 P w K mg base 11 "_law_grown" fg dg ["pattern", "pool", "left"] (spGrown 5)) (CB : Cal2 P w K mg base 2 "_law_beneath" fb db ["pattern", "tree"] spBen) (CH : Cal2 P w K mg base k "_law_holds" ft dt ["pattern", "tree"] (spHolds n)) :
    Ok2 P w K mg base (k + 1) f fd ["script"] spLaw := by
  have nd := scLaw.nd
  refine fn2 F scLaw (fun vs G Q h => ?_) (fun cdv A outer s H E as G Q hr h => ?_)
  · obtain ⟨_, rfl, _⟩ := h
    rfl
  have hU := u200 hr
  apply ex2
  case a => symm
  obtain ⟨ns, rfl, h63, q⟩ := h
  left
  refine ⟨lek, fun l0 hl0 => ?_⟩
  left
  refine addR_i lk_up (by simp; omega) fun sc hsc => ?_
  left
  rw [lk_up]
  left
  have g0 : up (up G l0 (.lst [PV.int 0])) sc (.lst ([PV.int 0] ++ ns.map PV.int)) sc = some (.lst ([PV.int 0] ++ ns.map PV.int)) := up_same
  generalize up (up G l0 (.lst [PV.int 0])) sc (.lst ([PV.int 0] ++ ns.map PV.int)) = G0 at g0
  refine ⟨fun i τ G2 => ∃ t1 t2 t3 t4 t5 t6 : Option PV, τ = [some (.ro (ns.map PV.int)), t1, t2, t3, t4, t5, t6] ∧ G2 sc = some (.lst ([PV.int 0] ++ ns.map PV.int)), ⟨_, _, _, _, _, _, rfl, g0⟩, ?_, ?_, ?_⟩
  · rintro i τ G2 _ ⟨_, _, _, _, _, _, rfl, h⟩
    exact lk_lst h
  · rintro i x τ G2 hx ⟨t1, t2, t3, t4, t5, t6, rfl, g2⟩
    obtain ⟨c, rfl⟩ : ∃ c, x = .int c := by
      have hm := List.mem_of_getElem? hx
      rcases List.mem_append.mp hm with z | z
      · exact ⟨0, List.mem_singleton.mp z⟩
      · obtain ⟨c, _, e⟩ := List.mem_map.mp z
        exact ⟨c, e.symm⟩
    left
    refine ⟨c, rfl, fun a G3 ha p3 c3 => ?_⟩
    have nsa : sc ≠ a := ne_none g2 ha
    have g3 := c3 sc _ (by simpa using nsa) g2
    left
    refine ⟨a, rfl, p3, fun z G4 z1 z6 zs p4 c4 => ?_⟩
    have g4 := c4 sc _ (by simpa using nsa) g3
    left
    refine ⟨a, z, rfl, p4, z1, z6, zs, fun p G6 w6 d6 s6 p6 c6 => ?_⟩
    have g6 := c6 sc _ (by simpa using nsa) g4
    left
    refine ⟨lek, fun lf hlf => ?_⟩
    have nla := pool_ne p6 hlf
    have nls : sc ≠ lf := ne_none g6 hlf
    left
    refine ⟨p, a, lf, 20, 4, rfl, rfl, d6, w6, s6, p6.new hlf, up_same, Ne.symm nla, fun r l' G7 hG p7 gl7 c7 => ?_⟩
    have g7 := c7 sc _ (by simp [nsa, nls]) (by rw [up_ne nls]; exact g6)
    obtain ⟨q1, q2, q3⟩ := hG
    rcases q3 with rfl | ⟨t, rfl, u1, u2, u3, u4, u5⟩
    · left
      refine ifF rfl ?_
      exact ⟨_, _, _, _, _, _, rfl, g7⟩
    · have hsz : tsz t ≤ 12000 := by
        have e : W 4 (20 - l') = 160 * (20 - l') := rfl
        rw [show mn 20 = 1 from rfl] at q2
        omega
      obtain ⟨xs, ht⟩ : ∃ xs, ent t = .tup xs := by cases t <;> exact ⟨_, rfl⟩
      rw [ht]
      left
      refine ifT rfl ?_
      rw [← ht]
      have hsi := tsz_inn t
      have hli := tszs_len (tinn t)
      have hdi := tdp_inn t
      left
      refine ⟨lek, ?_⟩
      left
      refine ⟨lek, fun l1 hl1 => ?_⟩
      have n1 := ne_none g7 hl1
      left
      refine ⟨p, t, rfl, w6, u5, by omega, fun l2 xs G8 hl2 ge8 gl8 hxs hxl => ?_⟩
      have g8 := ge8 sc _ (by rw [up_ne n1]; exact g7)
      have gl1 := ge8 l1 _ up_same
      left
      refine addL_i (lk_lst gl1) (lk_lst gl8) (by rw [List.length_map]; simp only [List.length_cons, List.length_nil]; omega) fun l3 hl3 => ?_
      have n3 := ne_none g8 hl3
      have g9 : up G8 l3 (.lst ([.tup [enc p, ent t]] ++ xs.map prP2)) sc = some (.lst ([PV.int 0] ++ ns.map PV.int)) := by rw [up_ne n3]; exact g8
      have gl9 : up G8 l3 (.lst ([.tup [enc p, ent t]] ++ xs.map prP2)) l3 = some (.lst ([.tup [enc p, ent t]] ++ xs.map prP2)) := up_same
      left
      rw [lk_up]
      generalize up G8 l3 (.lst ([.tup [enc p, ent t]] ++ xs.map prP2)) = G9 at g9 gl9 ⊢
      left
      refine ⟨fun i τ G2 => ∃ t5 t6 : Option PV, τ = [some (.ro (ns.map PV.int)), some (.int c), some (.ref a), some (enc p), some (ent t), t5, t6] ∧ G2 sc = some (.lst ([PV.int 0] ++ ns.map PV.int)) ∧ G2 l3 = some (.lst ([.tup [enc p, ent t]] ++ xs.map prP2)), ⟨_, _, rfl, g9, gl9⟩, ?_, ?_, ?_⟩
      · rintro j τ G9 _ ⟨_, _, rfl, _, h⟩
        exact lk_lst h
      · rintro j y τ G9 hy ⟨_, _, rfl, g10, g11⟩
        obtain ⟨⟨d, u⟩, rfl, hd⟩ : ∃ x : Pt × Tr, y = prP2 x ∧ ((depth x.1 < n) ∧ wq x.1 ∧ Fit x.1 x.2 ∧ wt x.2 ∧ tsz x.2 ≤ 90000 ∧ tdp x.2 ≤ 20) := by
          have hm := List.mem_of_getElem? hy
          rcases List.mem_append.mp hm with z | z
          · exact ⟨(p, t), List.mem_singleton.mp z, by show depth p < n; omega, w6, u5, u1, by show tsz t ≤ _; omega, by show tdp t ≤ _; omega⟩
          · obtain ⟨x, hx, e⟩ := List.mem_map.mp z
            obtain ⟨k1, k2, k3⟩ := hxs x hx
            have k4 := depth_mem k1
            have k5 := size_depth_inner p
            have k6 := tsz_mem k2
            have k7 := tdp_mem k2
            exact ⟨x, e.symm, by omega, wq_inn w6 k1, k3, wt_inn u1 k2, by omega, by omega⟩
        left
        refine ⟨d, u, rfl, hd.1, hd.2.1, hd.2.2.1, hd.2.2.2.1, hd.2.2.2.2.1, hd.2.2.2.2.2, ?_⟩
        refine ifF rfl ?_
        exact ⟨_, _, rfl, g10, g11⟩
      · rintro τ G9 ⟨_, _, rfl, g10, _⟩
        exact ⟨_, _, _, _, _, _, rfl, g10⟩
  · rintro τ G2 ⟨t1, t2, t3, t4, t5, t6, rfl, g2⟩
    exact ⟨G2, GE.refl, q _⟩
end
noncomputable def clsB (K : PySem.W.Frag) (C D : Addr) (fs : List Addr) : Bool :=
  (PySem.W.plainGet K C Str.empty && PySem.W.hasDictIn K C && PySem.W.plainOver K C && (PySem.W.findIn K (.ref C) "__setattr__" == some (some (.builtin "object.__setattr__")))) && ((PySem.W.findIn K (.ref C) "marks" == some none) && (PySem.W.findIn K (.ref C) "signs" == some none) && (PySem.W.findIn K (.ref C) "marks_used" == some none) && (PySem.W.findIn K (.ref C) "signs_used" == some none))
    && PySem.W.excIn K D bmV "ValueError.__new__" && (PySem.W.makesIn K C && PySem.W.keepIn K (.ref C)) && fs.all (fun f => PySem.W.isFn K (.ref f))
theorem cls_of {K : PySem.W.Frag} {C D : Addr} {fs : List Addr} (h : clsB K C D fs = true) : Cls K C ∧ NoAttr K C "marks" ∧ NoAttr K C "signs" ∧ NoAttr K C "marks_used" ∧ NoAttr K C "signs_used" ∧ PySem.W.excIn K D bmV "ValueError.__new__" = true ∧ (PySem.W.makesIn K C = true ∧ PySem.W.keepIn K (.ref C) = true) ∧ ∀ f ∈ fs, PySem.W.isFn K (.ref f) = true := by
  unfold clsB at h
  simp only [Bool.and_eq_true, List.all_eq_true, beq_iff_eq] at h
  obtain ⟨⟨⟨⟨⟨⟨⟨h1, h2⟩, h3⟩, h4⟩, ⟨⟨n1, n2⟩, n3⟩, n4⟩, hx⟩, hm⟩, hf⟩ := h
  exact ⟨⟨h1, h2, h3, h4⟩, n1, n2, n3, n4, hx, hm, hf⟩
theorem never_okX {P : Program} {w : World} {K : PySem.W.Frag} {mg : Str → Option Value} {base : Heap} {D : Addr} {k : Nat} {f : Addr} {fd : FuncData} {ps : List Str} {sp : Sp3} (h : ∀ as G Q EX, ¬ sp as G Q EX) : OkX P w K mg base D k f fd ps sp :=
  ⟨fun vs H Q E ⟨as, G, Q2, EX, _, _, q, _⟩ => absurd q (h as G Q2 EX), fun A outer s H args us vs Q E _ _ _ _ ⟨as, G, Q2, EX, _, _, q, _⟩ => absurd q (h as G Q2 EX)⟩
noncomputable def bnB (K : PySem.W.Frag) : Bool := bnames.all fun x => PySem.W.nsIn K mainGlobals x == some none
theorem bn_of {K : PySem.W.Frag} {h : Heap} {mg : Str → Option Value} (X : K.In h) (G : h.Ns mainGlobals mg) (z : bnB K = true) : BN mg := fun x hx => by
  unfold bnB at z
  rw [List.all_eq_true] at z
  have := z x (by simpa using hx)
  exact PySem.W.mg_none_of X G (beq_iff_eq.mp this)
theorem len1 {us : List Value} (h : us.length = 1) : ∃ a, us = [a] := by
  cases us with
  | nil => cases h
  | cons a l => cases l with
    | nil => exact ⟨a, rfl⟩
    | cons b l => cases h
theorem len2 {us : List Value} (h : us.length = 2) : ∃ a0 a1, us = [a0, a1] := by
  cases us with
  | nil => cases h
  | cons a l =>
    obtain ⟨a1, rfl⟩ := len1 (us := l) (by simpa using h)
    exact ⟨a, a1, rfl⟩
theorem len3 {us : List Value} (h : us.length = 3) : ∃ a0 a1 a2, us = [a0, a1, a2] := by
  cases us with
  | nil => cases h
  | cons a l =>
    obtain ⟨a1, a2, rfl⟩ := len2 (us := l) (by simpa using h)
    exact ⟨a, a1, a2, rfl⟩
theorem len4 {us : List Value} (h : us.length = 4) : ∃ a0 a1 a2 a3, us = [a0, a1, a2, a3] := by
  cases us with
  | nil => cases h
  | cons a l =>
    obtain ⟨a1, a2, a3, rfl⟩ := len3 (us := l) (by simpa using h)
    exact ⟨a, a1, a2, a3, rfl⟩
theorem len5 {us : List Value} (h : us.length = 5) : ∃ a0 a1 a2 a3 a4, us = [a0, a1, a2, a3, a4] := by
  cases us with
  | nil => cases h
  | cons a l =>
    obtain ⟨a1, a2, a3, a4, rfl⟩ := len4 (us := l) (by simpa using h)
    exact ⟨a, a1, a2, a3, a4, rfl⟩
noncomputable def FnB (K : PySem.W.Frag) (x qual : Str) (st : Stmt) (f : Addr) : Prop := ∃ oc od kV dc pm an cd ct sl, K.lookup f = some ⟨oc, od, .func (PySem.W.fnOf x qual (defArgs st) (defBody st) (defScope st) .none kV dc pm an cd ct), sl⟩ ∧ PySem.W.codeIn K cd qual = true ∧ PySem.W.keepIn K (.ref f) = true
noncomputable def FnIn (K : PySem.W.Frag) (x : Str) (st : Stmt) (f : Addr) : Prop := PySem.W.nsIn K mainGlobals x = some (some (.ref f)) ∧ FnB K x x st f
noncomputable def MtIn (K : PySem.W.Frag) (C : Addr) (x q : Str) (st : Stmt) (f : Addr) : Prop := PySem.W.findIn K (.ref C) x = some (some (.ref f)) ∧ FnB K x q st f
theorem FnB.get {K : PySem.W.Frag} {x q : Str} {st : Stmt} {f : Addr} (u : FnB K x q st f) : ∃ fd, Fun K x q st f fd := by
  obtain ⟨_, _, _, _, _, _, _, _, _, l, c, k⟩ := u
  exact ⟨_, fun_mk l c k⟩
set_option maxHeartbeats 8000000 in
theorem all_mk {l : PySem.W.OpenLaw} {w : World} {K : PySem.W.Frag} {h : Heap} {mg : Str → Option Value} {fa f1 f2 f3 f4 f5 f6 f7 f8 f9 f10 f11 f12 f13 f14 f15 f16 f17 f18 f19 f20 f21 f22 f23 f24 f25 f26 f27 f28 f29 f30 f31 f32 f33 f34 f35 f36 f37 : Addr} {cC cD dL : Addr} {oL : Obj} {sSIG : Str} {tSIG : Tok} {tTU : Tok} {tST : Tok} (X : K.In h) (G : h.Ns mainGlobals mg) (hfa : mg "law" = some (.ref fa))
    (cg : PySem.W.nsIn K mainGlobals "Reading" = some (some (.ref cC))) (dg : PySem.W.nsIn K mainGlobals "NoTree" = some (some (.ref cD))) (u1 : FnIn K "is_whole" xWhole f1) (u2 : FnIn K "is_text" xText f2) (u3 : FnIn K "is_one_of" xOneOf f3) (u4 : FnIn K "are_trees_of" xTreesOf f4) (u5 : FnIn K "are_turns_of" xTurnsOf f5) (u6 : FnIn K "is_picked_of" xPicked f6) (u7 : FnIn K "is_label" xLabel f7) (u8 : FnIn K "is_tree" xIsTree f8) (u9 : FnIn K "inner_trees" xInnT f9) (u10 : FnIn K "trees_within" xWithin f10) (u11 : FnIn K "text_of" xTextOf f11) (u12 : FnIn K "marks_and_trees" xMT f12) (u13 : FnIn K "marks_of" xMarks f13) (u14 : MtIn K cC "__init__" "Reading.__init__" xInit f14) (u15 : MtIn K cC "is_used_up" "Reading.is_used_up" xUsed f15) (u16 : MtIn K cC "take_mark" "Reading.take_mark" xTM f16) (u17 : MtIn K cC "take_sign" "Reading.take_sign" xTS f17) (u18 : MtIn K cC "take_turns" "Reading.take_turns" xTu f18) (u19 : MtIn K cC "take_tree" "Reading.take_tree" xTT f19) (u20 : FnIn K "tree_by" xTB f20) (u21 : FnIn K "_law_pool" xPool f21) (u22 : FnIn K "_law_next" xNext f22) (u23 : FnIn K "_law_letters" xLetters f23) (u24 : FnIn K "_law_signs" xSigns f24) (u25 : FnIn K "_law_leaf" xLeaf f25) (u26 : FnIn K "_law_parts" xParts f26) (u27 : FnIn K "_law_pattern" xPattern f27) (u28 : FnIn K "_law_inside" xInside f28) (u29 : FnIn K "_law_size" xSize f29) (u30 : FnIn K "_law_drawn" xDrawn f30) (u31 : FnIn K "_law_inner" xLInn f31) (u32 : FnIn K "_law_turns" xTurns f32) (u33 : FnIn K "_law_grown" xGrown f33) (u34 : FnIn K "_law_refused" xRef f34) (u35 : FnIn K "_law_holds" xHolds f35) (u36 : FnIn K "_law_beneath" xBen f36) (u37 : FnIn K "law" xLaw f37) (m0 : PySem.W.nsIn K mainGlobals "SIGNS" = some (some (.str sSIG tSIG))) (m1 : PySem.W.nsIn K mainGlobals "TURN" = some (some (.int 0 tTU))) (m2 : PySem.W.nsIn K mainGlobals "STOP" = some (some (.int 1 tST))) (mL : PySem.W.nsIn K mainGlobals "LENGTHS" = some (some (.ref dL))) (nL : K.lookup dL = some oL) (hL : LenO l.prog w oL lenT) (sL : (dL == sysModules) = false) (eSIG : sSIG = SIG) (zc : clsB K cC cD [f14, f15, f16, f17, f18, f19] = true) (zb : bnB K = true) :
    ∃ fd : FuncData, (∀ (s : Shared) (v : Value), BindsTo s fd ⟨[v], []⟩ [("script", v)]) ∧ ∀ base : Heap, K.In base → base.Ns mainGlobals mg → FnOk l.prog w K mg base CX0 21 fa fd ["script"] (spL K spLaw) := by
  have e := hfa.symm.trans (PySem.W.mg_of X G u37.1)
  cases e
  have B := bn_of X G zb
  obtain ⟨d1, F1⟩ := u1.2.get
  have k1 := F1.kp
  have b1 := F1.binds (ps := ["thing"]) fun _ _ _ _ _ _ us hl => by obtain ⟨_, rfl⟩ := len1 hl; rfl
  have g1 := PySem.W.mg_of X G u1.1
  obtain ⟨d2, F2⟩ := u2.2.get
  have k2 := F2.kp
  have b2 := F2.binds (ps := ["thing"]) fun _ _ _ _ _ _ us hl => by obtain ⟨_, rfl⟩ := len1 hl; rfl
  have g2 := PySem.W.mg_of X G u2.1
  obtain ⟨d3, F3⟩ := u3.2.get
  have k3 := F3.kp
  have b3 := F3.binds (ps := ["signs", "thing"]) fun _ _ _ _ _ _ us hl => by obtain ⟨_, _, rfl⟩ := len2 hl; rfl
  have g3 := PySem.W.mg_of X G u3.1
  obtain ⟨d4, F4⟩ := u4.2.get
  have k4 := F4.kp
  have b4 := F4.binds (ps := ["parts", "thing"]) fun _ _ _ _ _ _ us hl => by obtain ⟨_, _, rfl⟩ := len2 hl; rfl
  have g4 := PySem.W.mg_of X G u4.1
  obtain ⟨d5, F5⟩ := u5.2.get
  have k5 := F5.kp
  have b5 := F5.binds (ps := ["part", "thing"]) fun _ _ _ _ _ _ us hl => by obtain ⟨_, _, rfl⟩ := len2 hl; rfl
  have g5 := PySem.W.mg_of X G u5.1
  obtain ⟨d6, F6⟩ := u6.2.get
  have k6 := F6.kp
  have b6 := F6.binds (ps := ["parts", "number", "thing"]) fun _ _ _ _ _ _ us hl => by obtain ⟨_, _, _, rfl⟩ := len3 hl; rfl
  have g6 := PySem.W.mg_of X G u6.1
  obtain ⟨d7, F7⟩ := u7.2.get
  have k7 := F7.kp
  have b7 := F7.binds (ps := ["label", "thing"]) fun _ _ _ _ _ _ us hl => by obtain ⟨_, _, rfl⟩ := len2 hl; rfl
  have g7 := PySem.W.mg_of X G u7.1
  obtain ⟨d8, F8⟩ := u8.2.get
  have k8 := F8.kp
  have b8 := F8.binds (ps := ["pattern", "thing"]) fun _ _ _ _ _ _ us hl => by obtain ⟨_, _, rfl⟩ := len2 hl; rfl
  have g8 := PySem.W.mg_of X G u8.1
  obtain ⟨d9, F9⟩ := u9.2.get
  have k9 := F9.kp
  have b9 := F9.binds (ps := ["tree"]) fun _ _ _ _ _ _ us hl => by obtain ⟨_, rfl⟩ := len1 hl; rfl
  have g9 := PySem.W.mg_of X G u9.1
  obtain ⟨d10, F10⟩ := u10.2.get
  have k10 := F10.kp
  have b10 := F10.binds (ps := ["tree"]) fun _ _ _ _ _ _ us hl => by obtain ⟨_, rfl⟩ := len1 hl; rfl
  have g10 := PySem.W.mg_of X G u10.1
  obtain ⟨d11, F11⟩ := u11.2.get
  have k11 := F11.kp
  have b11 := F11.binds (ps := ["tree"]) fun _ _ _ _ _ _ us hl => by obtain ⟨_, rfl⟩ := len1 hl; rfl
  have g11 := PySem.W.mg_of X G u11.1
  obtain ⟨d12, F12⟩ := u12.2.get
  have k12 := F12.kp
  have b12 := F12.binds (ps := ["tree"]) fun _ _ _ _ _ _ us hl => by obtain ⟨_, rfl⟩ := len1 hl; rfl
  have g12 := PySem.W.mg_of X G u12.1
  obtain ⟨d13, F13⟩ := u13.2.get
  have k13 := F13.kp
  have b13 := F13.binds (ps := ["tree"]) fun _ _ _ _ _ _ us hl => by obtain ⟨_, rfl⟩ := len1 hl; rfl
  have g13 := PySem.W.mg_of X G u13.1
  obtain ⟨d14, F14⟩ := u14.2.get
  have k14 := F14.kp
  have b14 := F14.binds (ps := ["self", "marks", "text"]) fun _ _ _ _ _ _ us hl => by obtain ⟨_, _, _, rfl⟩ := len3 hl; rfl
  obtain ⟨d15, F15⟩ := u15.2.get
  have k15 := F15.kp
  have b15 := F15.binds (ps := ["self"]) fun _ _ _ _ _ _ us hl => by obtain ⟨_, rfl⟩ := len1 hl; rfl
  obtain ⟨d16, F16⟩ := u16.2.get
  have k16 := F16.kp
  have b16 := F16.binds (ps := ["self", "choices"]) fun _ _ _ _ _ _ us hl => by obtain ⟨_, _, rfl⟩ := len2 hl; rfl
  obtain ⟨d17, F17⟩ := u17.2.get
  have k17 := F17.kp
  have b17 := F17.binds (ps := ["self", "signs"]) fun _ _ _ _ _ _ us hl => by obtain ⟨_, _, rfl⟩ := len2 hl; rfl
  obtain ⟨d18, F18⟩ := u18.2.get
  have k18 := F18.kp
  have b18 := F18.binds (ps := ["self", "part"]) fun _ _ _ _ _ _ us hl => by obtain ⟨_, _, rfl⟩ := len2 hl; rfl
  obtain ⟨d19, F19⟩ := u19.2.get
  have k19 := F19.kp
  have b19 := F19.binds (ps := ["self", "pattern"]) fun _ _ _ _ _ _ us hl => by obtain ⟨_, _, rfl⟩ := len2 hl; rfl
  obtain ⟨d20, F20⟩ := u20.2.get
  have k20 := F20.kp
  have b20 := F20.binds (ps := ["pattern", "marks", "text"]) fun _ _ _ _ _ _ us hl => by obtain ⟨_, _, _, rfl⟩ := len3 hl; rfl
  have g20 := PySem.W.mg_of X G u20.1
  obtain ⟨d21, F21⟩ := u21.2.get
  have k21 := F21.kp
  have b21 := F21.binds (ps := ["cell"]) fun _ _ _ _ _ _ us hl => by obtain ⟨_, rfl⟩ := len1 hl; rfl
  have g21 := PySem.W.mg_of X G u21.1
  obtain ⟨d22, F22⟩ := u22.2.get
  have k22 := F22.kp
  have b22 := F22.binds (ps := ["pool", "base"]) fun _ _ _ _ _ _ us hl => by obtain ⟨_, _, rfl⟩ := len2 hl; rfl
  have g22 := PySem.W.mg_of X G u22.1
  obtain ⟨d23, F23⟩ := u23.2.get
  have k23 := F23.kp
  have b23 := F23.binds (ps := ["pool"]) fun _ _ _ _ _ _ us hl => by obtain ⟨_, rfl⟩ := len1 hl; rfl
  have g23 := PySem.W.mg_of X G u23.1
  obtain ⟨d24, F24⟩ := u24.2.get
  have k24 := F24.kp
  have b24 := F24.binds (ps := ["pool", "letters"]) fun _ _ _ _ _ _ us hl => by obtain ⟨_, _, rfl⟩ := len2 hl; rfl
  have g24 := PySem.W.mg_of X G u24.1
  obtain ⟨d25, F25⟩ := u25.2.get
  have k25 := F25.kp
  have b25 := F25.binds (ps := ["pool", "letters", "blank"]) fun _ _ _ _ _ _ us hl => by obtain ⟨_, _, _, rfl⟩ := len3 hl; rfl
  have g25 := PySem.W.mg_of X G u25.1
  obtain ⟨d26, F26⟩ := u26.2.get
  have k26 := F26.kp
  have b26 := F26.binds (ps := ["pool", "letters", "deep", "room", "hard"]) fun _ _ _ _ _ _ us hl => by obtain ⟨_, _, _, _, _, rfl⟩ := len5 hl; rfl
  have g26 := PySem.W.mg_of X G u26.1
  obtain ⟨d27, F27⟩ := u27.2.get
  have k27 := F27.kp
  have b27 := F27.binds (ps := ["pool", "letters", "deep", "room", "blank"]) fun _ _ _ _ _ _ us hl => by obtain ⟨_, _, _, _, _, rfl⟩ := len5 hl; rfl
  have g27 := PySem.W.mg_of X G u27.1
  obtain ⟨d28, F28⟩ := u28.2.get
  have k28 := F28.kp
  have b28 := F28.binds (ps := ["pattern"]) fun _ _ _ _ _ _ us hl => by obtain ⟨_, rfl⟩ := len1 hl; rfl
  have g28 := PySem.W.mg_of X G u28.1
  obtain ⟨d29, F29⟩ := u29.2.get
  have k29 := F29.kp
  have b29 := F29.binds (ps := ["pattern"]) fun _ _ _ _ _ _ us hl => by obtain ⟨_, rfl⟩ := len1 hl; rfl
  have g29 := PySem.W.mg_of X G u29.1
  obtain ⟨d30, F30⟩ := u30.2.get
  have k30 := F30.kp
  have b30 := F30.binds (ps := ["pool", "letters"]) fun _ _ _ _ _ _ us hl => by obtain ⟨_, _, rfl⟩ := len2 hl; rfl
  have g30 := PySem.W.mg_of X G u30.1
  obtain ⟨d31, F31⟩ := u31.2.get
  have k31 := F31.kp
  have b31 := F31.binds (ps := ["tree"]) fun _ _ _ _ _ _ us hl => by obtain ⟨_, rfl⟩ := len1 hl; rfl
  have g31 := PySem.W.mg_of X G u31.1
  obtain ⟨d32, F32⟩ := u32.2.get
  have k32 := F32.kp
  have b32 := F32.binds (ps := ["pattern", "pool", "left"]) fun _ _ _ _ _ _ us hl => by obtain ⟨_, _, _, rfl⟩ := len3 hl; rfl
  have g32 := PySem.W.mg_of X G u32.1
  obtain ⟨d33, F33⟩ := u33.2.get
  have k33 := F33.kp
  have b33 := F33.binds (ps := ["pattern", "pool", "left"]) fun _ _ _ _ _ _ us hl => by obtain ⟨_, _, _, rfl⟩ := len3 hl; rfl
  have g33 := PySem.W.mg_of X G u33.1
  obtain ⟨d34, F34⟩ := u34.2.get
  have k34 := F34.kp
  have b34 := F34.binds (ps := ["pattern", "marks", "text"]) fun _ _ _ _ _ _ us hl => by obtain ⟨_, _, _, rfl⟩ := len3 hl; rfl
  have g34 := PySem.W.mg_of X G u34.1
  obtain ⟨d35, F35⟩ := u35.2.get
  have k35 := F35.kp
  have b35 := F35.binds (ps := ["pattern", "tree"]) fun _ _ _ _ _ _ us hl => by obtain ⟨_, _, rfl⟩ := len2 hl; rfl
  have g35 := PySem.W.mg_of X G u35.1
  obtain ⟨d36, F36⟩ := u36.2.get
  have k36 := F36.kp
  have b36 := F36.binds (ps := ["pattern", "tree"]) fun _ _ _ _ _ _ us hl => by obtain ⟨_, _, rfl⟩ := len2 hl; rfl
  have g36 := PySem.W.mg_of X G u36.1
  have x0 := PySem.W.mg_of X G m0
  have x1 := PySem.W.mg_of X G m1
  have x2 := PySem.W.mg_of X G m2
  obtain ⟨_, _, kV, dc, pm, an, cd, ct, _, lL, qL, kL⟩ := u37.2
  have F37 := fun_mk lL qL kL
  refine ⟨PySem.W.fnOf "law" "law" (defArgs xLaw) (defBody xLaw) (defScope xLaw) .none kV dc pm an cd ct, fun s v => .of_eq rfl, fun base _ _ => ?_⟩
  have D := len_get hL nL sL
  have xL := PySem.W.mg_of X G mL
  cases eSIG
  have hC := PySem.W.mg_of X G cg
  have hD := PySem.W.mg_of X G dg
  obtain ⟨cl, n1, n2, n3, n4, xq, hmk, hfn⟩ := cls_of zc
  have mk : Mk K cC f14 := ⟨hmk.1, u14.1, hfn f14 (by simp), hmk.2⟩
  have m15 : Meth K cC "is_used_up" f15 := ⟨u15.1, hfn f15 (by simp), k15⟩
  have m16 : Meth K cC "take_mark" f16 := ⟨u16.1, hfn f16 (by simp), k16⟩
  have m17 : Meth K cC "take_sign" f17 := ⟨u17.1, hfn f17 (by simp), k17⟩
  have m18 : Meth K cC "take_turns" f18 := ⟨u18.1, hfn f18 (by simp), k18⟩
  have m19 : Meth K cC "take_tree" f19 := ⟨u19.1, hfn f19 (by simp), k19⟩
  have C1 : Cal2 l.prog w K mg base 1 "is_whole" f1 _ ["thing"] spWhole := ⟨ok_whole F1 B, b1, k1, g1⟩
  have C1I : Cal2 l.prog w K mg base 1 "is_whole" f1 _ ["thing"] spWholeI := ⟨ok_wholeI F1 B, b1, k1, g1⟩
  have C2 : Cal2 l.prog w K mg base 1 "is_text" f2 _ ["thing"] spText := ⟨ok_text x0 F2 B, b2, k2, g2⟩
  have C3 : Cal2 l.prog w K mg base 2 "is_one_of" f3 _ ["signs", "thing"] spOneOf := ⟨ok_oneOf F3 B C2, b3, k3, g3⟩
  have C7 : Cal2 l.prog w K mg base 1 "is_label" f7 _ ["label", "thing"] spLabel := ⟨ok_label F7 B, b7, k7, g7⟩
  have C8 : ∀ n : Nat, Cal2 l.prog w K mg base (2 * n + 3) "is_tree" f8 d8 ["pattern", "thing"] (spIsTree n) := by
    intro n
    induction n with
    | zero => exact ⟨never_ok fun as G Q h => by obtain ⟨_, _, _, hd, _⟩ := h; omega, b8, k8, g8⟩
    | succ n ih => exact ⟨ok_isTree (k := 2 * n + 3) (by omega) D xL F8 B C3 C7 ⟨ok_treesOf (k := 2 * n + 3) (by omega) F4 B ih, b4, k4, g4⟩ ⟨ok_turnsOf (k := 2 * n + 3) (by omega) F5 B ih, b5, k5, g5⟩ ⟨ok_picked (k := 2 * n + 3) (by omega) F6 B C1 ih, b6, k6, g6⟩ ih, b8, k8, g8⟩
  have C9 : Cal2 l.prog w K mg base 1 "inner_trees" f9 _ ["tree"] spInnT := ⟨ok_innT F9 B, b9, k9, g9⟩
  have C10 : Cal2 l.prog w K mg base 2 "trees_within" f10 _ ["tree"] spWithin := ⟨ok_within F10 B C9, b10, k10, g10⟩
  have C11 : Cal2 l.prog w K mg base 3 "text_of" f11 _ ["tree"] spTextOf := ⟨ok_textOf F11 B C10, b11, k11, g11⟩
  have C12 : Cal2 l.prog w K mg base 2 "marks_and_trees" f12 _ ["tree"] spMT := ⟨ok_mt x1 x2 F12 B C9, b12, k12, g12⟩
  have C13 : Cal2 l.prog w K mg base 3 "marks_of" f13 _ ["tree"] spMarks := ⟨ok_marks F13 B C1I C12, b13, k13, g13⟩
  have oki : Ok2 l.prog w K mg base 1 f14 _ ["self", "marks", "text"] (spInit cC) := ok_init cl n1 n2 n3 n4 F14 B
  have M15 : Met2 l.prog w K mg base cC 1 "is_used_up" f15 _ ["self"] (spUsed cC) := ⟨ok_used cl n1 n2 n3 n4 F15 B, b15, cl, m15⟩
  have M16 : MetX l.prog w K mg base cD cC 1 "take_mark" f16 _ ["self", "choices"] (spTM cC) := ⟨ok_tm cl n1 n2 n3 n4 xq hD F16 B, b16, cl, m16⟩
  have M17 : MetX l.prog w K mg base cD cC 1 "take_sign" f17 _ ["self", "signs"] (spTS cC) := ⟨ok_ts cl n1 n2 n3 n4 xq hD F17 B, b17, cl, m17⟩
  have M19 : ∀ n : Nat, MetX l.prog w K mg base cD cC (2 * n + 2) "take_tree" f19 d19 ["self", "pattern"] (spTT cC n) := by
    intro n
    induction n with
    | zero => exact ⟨never_okX fun as G Q EX h => by obtain ⟨_, _, p, _, _, _, _, _, _, _, hd, _⟩ := h; have := depth_pos p; omega, b19, cl, m19⟩
    | succ n ih => exact ⟨ok_tt (k := 2 * n + 2) (by omega) xq hD F19 B M16 M17 ih ⟨ok_tu (k := 2 * n + 2) (by omega) x1 F18 B M16 ih, b18, cl, m18⟩, b19, cl, m19⟩
  have C20 : CalX l.prog w K mg base cD 17 "tree_by" f20 _ ["pattern", "marks", "text"] (spTB 7) := ⟨ok_tb (k := 16) (by decide) xq hD F20 B mk oki b14 hC (M19 7) M15, b20, k20, g20⟩
  have C21 : Cal2 l.prog w K mg base 1 "_law_pool" f21 _ ["cell"] spPool := ⟨ok_pool F21 B, b21, k21, g21⟩
  have C22 : Cal2 l.prog w K mg base 1 "_law_next" f22 _ ["pool", "base"] spNext := ⟨ok_next F22 B, b22, k22, g22⟩
  have C23 : Cal2 l.prog w K mg base 2 "_law_letters" f23 _ ["pool"] spLetters := ⟨ok_letters F23 B C22, b23, k23, g23⟩
  have C24 : Cal2 l.prog w K mg base 2 "_law_signs" f24 _ ["pool", "letters"] spSigns := ⟨ok_signs F24 B C22, b24, k24, g24⟩
  have C25 : Cal2 l.prog w K mg base 3 "_law_leaf" f25 _ ["pool", "letters", "blank"] spLeaf := ⟨ok_leaf F25 B C22 C24, b25, k25, g25⟩
  have C27 : ∀ n : Nat, Cal2 l.prog w K mg base (2 * n + 3) "_law_pattern" f27 d27 ["pool", "letters", "deep", "room", "blank"] (spPattern n) := by
    intro n
    induction n with
    | zero => exact ⟨never_ok fun as G Q h => by obtain ⟨_, _, _, d, _, _, _, hd, _⟩ := h; omega, b27, k27, g27⟩
    | succ n ih => exact ⟨ok_pattern (k := 2 * n + 3) (by omega) F27 B C22 C25 ih ⟨ok_parts (k := 2 * n + 3) (by omega) F26 B C22 ih, b26, k26, g26⟩, b27, k27, g27⟩
  have C28 : Cal2 l.prog w K mg base 1 "_law_inside" f28 _ ["pattern"] spInside := ⟨ok_inside F28 B, b28, k28, g28⟩
  have C29 : ∀ n : Nat, Cal2 l.prog w K mg base (n + 1) "_law_size" f29 d29 ["pattern"] (spSize n) := by
    intro n
    induction n with
    | zero => exact ⟨never_ok fun as G Q h => by obtain ⟨_, _, hd, _⟩ := h; omega, b29, k29, g29⟩
    | succ n ih => exact ⟨ok_size (k := n + 1) (by omega) F29 B C28 ih, b29, k29, g29⟩
  have C30 : Cal2 l.prog w K mg base 16 "_law_drawn" f30 _ ["pool", "letters"] spDrawn := ⟨ok_drawn (k := 15) (by decide) F30 B C22 (C27 6) C28 (C29 10), b30, k30, g30⟩
  have C31 : Cal2 l.prog w K mg base 1 "_law_inner" f31 _ ["tree"] spLInn := ⟨ok_linn F31 B, b31, k31, g31⟩
  have C33 : ∀ n : Nat, n ≤ 40 → Cal2 l.prog w K mg base (2 * n + 1) "_law_grown" f33 d33 ["pattern", "pool", "left"] (spGrown n) := by
    intro n
    induction n with
    | zero => exact fun _ => ⟨never_ok fun as G Q h => by obtain ⟨_, _, _, _, _, _, hn, _⟩ := h; omega, b33, k33, g33⟩
    | succ n ih => exact fun hn => ⟨ok_grown (k := 2 * n + 1) (by omega) (by omega) F33 B C22 (ih (by omega)) ⟨ok_turns (k := 2 * n + 1) (by omega) F32 B C22 (ih (by omega)), b32, k32, g32⟩, b33, k33, g33⟩
  have C34 : Cal2 l.prog w K mg base 18 "_law_refused" f34 _ ["pattern", "marks", "text"] (spRef 7) := ⟨ok_ref (k := 17) (by decide) xq hD F34 B C20, b34, k34, g34⟩
  have C20x : CalX l.prog w K mg base cD 18 "tree_by" f20 _ ["pattern", "marks", "text"] (spTB 7) := ⟨C20.ok.mono (by decide), b20, k20, g20⟩
  have C8x : Cal2 l.prog w K mg base 18 "is_tree" f8 _ ["pattern", "thing"] (spIsTree 7) := ⟨(C8 7).ok.mono (by decide), b8, k8, g8⟩
  have C35 : Cal2 l.prog w K mg base 20 "_law_holds" f35 _ ["pattern", "tree"] (spHolds 7) := ⟨(ok_holds (k := 18) (by decide) F35 B C13 C11 C20x C8x C34).mono (by decide), b35, k35, g35⟩
  have C36 : Cal2 l.prog w K mg base 2 "_law_beneath" f36 _ ["pattern", "tree"] spBen := ⟨ok_ben F36 B C28 C31, b36, k36, g36⟩
  exact ok_law (n := 7) (k := 20) (by decide) (by decide) F37 B C21 C23 C30 (C33 5 (by decide)) C36 C35
theorem fz_of {K : PySem.W.Frag} {H : Hp} {a : Addr} {xs : List V} (h : SqL K H a xs) (o : Only H) : FzL K H a xs := by
  rcases h with (h | ⟨ob, h⟩) | h
  · rcases o a with e | ⟨ob, ys, e⟩ <;> (rw [e] at h; cases h)
  · exact .inl ⟨ob, h⟩
  · exact .inr h
theorem walk {l : PySem.W.OpenLaw} {q : Program} {loose : List Str} {XP : (Str → Option Value) → Heap → Prop} {YP : World → Heap → Prop} {d : DefRec} {K : Params → PySem.W.Frag} (hn : l.most = some 63) (hdf : d.params.defaults = [])
    (hY : ∀ (w : World) (h : Heap), YP w h → (K w.params).In h)
    (F : ∀ (w : World) (mg : Str → Option Value) (fa : Addr) (h : Heap), (K w.params).In h → h.Ns mainGlobals mg → mg d.name = some (.ref fa) →
      ∃ fd : FuncData, (∀ (s : Shared) (u : Value), BindsTo s fd ⟨[u], []⟩ [("script", u)]) ∧ ∀ base : Heap, (K w.params).In base → base.Ns mainGlobals mg → FnOk l.prog w (K w.params) mg base CX0 21 fa fd ["script"] (spL (K w.params) spLaw)) :
    PySem.W.WalkO q loose XP YP l.row.toRowW d [] (fun f vs => PySem.call f vs) :=
  L2.walk_of (n := 63) (k := 21) (x := "script") (CX := fun _ => CX0) (sp := fun w => spL (K w.params) spLaw) hn (by decide) hdf ⟨rfl, by decide, by decide⟩ hY F
    (fun _ H a ns hl ho hS => ⟨[.ro (ns.map PV.int)], fun _ => none, fun p _ => p = .bl true, .cons ⟨a, _, rfl, fz_of hS ho, ints_Dm ns⟩ .nil, fun _ _ z => (nomatch z), ⟨ns, rfl, hl, fun _ => rfl⟩, fun p G v H' e d _ _ => by subst e; exact d⟩) fun _ _ _ _ _ z => z
end T12
open PySem PySem.W PyProof.Rows
set_option maxRecDepth 100000 in
set_option maxHeartbeats 0 in
theorem PySem.Challenge.cw_tastegrove_k12_whole_made_again_by_marks_holds : PySem.Challenge.rw_tastegrove_k12_whole_made_again_by_marks.Holds := by
  refine T12.tp ⟨⟨⟨T12.h1, T12.h2⟩, T12.h3, T12.h4⟩, ?_⟩
  k_fill
  refine T12.walk (l := PySem.Challenge.rw_tastegrove_k12_whole_made_again_by_marks) rfl rfl (fun w h Y => PySem.W.kIn_of Y) ?F
  case F =>
    intro w mg fa h KX G hmg
    refine' T12.all_mk KX G hmg ?cg ?dg ?u1 ?u2 ?u3 ?u4 ?u5 ?u6 ?u7 ?u8 ?u9 ?u10 ?u11 ?u12 ?u13 ?u14 ?u15 ?u16 ?u17 ?u18 ?u19 ?u20 ?u21 ?u22 ?u23 ?u24 ?u25 ?u26 ?u27 ?u28 ?u29 ?u30 ?u31 ?u32 ?u33 ?u34 ?u35 ?u36 ?u37 ?m0 ?m1 ?m2 ?mL ?nL ?hL ?sL ?eSIG ?zc ?zb
    (case cg => k_is); (case dg => k_is)
    case u1 => exact ⟨by k_is, _, _, _, _, _, _, _, _, _, by k_is, by k_is, by k_is⟩
    case u2 => exact ⟨by k_is, _, _, _, _, _, _, _, _, _, by k_is, by k_is, by k_is⟩
    case u3 => exact ⟨by k_is, _, _, _, _, _, _, _, _, _, by k_is, by k_is, by k_is⟩
    case u4 => exact ⟨by k_is, _, _, _, _, _, _, _, _, _, by k_is, by k_is, by k_is⟩
    case u5 => exact ⟨by k_is, _, _, _, _, _, _, _, _, _, by k_is, by k_is, by k_is⟩
    case u6 => exact ⟨by k_is, _, _, _, _, _, _, _, _, _, by k_is, by k_is, by k_is⟩
    case u7 => exact ⟨by k_is, _, _, _, _, _, _, _, _, _, by k_is, by k_is, by k_is⟩
    case u8 => exact ⟨by k_is, _, _, _, _, _, _, _, _, _, by k_is, by k_is, by k_is⟩
    case u9 => exact ⟨by k_is, _, _, _, _, _, _, _, _, _, by k_is, by k_is, by k_is⟩
    case u10 => exact ⟨by k_is, _, _, _, _, _, _, _, _, _, by k_is, by k_is, by k_is⟩
    case u11 => exact ⟨by k_is, _, _, _, _, _, _, _, _, _, by k_is, by k_is, by k_is⟩
    case u12 => exact ⟨by k_is, _, _, _, _, _, _, _, _, _, by k_is, by k_is, by k_is⟩
    case u13 => exact ⟨by k_is, _, _, _, _, _, _, _, _, _, by k_is, by k_is, by k_is⟩
    case u14 => exact ⟨by k_is, _, _, _, _, _, _, _, _, _, by k_is, by k_is, by k_is⟩
    case u15 => exact ⟨by k_is, _, _, _, _, _, _, _, _, _, by k_is, by k_is, by k_is⟩
    case u16 => exact ⟨by k_is, _, _, _, _, _, _, _, _, _, by k_is, by k_is, by k_is⟩
    case u17 => exact ⟨by k_is, _, _, _, _, _, _, _, _, _, by k_is, by k_is, by k_is⟩
    case u18 => exact ⟨by k_is, _, _, _, _, _, _, _, _, _, by k_is, by k_is, by k_is⟩
    case u19 => exact ⟨by k_is, _, _, _, _, _, _, _, _, _, by k_is, by k_is, by k_is⟩
    case u20 => exact ⟨by k_is, _, _, _, _, _, _, _, _, _, by k_is, by k_is, by k_is⟩
    case u21 => exact ⟨by k_is, _, _, _, _, _, _, _, _, _, by k_is, by k_is, by k_is⟩
    case u22 => exact ⟨by k_is, _, _, _, _, _, _, _, _, _, by k_is, by k_is, by k_is⟩
    case u23 => exact ⟨by k_is, _, _, _, _, _, _, _, _, _, by k_is, by k_is, by k_is⟩
    case u24 => exact ⟨by k_is, _, _, _, _, _, _, _, _, _, by k_is, by k_is, by k_is⟩
    case u25 => exact ⟨by k_is, _, _, _, _, _, _, _, _, _, by k_is, by k_is, by k_is⟩
    case u26 => exact ⟨by k_is, _, _, _, _, _, _, _, _, _, by k_is, by k_is, by k_is⟩
    case u27 => exact ⟨by k_is, _, _, _, _, _, _, _, _, _, by k_is, by k_is, by k_is⟩
    case u28 => exact ⟨by k_is, _, _, _, _, _, _, _, _, _, by k_is, by k_is, by k_is⟩
    case u29 => exact ⟨by k_is, _, _, _, _, _, _, _, _, _, by k_is, by k_is, by k_is⟩
    case u30 => exact ⟨by k_is, _, _, _, _, _, _, _, _, _, by k_is, by k_is, by k_is⟩
    case u31 => exact ⟨by k_is, _, _, _, _, _, _, _, _, _, by k_is, by k_is, by k_is⟩
    case u32 => exact ⟨by k_is, _, _, _, _, _, _, _, _, _, by k_is, by k_is, by k_is⟩
    case u33 => exact ⟨by k_is, _, _, _, _, _, _, _, _, _, by k_is, by k_is, by k_is⟩
    case u34 => exact ⟨by k_is, _, _, _, _, _, _, _, _, _, by k_is, by k_is, by k_is⟩
    case u35 => exact ⟨by k_is, _, _, _, _, _, _, _, _, _, by k_is, by k_is, by k_is⟩
    case u36 => exact ⟨by k_is, _, _, _, _, _, _, _, _, _, by k_is, by k_is, by k_is⟩
    case u37 => exact ⟨by k_is, _, _, _, _, _, _, _, _, _, by k_is, by k_is, by k_is⟩
    (case m0 => k_is)
    (case m1 => k_is)
    (case m2 => k_is)
    (case mL => k_is); (case nL => k_is); (case sL => kernel_rfl); (case eSIG => kernel_rfl)
    (case zc => kernel_rfl)
    (case zb => kernel_rfl)
    case hL =>
      refine ⟨⟨rfl, rfl, rfl⟩, _, _, rfl, ?_, ?_⟩
      · intro e he
        simp only [List.mem_toArray, List.mem_cons, List.not_mem_nil, or_false] at he
        rcases he with rfl | rfl | rfl | rfl | rfl | rfl | rfl <;> exact L3.key_ok _ _
      · exact ⟨⟨_, rfl⟩, ⟨_, rfl⟩, ⟨_, rfl⟩, ⟨_, rfl⟩, ⟨_, rfl⟩, ⟨_, rfl⟩, ⟨_, rfl⟩, ⟨_, rfl⟩, ⟨_, rfl⟩, ⟨_, rfl⟩, ⟨_, rfl⟩, ⟨_, rfl⟩, ⟨_, rfl⟩, ⟨_, rfl⟩, trivial⟩
