import PyProof.Rows.All
import Wide.All
import OpenK.KLine
import OpenK.KOwn
import OpenK.KMore
import OpenK.KMake
import OpenK.KList
import OpenK.KFacts
import OpenK.KDescr
import OpenK.KGet
import OpenK.KCall
import OpenK.KCls
import OpenK.Peek
import OpenK.Lit
import KE.KIsAll
import KE.KItem
import Wide.FinOn
import Lean
import PyProof.EqAt
import PyProof.EqKinds
import PyProof.NeKinds
import PyProof.TupleCall
import PyProof.CollectStr
import PyProof.FactsAll.tuple
import PyProof.Draws
import PyProof.EnumMake
import PyProof.ListTruth
import PyProof.RaisesMany
import PyProof.Rows.SetFrom
import PyProof.StrLawsIn
import PyProof.TupleIter
import PyProof.NsDelKeeps
import PyProof.RulesAs
import PySem.Challenge.RW_tastegrove_k11_trees_by_marks
set_option Elab.async false
set_option linter.all false
set_option maxRecDepth 100000
set_option maxHeartbeats 0
set_option compiler.extract_closed false
set_option genSizeOf false
namespace T11
open PySem
def top(i:Nat):Stmt:=PySem.Challenge.pw_tastegrove_k11_trees_by_marks.main.body.getD i (.Pass ⟨0,0,0,0⟩)
abbrev pw:Program:=PySem.Challenge.pw_tastegrove_k11_trees_by_marks
def vw:Program:={pw with main:={pw.main with body:=[top 1,top 2,top 3,top 4,top 5,top 6,top 7,top 9,top 10,top 11,top 13,top 14,top 15,top 16,top 17,top 18,top 19,top 20,top 21,top 22,top 23,top 24,top 25,top 26,top 27,top 28,top 29,top 30,top 31,top 32,top 33,top 34,top 35]}}
open PySem.W in
theorem left_boot{p q:Program}{loose:List Str}{Xt:Shared→Bool}{α:Type}{Yf:Shared→α}{Ya:World→α}{N:Nat}{g0:Bool}(e:opening p=PySem.W.plainProg p.main.scope.names)(hN:Nat.ble 600 N=true)(f:∀s,fenceModules? p s=some s)
  (h1:∀(w:World) (os:OsState),(PySem.W.topFrom treeTable p w N ⟨PySem.W.boot_heap w.params,Array.mk [],PySem.W.boot_drawn,PySem.W.boot_toks,os⟩).map (fun s=>PySem.W.openSeen q loose (importedModules p.main.body) Xt g0 s)=some (PySem.W.openGood q loose))
  (h2:∀(w:World) (os:OsState),(PySem.W.topFrom treeTable p w N ⟨PySem.W.boot_heap w.params,Array.mk [],PySem.W.boot_drawn,PySem.W.boot_toks,os⟩).map Yf=some (Ya w)):PySem.W.LeftO p q loose Xt Yf Ya N g0:=fun w=>by
 obtain⟨⟨h,gs,d,k,os⟩,e1,e2⟩:=Option.map_eq_some_iff.mp (PySem.W.boot_open e hN f w)
 simp only[Prod.mk.injEq]at e2
 obtain⟨rfl,rfl,rfl,rfl⟩:=e2
 unfold PySem.W.openEnds
 rw[e1]
 show(PySem.W.topFrom treeTable p w N _).map _=_
 have a:=h1 w os
 have b:=h2 w os
 cases t:PySem.W.topFrom treeTable p w N ⟨PySem.W.boot_heap w.params,Array.mk [],PySem.W.boot_drawn,PySem.W.boot_toks,os⟩with
 |none=>rw[t]at a;cases a
 |some x=>
  rw[t]at a b
  simp only[Option.map_some,Option.some.injEq]at a b⊢
  rw[a,b]
theorem helper{A B C:Prop}(f:A→B→C)(hw:A)(call:B):C:=f hw call
def q1{A B W V:Prop}(_:(A∧B)∧W→V):Prop:=A
def q2{A B W V:Prop}(_:(A∧B)∧W→V):Prop:=B
end T11
open PySem PySem.W PyProof.Rows in
local macro_rules | `(tactic| o_head $H) => `(tactic| (apply T11.helper (fun hw hc => holds_open (q := T11.vw) (loose := []) (Xt := fun s => xlAt T11.vw [] s && recOk (RowW.records (OpenRow.toRowW (OpenLaw.row PySem.Challenge.rw_tastegrove_k11_trees_by_marks))) s) (XP := XL T11.vw []) (Yf := Hook.obs $H) (Ya := Hook.val $H) (YP := Hook.says $H) (N := 5356) (T11.left_boot (by rfl) (by decide) (fun _ => by rfl) (And.left (And.left hc)) (And.right (And.left hc))) (Hook.of $H) (Hook.keeps $H) (fun s e => xl_of s (Bool.and_eq_true_iff.mp e).1) XL.keeps (by rfl) (by rfl) (by rfl) (fun s e => recFacts_of (Bool.and_eq_true_iff.mp e).2) (by rfl) (by first | assumption | decide +kernel) (by decide +kernel) ⟨rfl, rfl, rfl, rfl, rfl, by decide +kernel⟩ hw (And.right hc))))
open PySem PySem.W PyProof.Rows in
open_top T11.tp for PySem.Challenge.rw_tastegrove_k11_trees_by_marks
theorem T11.h1:T11.q1 @T11.tp:=by
 unfold T11.q1
 intro w os
 kernel_rfl
theorem T11.h2:T11.q2 @T11.tp:=by
 unfold T11.q2
 intro w os
 kernel_rfl
namespace L2
open PySem PySem.Spec PyProof.Rows
noncomputable abbrev Key:=Sum Int Str
noncomputable def keyIs:Key→Value→Bool
 | .inl k,v=>Value.isInt k v
 | .inr x,v=>Value.isStrOf x v
noncomputable def keyH(w:World):Key→Int
 | .inl k=>hashInt k
 | .inr x=>hashStr w x
theorem keyIs_shape:∀{k:Key} {v:Value},keyIs k v=true→(∃i t,k=Sum.inl i∧v=Value.int i t)∨(∃x t,k=Sum.inr x∧v=Value.str x t)
 | .inl i,v,h=>by
  obtain⟨t,e⟩:=Value.isInt_shape (k:=i) (v:=v) h
  exact .inl ⟨i,t,rfl,e⟩
 | .inr x,v,h=>by
  obtain⟨t,e⟩:=Value.isStrOf_shape (x:=x) (v:=v) h
  exact .inr ⟨x,t,rfl,e⟩
theorem keyIs_int(i:Int)(t:Tok):keyIs (.inl i) (.int i t)=true:=by simp[keyIs,Value.isInt]
theorem keyIs_str(x:Str)(t:Tok):keyIs (.inr x) (.str x t)=true:=by simp[keyIs,Value.isStrOf]
theorem key_ll(a b:Int):decide ((Sum.inl a:Key)=Sum.inl b)=(a==b):=by
 by_cases e:a=b
 ·subst e;simp
 ·have h:¬(Sum.inl a:Key)=Sum.inl b:=fun q=>e (Sum.inl.inj q)
  rw[decide_eq_false h]
  exact(beq_eq_false_iff_ne.mpr e).symm
theorem key_rr(a b:Str):decide ((Sum.inr a:Key)=Sum.inr b)=decide (a=b):=by
 by_cases e:a=b
 ·subst e;simp
 ·have h:¬(Sum.inr a:Key)=Sum.inr b:=fun q=>e (Sum.inr.inj q)
  rw[decide_eq_false h,decide_eq_false e]
theorem key_lr(a:Int)(b:Str):decide ((Sum.inl a:Key)=Sum.inr b)=false:=decide_eq_false (fun q=>nomatch q)
theorem key_rl(a:Str)(b:Int):decide ((Sum.inr a:Key)=Sum.inl b)=false:=decide_eq_false (fun q=>nomatch q)
noncomputable def mixKind(prog:Program)(w:World):PySem.KeyKind prog w Key where
 is:=keyIs
 hash:=keyH w
 inj:=fun v a b ha hb=>by
  rcases keyIs_shape ha with⟨i,t,rfl,rfl⟩|⟨x,t,rfl,rfl⟩
  ·rcases keyIs_shape hb with⟨j,u,rfl,e⟩|⟨y,u,rfl,e⟩
   ·injection e with e1 _;rw[e1]
   ·exact nomatch e
  ·rcases keyIs_shape hb with⟨j,u,rfl,e⟩|⟨y,u,rfl,e⟩
   ·exact nomatch e
   ·injection e with e1 _;rw[e1]
 byValue:=fun k v h=>by
  rcases keyIs_shape h with⟨i,t,rfl,rfl⟩|⟨x,t,rfl,rfl⟩<;>rfl
 pyHash:=fun hv h=>by
  rcases keyIs_shape hv with⟨i,t,rfl,rfl⟩|⟨x,t,rfl,rfl⟩
  ·exact wpAny_pyHash_int h
  ·exact wpAny_pyHash_str h
 eqBool:=fun hu hv h=>by
  rcases keyIs_shape hu with⟨i,t,rfl,rfl⟩|⟨x,t,rfl,rfl⟩
  ·rcases keyIs_shape hv with⟨j,u,rfl,rfl⟩|⟨y,u,rfl,rfl⟩
   ·rw[key_ll]at h;exact wpAny_eqBool_int h
   ·rw[key_lr]at h;exact SeqAt.EqAt.int_str i t y u _ _ _ _ h
  ·rcases keyIs_shape hv with⟨j,u,rfl,rfl⟩|⟨y,u,rfl,rfl⟩
   ·rw[key_rl]at h;exact SeqAt.EqAt.str_int x t j u _ _ _ _ h
   ·rw[key_rr]at h;exact wpAny_eqBool_str h
 «strs»:=fun k x t v h=>by
  rcases keyIs_shape h with⟨i,u,rfl,e⟩|⟨y,u,rfl,e⟩
  ·exact nomatch e
  ·injection e with e1 _
   subst e1
   cases v<;>rfl
theorem mixKind_int(prog:Program)(w:World)(i:Int)(t:Tok):(mixKind prog w).is (.inl i) (.int i t)=true:=keyIs_int i t
theorem mixKind_str(prog:Program)(w:World)(x:Str)(t:Tok):(mixKind prog w).is (.inr x) (.str x t)=true:=keyIs_str x t
end L2
namespace L2
open PySem PySem.Spec PyProof.Rows
inductive V where
 |non|bl (b:Bool)|int (i:Int)|str (x:Str)|byt (b:Array UInt8)|flt (b:UInt64)|ref (a:Addr)|ty (n:String)
 deriving DecidableEq
noncomputable def RelV:V→Value→Prop
 | .non,u=>u=Value.none
 | .bl b,u=>u=Value.bool b
 | .int i,u=>∃t,u=Value.int i t
 | .str x,u=>∃t,u=Value.str x t
 | .byt b,u=>∃t,u=Value.bytes b t
 | .flt b,u=>∃t,u=Value.float b t
 | .ref a,u=>u=Value.ref a
 | .ty n,u=>u=Value.type n
noncomputable abbrev Vals:List V→List Value→Prop:=Paired RelV
theorem Vals.length{xs:List V}{us:List Value}(r:Vals xs us):xs.length=us.length:=Paired.length r
theorem Vals.get:∀{xs:List V} {us:List Value} {i:Nat} {x:V},Vals xs us→xs[i]? =some x→∃u,us[i]? =some u∧RelV x u
 |_,_,_,_,.nil,e=>by simp at e
 |_,_,0,_,.cons r _,e=>by simp at e;subst e;exact⟨_,rfl,r⟩
 |_,_,i+1,x,.cons _ t,e=>by
  obtain⟨u,h1,h2⟩:=Vals.get (i:=i) (x:=x) t (by simpa using e)
  exact⟨u,by simpa using h1,h2⟩
theorem Vals.set{x:V}{u:Value}(r:RelV x u):∀{xs:List V} {us:List Value} (i:Nat),Vals xs us→Vals (xs.set i x) (us.set i u)
 |_,_,_,.nil=> .nil
 |_,_,0,.cons _ t=> .cons r t
 |_,_,i+1,.cons q t=> .cons q (Vals.set r i t)
theorem Vals.append:∀{xs ys:List V} {us ws:List Value},Vals xs us→Vals ys ws→Vals (xs++ys) (us++ws)
 |_,_,_,_,.nil,s=>s
 |_,_,_,_,.cons r t,s=> .cons r (Vals.append t s)
theorem Vals.take:∀{xs:List V} {us:List Value} (n:Nat),Vals xs us→Vals (xs.take n) (us.take n)
 |_,_,0,_=> .nil
 |_,_,_+1,.nil=> .nil
 |_,_,n+1,.cons r t=> .cons r (Vals.take n t)
theorem Vals.drop:∀{xs:List V} {us:List Value} (n:Nat),Vals xs us→Vals (xs.drop n) (us.drop n)
 |_,_,0,r=>r
 |_,_,_+1,.nil=> .nil
 |_,_,n+1,.cons _ t=>Vals.drop n t
noncomputable def RelO:Option V→Option Value→Prop
 |some v,some u=>RelV v u
 |none,none=>True
 |_,_=>False
noncomputable def KV{κ:Type}:List (κ×V)→List (κ×Value)→Prop:=Paired fun(p:κ×V) (q:κ×Value)=>p.1=q.1∧RelV p.2 q.2
noncomputable def kV:Key→V
 | .inl i=> .int i
 | .inr x=> .str x
inductive HO where
  |lst (xs:List V)
  |tup (xs:List V)
  |dK (kvs:List (Key×V))|dT (kvs:List (List Key×V))
  |set (S:Int→Bool) (n:Nat)
  |ins (C dx:Addr) (fs:List (Str×V))
  |own (x:Addr)
  |xd (fs:List (Str×V))
  |met (f x:Addr)
  |rng (lo hi:Int)
  |frz (o:Obj) (u:HO)
  |tbl (ps:Array Value)
  |ext (φ:Heap→Prop)
noncomputable abbrev Hp:=Addr→Option HO
noncomputable def upd(H:Hp)(a:Addr)(o:HO):Hp:=fun b=>if b=a then some o else H b
theorem upd_same{H:Hp}{a:Addr}{o:HO}:upd H a o a=some o:=by unfold upd;rw[if_pos rfl]
theorem upd_ne{H:Hp}{a b:Addr}{o:HO}(h:b≠a):upd H a o b=H b:=by unfold upd;rw[if_neg h]
theorem ne_of_none{H:Hp}{a b:Addr}{o:HO}(h:H a=some o)(h':H b=none):a≠b:=by
 intro e;subst e;rw[h]at h';cases h'
section
variable(P:Program)(w:World)
noncomputable def ObjOk(H:Hp)(h:Heap)(a:Addr):HO→Prop
 | .lst xs=>xs.length≤sizeLine∧∃(its:List Value) (n:Nat),Vals xs its∧h.get? a=some {cls:= .type "list",data:= .seq its.toArray n}
 | .tup xs=>xs.length≤sizeLine∧∃its:List Value,Vals xs its∧IsTup h a its.toArray
 | .dK kvs=>kvs.length≤sizeLine∧(a==sysModules)=false∧∃vs,KV kvs vs∧h.DictOf (mixKind P w) a vs
 | .dT kvs=>kvs.length≤sizeLine∧(a==sysModules)=false∧∃xs:List (List Key×Addr×Value),
   Paired (fun(p:List Key×V) (q:List Key×Addr×Value)=>p.1=q.1∧H q.2.1=some (.tup (p.1.map kV))∧RelV p.2 q.2.2) kvs xs∧
   ∃o es ep,h.get? a=some o∧o.ExactDict∧o.data= .dict es ep∧es.toList=xs.map (entryOfKey (tupleKind (mixKind P w)))∧(xs.map (·.1)).Nodup
 | .set S n=>h.SetOf (intKind P w) a S n
 | .ins C dx fs=>H dx=some (.own a)∧fs.length≤1000∧dx≠a∧h.get? a=some (PySem.W.instObj C dx)∧
   ∃mA,h.Ns1 dx mA∧(∀f,RelO (fs.lookup f) (mA f))∧PySem.Within mA (fs.map (·.1))
 | .own _=>∃o,h.get? a=some o
 | .xd fs=>∃mA,h.Ns1 a mA∧∀f,RelO (fs.lookup f) (mA f)
 | .rng lo hi=>∃t u v,h.get? a=some {cls:= .type "range",data:= .fields #[.int lo t,.int hi u,.int 1 v]}
 | .frz o u=>h.get? a=some o∧ObjOk H h a u
 | .tbl ps=>h.get? a=some {cls:= .none,data:= .fields ps}
 | .met f x=>h.get? a=some (PySem.W.methodObj (.ref f) (.ref x))
 | .ext φ=>φ h∧(∃o,h.get? a=some o)∧∀h1 h2:Heap,φ h1→(∀o,h1.get? a=some o→h2.get? a=some o)→φ h2
noncomputable def HOk(H:Hp)(h:Heap):Prop:=∀a o,H a=some o→ObjOk P w H h a o
end
section
variable{P:Program}{w:World}{H H':Hp}{h h':Heap}{a:Addr}{o:HO}
theorem ObjOk.lt(x:ObjOk P w H h a o):a<h.objs.size:=by
 cases o with
 |lst xs=>obtain⟨_,_,_,_,e⟩:=x;exact Heap.lt_size e
 |tup xs=>obtain⟨_,_,_,p⟩:=x;exact p.lt
 |dK kvs=>obtain⟨_,_,_,_,o,_,_,e,_⟩:=x;exact Heap.lt_size e
 |dT kvs=>obtain⟨_,_,_,_,o,_,_,e,_⟩:=x;exact Heap.lt_size e
 |set S n=>obtain⟨o,_,_,_,e,_⟩:=x;exact Heap.lt_size e
 |ins C dx fs=>obtain⟨_,_,_,e,_⟩:=x;exact Heap.lt_size e
 |own y=>obtain⟨_,e⟩:=x;exact Heap.lt_size e
 |xd fs=>obtain⟨_,⟨_,_,_,e,_⟩,_⟩:=x;exact Heap.lt_size e
 |rng lo hi=>obtain⟨_,_,_,e⟩:=x;exact Heap.lt_size e
 |frz ob u=>obtain⟨e,_⟩:=x;exact Heap.lt_size e
 |tbl ps=>exact Heap.lt_size (show h.get? a=some _ from x)
 |met f y=>exact Heap.lt_size (show h.get? a=some _ from x)
 |ext φ=>obtain⟨_,⟨_,e⟩,_⟩:=x;exact Heap.lt_size e
theorem Paired.mapP{α β:Type}{F G:α→β→Prop}:∀{l₁:List α} {l₂:List β},Paired F l₁ l₂→(∀a b,F a b→G a b)→Paired G l₁ l₂
 |_,_,.nil,_=> .nil
 |_,_,.cons r t,f=> .cons (f _ _ r) (Paired.mapP t f)
theorem ObjOk.stay(x:ObjOk P w H h a o)(k:∀b u,(b=a∨H b=some (.own a))→h.get? b=some u→h'.get? b=some u)
  (ho:∀b,H b=some (.own a)→H' b=some (.own a)) (ht:∀b xs,H b=some (.tup xs)→H' b=some (.tup xs)):ObjOk P w H' h' a o:=by
 induction o with
 |lst xs=>obtain⟨z,its,n,r,e⟩:=x;exact⟨z,its,n,r,k _ _ (.inl rfl) e⟩
 |tup xs=>obtain⟨z,its,r,ob,e,c⟩:=x;exact⟨z,its,r,ob,k _ _ (.inl rfl) e,c⟩
 |dK kvs=>obtain⟨z,y,vs,r,ob,es,ep,e,c⟩:=x;exact⟨z,y,vs,r,ob,es,ep,k _ _ (.inl rfl) e,c⟩
 |dT kvs=>
  obtain⟨z,y,xs,r,ob,es,ep,e,c⟩:=x
  exact⟨z,y,xs,Paired.mapP r fun p q z=>⟨z.1,ht _ _ z.2.1,z.2.2⟩,ob,es,ep,k _ _ (.inl rfl) e,c⟩
 |set S n=>obtain⟨ob,es,ep,t,e,c⟩:=x;exact⟨ob,es,ep,t,k _ _ (.inl rfl) e,c⟩
 |ins C dx fs=>
  obtain⟨d,z,ne,e,mA,⟨od,es,ep,e2,c⟩,r⟩:=x
  exact⟨ho _ d,z,ne,k _ _ (.inl rfl) e,mA,⟨od,es,ep,k _ _ (.inr d) e2,c⟩,r⟩
 |own y=>obtain⟨ob,e⟩:=x;exact⟨ob,k _ _ (.inl rfl) e⟩
 |xd fs=>obtain⟨mA,⟨od,es,ep,e,c⟩,r⟩:=x;exact⟨mA,⟨od,es,ep,k _ _ (.inl rfl) e,c⟩,r⟩
 |rng lo hi=>obtain⟨t,u,v,e⟩:=x;exact⟨t,u,v,k _ _ (.inl rfl) e⟩
 |frz ob u ih=>obtain⟨e,q⟩:=x;exact⟨k _ _ (.inl rfl) e,ih q⟩
 |tbl ps=>
  have e:h.get? a=some {cls:= .none,data:= .fields ps}:=x
  show h'.get? a=some {cls:= .none,data:= .fields ps}
  exact k a _ (.inl rfl) e
 |met f y=>
  have e:h.get? a=some (PySem.W.methodObj (.ref f) (.ref y)):=x
  show h'.get? a=some (PySem.W.methodObj (.ref f) (.ref y))
  exact k a _ (.inl rfl) e
 |ext φ=>obtain⟨p,⟨o,e⟩,st⟩:=x;exact⟨st _ _ p fun o q=>k _ _ (.inl rfl) q,⟨o,k _ _ (.inl rfl) e⟩,st⟩
theorem HOk.lt(x:HOk P w H h)(e:H a=some o):a<h.objs.size:=(x a o e).lt
theorem HOk.fresh(x:HOk P w H h)(e:h.objs.size≤a):H a=none:=by
 cases q:H a with
 |none=>rfl
 |some u=>exact absurd (Nat.lt_of_lt_of_le (x.lt q) e) (Nat.lt_irrefl _)
theorem HOk.kept(x:HOk P w H h)(k:∀b u,h.get? b=some u→h'.get? b=some u):HOk P w H h':=fun a o e=>
 (x a o e).stay (fun b u _ q=>k b u q) (fun _ q=>q) fun _ _ q=>q
theorem HOk.laid(x:HOk P w H h)(k:∀b u,h.get? b=some u→h'.get? b=some u)(hp:h.objs.size≤a)(new:ObjOk P w (upd H a o) h' a o):HOk P w (upd H a o) h':=fun b u e=>by
 have hn:=x.fresh hp
 by_cases hb:b=a
 ·subst hb;rw[upd_same]at e;cases e;exact new
 ·rw[upd_ne hb]at e
  exact(x b u e).stay (fun c v _ q=>k c v q) (fun c q=>by rw[upd_ne (ne_of_none q hn)];exact q) fun c xs q=>by rw[upd_ne (ne_of_none q hn)];exact q
end
noncomputable def Rd(H:Hp)(a:Addr)(u:HO):Prop:=H a=some u∨∃o,H a=some (.frz o u)
theorem Rd.ok{P:Program}{w:World}{H:Hp}{h:Heap}{a:Addr}{u:HO}(r:Rd H a u)(x:HOk P w H h):ObjOk P w H h a u:=by
 rcases r with r|⟨o,r⟩
 ·exact x a u r
 ·obtain⟨_,q⟩:=x a _ r
  exact q
noncomputable def Mut:Option HO→Prop
 |some (.lst _)=>True
 |some (.dK _)=>True
 |some (.dT _)=>True
 |some (.set _ _)=>True
 |some (.ins _ _ _)=>True
 |some (.ext _)=>True
 |_=>False
section
variable{P:Program}{w:World}{H:Hp}{h h':Heap}{x e:Addr}{o':HO}
theorem HOk.write(ok:HOk P w H h)(mu:Mut (H x))(he:e=x∨H e=some (.own x))(k:∀b u,b≠e→h.get? b=some u→h'.get? b=some u)(heo:∃u,h'.get? e=some u)
  (new:ObjOk P w (upd H x o') h' x o'):HOk P w (upd H x o') h':=fun b u q=>by
 have nown:∀c y,H c=some (.own y)→c≠x:=fun c y r z=>by subst z;rw[r]at mu;exact mu
 have ntup:∀c xs,H c=some (.tup xs)→c≠x:=fun c xs r z=>by subst z;rw[r]at mu;exact mu
 by_cases hb:b=x
 ·subst hb;rw[upd_same]at q;cases q;exact new
 ·rw[upd_ne hb]at q
  by_cases hbe:b=e
  ·have q':H b=some (.own x):=by
    rcases he with z|z
    ·exact absurd (hbe.trans z) hb
    ·rw[hbe];exact z
   rw[q]at q';cases q'
   obtain⟨v,hv⟩:=heo
   exact⟨v,by rw[hbe];exact hv⟩
  ·refine(ok b u q).stay (fun c v hc r=>k c v ?_ r) (fun c r=>by rw[upd_ne (nown c b r)];exact r) fun c xs r=>by rw[upd_ne (ntup c xs r)];exact r
   rcases hc with rfl|hc
   ·exact hbe
   ·rintro rfl
    rcases he with z|z
    ·exact nown c b hc z
    ·rw[hc]at z;cases z;exact hb rfl
end
structure Un(fs ex:List Addr)(H H':Hp)(h h':Heap):Prop where
 keep:∀b o,h.get? b=some o→H b=none→b∉fs→b∉ex→h'.get? b=some o
 slot:∀b o,h.get? b=some o→H b=none→b∈fs→b∉ex→∃sl,h'.get? b=some {o with slots:=sl}
 free:∀b o,h.get? b=some o→H b=none→b∉ex→H' b=none
 there:∀b o,h.get? b=some o→b∉ex→∃o',h'.get? b=some o'
 tups:∀b xs,H b=some (.tup xs)→H' b=some (.tup xs)
 frzs:∀b o u,H b=some (.frz o u)→H' b=some (.frz o u)
 tbls:∀b ps,H b=some (.tbl ps)→∃more,H' b=some (.tbl (ps++more))
section
variable{fs fs' ex ex':List Addr}{H H1 H2:Hp}{h h1 h2 h':Heap}{a x e:Addr}{o:HO}
theorem Un.any(u:Un fs ex H H1 h h1){b:Addr}{ob:Obj}(q:h.get? b=some ob)(n:H b=none)(hx:b∉ex):∃sl,h1.get? b=some {ob with slots:=sl}:=by
 by_cases hb:b∈fs
 ·exact u.slot b ob q n hb hx
 ·exact⟨ob.slots,u.keep b ob q n hb hx⟩
theorem Un.kept(k:∀b u,h.get? b=some u→h'.get? b=some u):Un fs ex H H h h':=
 ⟨fun b ob q _ _ _=>k b ob q,fun b ob q _ _ _=>⟨ob.slots,k b ob q⟩,fun _ _ _ n _=>n,fun b ob q _=>⟨ob,k b ob q⟩,fun _ _ q=>q,fun _ _ _ q=>q,fun _ ps q=>⟨#[],by rw[q];simp⟩⟩
theorem Un.refl:Un fs ex H H h h:=Un.kept fun _ _ q=>q
theorem Un.laid(k:∀b u,h.get? b=some u→h'.get? b=some u)(hp:h.objs.size≤a)(hn:H a=none):Un fs ex H (upd H a o) h h' where
 keep:=fun b u q _ _ _=>k b u q
 slot:=fun b u q _ _ _=>⟨u.slots,k b u q⟩
 free:=fun b u q n _=>by rw[upd_ne (Nat.ne_of_lt (Nat.lt_of_lt_of_le (Heap.lt_size q) hp))];exact n
 there:=fun b u q _=>⟨u,k b u q⟩
 tups:=fun b xs q=>by rw[upd_ne (ne_of_none q hn)];exact q
 frzs:=fun b u xs q=>by rw[upd_ne (ne_of_none q hn)];exact q
 tbls:=fun b ps q=>⟨#[],by rw[upd_ne (ne_of_none q hn),q];simp⟩
theorem Un.write(mu:Mut (H x))(he:e=x∨H e=some (.own x))(k:∀b u,b≠e→h.get? b=some u→h'.get? b=some u)(heo:∃u,h'.get? e=some u):Un fs ex H (upd H x o) h h':=by
 have hx:∀b,H b=none→b≠x:=fun b n z=>by subst z;rw[n]at mu;exact mu
 have hb:∀b,H b=none→b≠e:=fun b n z=>by
  subst z
  rcases he with r|r
  ·exact hx b n r
  ·rw[n]at r;cases r
 have hm:∀b u,H b=some u→¬Mut (some u)→b≠x:=fun b u q nm z=>by subst z;rw[q]at mu;exact nm mu
 refine⟨fun b u q n _ _=>k b u (hb b n) q,fun b u q n _ _=>⟨u.slots,k b u (hb b n) q⟩,fun b u q n _=>by rw[upd_ne (hx b n)];exact n,fun b u q _=> ?_,
  fun b xs q=>by rw[upd_ne (hm b _ q fun z=>z)];exact q,fun b u xs q=>by rw[upd_ne (hm b _ q fun z=>z)];exact q,fun b ps q=>⟨#[],by rw[upd_ne (hm b _ q fun z=>z),q];simp⟩⟩
 by_cases hbe:b=e
 ·subst hbe;exact heo
 ·exact⟨u,k b u hbe q⟩
end
noncomputable def trk(h:Heap)(H:Hp):List Addr:=(List.range h.objs.size).filter fun a=>(H a).isSome
noncomputable def hidT(h:Heap)(H:Hp):Heap:=PySem.W.hideAll h (trk h H)
theorem hidT_size(h:Heap)(H:Hp):(hidT h H).objs.size=h.objs.size:=PySem.W.hideAll_size _ _
theorem hidT_get{h:Heap}{H:Hp}{b:Addr}{o:Obj}(e:h.get? b=some o)(n:H b=none):(hidT h H).get? b=some o:=
 PySem.W.hideAll_get _ e fun hm=>by
  have q:(H b).isSome=true:=(List.mem_filter.mp hm).2
  rw[n]at q;simp at q
theorem of_hidT{h:Heap}{H:Hp}{b:Addr}{o:Obj}(e:(hidT h H).get? b=some o):h.get? b=some o∧H b=none:=by
 have e':h.get? b=some o:=PySem.W.of_hideAll (trk h H) e
 refine⟨e',?_⟩
 cases q:H b with
 |none=>rfl
 |some x=>
  have hm:b∈trk h H:=List.mem_filter.mpr ⟨List.mem_range.mpr (Heap.lt_size e'),by simp[q]⟩
  have z:(hidT h H).get? b=none:=PySem.W.hideAll_none (trk h H) hm
  rw[z]at e;cases e
end L2
namespace L2
open PySem PySem.Spec PyProof.Rows
structure Mod(K:PySem.W.Frag)(mg:Str→Option Value)(base:Heap):Prop where
 kin:K.In base
 glob:base.Ns mainGlobals mg
 blt:∃mb,base.Ns builtinsNs mb∧∀x:Str,x≠ "__name__" →mb x=bootBuiltins x
 nolimit:base.NoLimit
structure Cx where
 prog:Program
 w:World
 K:PySem.W.Frag
 mg:Str→Option Value
 base:Heap
 A:Around
 N:List Str
 s₀:Shared
 H₀:Hp
 env:Env
 outer:List Env
 stack:List Env
 ex:List Addr
 fn:Str→Bool
 calm:Bool
 pn:List (Addr×Obj)
 xe:Value→Shared→Prop
noncomputable def frs(l:List Env):List Addr:=l.filterMap (·.frame)
noncomputable abbrev Cx.fs(X:Cx):List Addr:=frs X.outer
noncomputable def Vis(sc:Scope)(x:Str):Prop:=sc.names.lookup x=some .local∨sc.names.lookup x=some .cell∨sc.names.lookup x=some .free
noncomputable def Loc(sc:Scope)(x:Str):Prop:=sc.names.lookup x=some .local∨sc.names.lookup x=some .cell
noncomputable def Look(env:Env)(h:Heap)(m:Str→Option Value)(x:Str)(u:Value):Prop:=
 (env.kindOf x=some .local∧m x=some u)∨((env.kindOf x=some .cell∨env.kindOf x=some .free)∧∃c,env.cells.lookup x=some c∧h.IsCell c (some u))
structure Cx.Ok(X:Cx):Prop where
 mod:Mod X.K X.mg X.base
 kind:X.env.scope.kind= .function
 glob:X.env.globals=mainGlobals
 blt:X.env.builtins=builtinsNs
 above:X.s₀.heap.objs.size≤X.env.locals
 inj:∀x y c,X.env.cells.lookup x=some c→X.env.cells.lookup y=some c→x=y
 has:∀x,(X.env.kindOf x=some .cell∨X.env.kindOf x=some .free)→∃c,X.env.cells.lookup x=some c
 cab:∀x c,X.fn x=true→X.env.cells.lookup x=some c→X.s₀.heap.objs.size≤c
 hd:X.calm=true→X.A.handled=none
 frames:X.A.frames=some X.stack
 stk:X.stack=X.outer∨(X.stack=X.env::X.outer∧X.env.frame=some X.env.locals)
 exf:∀b∈X.ex,b≠X.env.locals∧∀x c,X.env.cells.lookup x=some c→c≠b
 bs:∀b o,X.base.get? b=some o→X.s₀.heap.get? b=some o∧X.H₀ b=none
 bsz:X.base.objs.size≤X.s₀.heap.objs.size
 noex:∀b o,X.base.get? b=some o→b∉X.ex
 exfs:∀b∈X.ex,b∉X.fs
 funs:X.s₀.heap.FunFrames X.base X.outer
 frf:∀b∈X.fs,X.H₀ b=none
structure Inv(X:Cx)(pins:List (Addr×Obj))(σ:List (Option V))(H:Hp)(s:Shared):Prop where
 ok:X.Ok
 os:s.os=X.s₀.os
 bare:AllBare s.gens
 base:Un X.fs X.ex X.H₀ H X.s₀.heap s.heap
 loc:∃m,s.heap.Ns X.env.locals m∧∀(i:Nat) (x:Str) (v:V),X.N[i]? =some x→σ[i]? =some (some v)→Vis X.env.scope x→∃u,RelV v u∧Look X.env s.heap m x u
 cell:∀x c,X.env.cells.lookup x=some c→∃v,s.heap.IsCell c v
 free:H X.env.locals=none
 freeC:∀x c,X.env.cells.lookup x=some c→H c=none
 pin:∀p∈X.pn++pins,s.heap.get? p.1=some p.2∧H p.1=none∧p.1≠X.env.locals∧p.1∉X.fs∧∀v,p.2.data≠ .cell v
 hok:HOk X.prog X.w H s.heap
 len:σ.length=X.N.length
section
variable{X:Cx}{pins:List (Addr×Obj)}{σ:List (Option V)}{H H':Hp}{s:Shared}{h':Heap}
theorem Cx.Ok.nofr(ok:X.Ok){b:Addr}{o:Obj}(e:X.base.get? b=some o):b∉X.fs:=fun hb=>by
 have:=(ok.funs.mem hb).1
 rw[e]at this;cases this
theorem Inv.bs(I:Inv X pins σ H s):∀b o,X.base.get? b=some o→s.heap.get? b=some o∧H b=none:=fun b o e=>
 ⟨I.base.keep b o (I.ok.bs b o e).1 (I.ok.bs b o e).2 (I.ok.nofr e) (I.ok.noex b o e),I.base.free b o (I.ok.bs b o e).1 (I.ok.bs b o e).2 (I.ok.noex b o e)⟩
theorem Inv.bk(I:Inv X pins σ H s):∀b o,X.base.get? b=some o→s.heap.get? b=some o:=fun b o e=>(I.bs b o e).1
theorem Inv.mod(I:Inv X pins σ H s):Mod X.K X.mg X.base:=I.ok.mod
theorem Inv.kIn(I:Inv X pins σ H s):X.K.In s.heap:=I.ok.mod.kin.keeps I.bk
theorem Inv.lt(I:Inv X pins σ H s):X.env.locals<s.heap.objs.size:=let⟨_,hn,_⟩:=I.loc;hn.lt
theorem Inv.sz(I:Inv X pins σ H s):X.s₀.heap.objs.size≤s.heap.objs.size:=Nat.le_trans I.ok.above (Nat.le_of_lt I.lt)
theorem Inv.nofs(I:Inv X pins σ H s){a:Addr}(h:s.heap.objs.size≤a):a∉X.fs:=fun hb=>by
 obtain⟨_,o,ho,_⟩:=I.ok.funs.mem hb
 exact absurd (Nat.lt_of_lt_of_le (Heap.lt_size ho) (Nat.le_trans I.sz h)) (Nat.lt_irrefl _)
theorem Inv.cne(I:Inv X pins σ H s):∀x c,X.env.cells.lookup x=some c→c≠X.env.locals:=fun x c e z=>by
 obtain⟨v,o,ho,hd⟩:=I.cell x c e
 obtain⟨m,⟨o',es,ep,ho',hd',_⟩,_⟩:=I.loc
 rw[z,ho']at ho;cases ho;rw[hd']at hd;cases hd
theorem Inv.funs(I:Inv X pins σ H s):s.heap.FunFrames X.base X.outer:=by
 have all:∀(l:List Env),(∀b∈frs l,b∈X.fs)→X.s₀.heap.FunFrames X.base l→s.heap.FunFrames X.base l:=by
  intro l
  induction l with
  |nil=>intro _ _;trivial
  |cons env r ih=>
   intro hs hl
   obtain⟨hk,⟨L,o,hf,hn,ho,hd⟩,hr⟩:=hl
   have hL:L∈X.fs:=hs L (by unfold frs;rw[List.filterMap_cons,hf];exact List.mem_cons_self)
   obtain⟨sl,e⟩:=I.base.slot L o ho (I.ok.frf L hL) hL fun z=>I.ok.exfs L z hL
   exact⟨hk,⟨L,_,hf,hn,e,hd⟩,ih (fun b hb=>hs b (by unfold frs;rw[List.filterMap_cons,hf];exact List.mem_cons_of_mem _ hb)) hr⟩
 exact all X.outer (fun _ hb=>hb) I.ok.funs
theorem Inv.stack(I:Inv X pins σ H s):s.heap.FunFrames X.base X.stack:=by
 rcases I.ok.stk with e|⟨e,hf⟩
 ·rw[e];exact I.funs
 ·rw[e]
  obtain⟨m,hn,_⟩:=I.loc
  refine .cons (by rw[I.ok.kind];decide) hf hn ?_ I.funs
  exact Heap.get?_none_of_le (Nat.le_trans I.ok.bsz I.ok.above)
theorem Inv.stkSub(I:Inv X pins σ H s):∀b∈frs X.stack,b∈X.env.locals::X.fs:=fun b hb=>by
 rcases I.ok.stk with e|⟨e,hf⟩
 ·rw[e]at hb;exact List.mem_cons_of_mem _ hb
 ·rw[e]at hb
  unfold frs at hb
  rw[List.filterMap_cons,hf]at hb
  exact hb
theorem Inv.stkFree(I:Inv X pins σ H s):∀b∈frs X.stack,H b=none:=fun b hb=>by
 rcases List.mem_cons.mp (I.stkSub b hb)with e|hb
 ·rw[e];exact I.free
 ·obtain⟨_,o,ho,_⟩:=I.ok.funs.mem hb
  exact I.base.free b o ho (I.ok.frf b hb) fun z=>I.ok.exfs b z hb
theorem Inv.step{g':Array GenState}{t':Nat}{d':Drawn}{ch:List Addr}(I:Inv X pins σ H s)
  (hch:∀b∈ch,(b∈X.ex∨X.s₀.heap.objs.size≤b)∧b≠X.env.locals∧(∀x c,X.env.cells.lookup x=some c→c≠b)∧∀p∈X.pn++pins,p.1≠b)
  (keep:∀b o,b≠X.env.locals→b∉X.fs→b∉ch→s.heap.get? b=some o→H b=none→h'.get? b=some o)
  (slot:∀b o,b≠X.env.locals→b∈X.fs→b∉ch→s.heap.get? b=some o→H b=none→∃sl,h'.get? b=some {o with slots:=sl}) (free:∀b o,b∉ch→s.heap.get? b=some o→H b=none→H' b=none)
  (there:∀b o,b∉ch→s.heap.get? b=some o→∃o',h'.get? b=some o')
  (tups:∀b xs,H b=some (.tup xs)→H' b=some (.tup xs)) (frzs:∀b o u,H b=some (.frz o u)→H' b=some (.frz o u)) (tbls:∀b ps,H b=some (.tbl ps)→∃more,H' b=some (.tbl (ps++more)))
  (ns:∀m,s.heap.Ns X.env.locals m→h'.Ns X.env.locals m) (hok:HOk X.prog X.w H' h') (hg:AllBare g'):
  Inv X pins σ H' {s with heap:=h',gens:=g',drawn:=d',toks:=t'}:=by
 have neL:∀b o,X.s₀.heap.get? b=some o→b≠X.env.locals:=fun b o e=>Nat.ne_of_lt (Nat.lt_of_lt_of_le (Heap.lt_size e) I.ok.above)
 have neC:∀b o,X.s₀.heap.get? b=some o→b∉X.ex→b∉ch:=fun b o e hx hb=>by
  rcases(hch b hb).1 with z|z
  ·exact hx z
  ·exact absurd (Nat.lt_of_lt_of_le (Heap.lt_size e) z) (Nat.lt_irrefl _)
 have cellK:∀x c,X.env.cells.lookup x=some c→∀v,s.heap.IsCell c v→h'.IsCell c v:=fun x c e v hPl=>by
  obtain⟨o,ho,hd⟩:=hPl
  have nch:c∉ch:=fun z=>(hch c z).2.2.1 x c e rfl
  by_cases hc:c∈X.fs
  ·obtain⟨sl,q⟩:=slot c o (I.cne x c e) hc nch ho (I.freeC x c e)
   exact⟨_,q,hd⟩
  ·exact⟨o,keep c o (I.cne x c e) hc nch ho (I.freeC x c e),hd⟩
 refine⟨I.ok,I.os,hg,⟨fun b o e n hb hx=> ?_,fun b o e n hb hx=> ?_,fun b o e n hx=> ?_,fun b o e hx=> ?_,fun b xs e=>tups b xs (I.base.tups b xs e),fun b o xs e=>frzs b o xs (I.base.frzs b o xs e),fun b ps e=> ?_⟩,?_,fun x c e=> ?_,?_,fun x c e=> ?_,fun p hp=> ?_,hok,I.len⟩
 ·exact keep b o (neL b o e) hb (neC b o e hx) (I.base.keep b o e n hb hx) (I.base.free b o e n hx)
 ·obtain⟨sl,e1⟩:=I.base.slot b o e n hb hx
  obtain⟨sl',e2⟩:=slot b _ (neL b o e) hb (neC b o e hx) e1 (I.base.free b o e n hx)
  exact⟨sl',e2⟩
 ·obtain⟨o',e1⟩:=I.base.there b o e hx
  exact free b o' (neC b o e hx) e1 (I.base.free b o e n hx)
 ·obtain⟨o',e1⟩:=I.base.there b o e hx
  exact there b o' (neC b o e hx) e1
 ·obtain⟨m1,e1⟩:=I.base.tbls b ps e
  obtain⟨m2,e2⟩:=tbls b _ e1
  exact⟨m1++m2,by rw[e2,Array.append_assoc]⟩
 ·obtain⟨m,hn,hl⟩:=I.loc
  refine⟨m,ns m hn,fun i x v e1 e2 e3=> ?_⟩
  obtain⟨u,r,l⟩:=hl i x v e1 e2 e3
  refine⟨u,r,?_⟩
  rcases l with l|⟨k,c,e,z⟩
  ·exact .inl l
  ·exact .inr ⟨k,c,e,cellK x c e _ z⟩
 ·obtain⟨v,z⟩:=I.cell x c e
  exact⟨v,cellK x c e v z⟩
 ·obtain⟨m,⟨o,_,_,ho,_⟩,_⟩:=I.loc
  exact free _ o (fun z=>(hch _ z).2.1 rfl) ho I.free
 ·obtain⟨v,o,ho,hd⟩:=I.cell x c e
  exact free c o (fun z=>(hch c z).2.2.1 x c e rfl) ho (I.freeC x c e)
 ·obtain⟨e,n,ne,nf,d⟩:=I.pin p hp
  have nch:p.1∉ch:=fun z=>(hch p.1 z).2.2.2 p hp rfl
  exact⟨keep p.1 p.2 ne nf nch e n,free p.1 p.2 nch e n,ne,nf,d⟩
theorem Inv.un{t':Nat}(I:Inv X pins σ H s)(u:Un X.fs [] H H' s.heap h')(hok:HOk X.prog X.w H' h'):Inv X pins σ H' {s with heap:=h',toks:=t'}:=by
 obtain⟨m,⟨o,es,ep,ho,r⟩,_⟩:=id I.loc
 obtain⟨sl,hL⟩:=u.any ho I.free (by simp)
 exact I.step (g':=s.gens) (d':=s.drawn) (ch:=[]) (fun _ z=>nomatch z) (fun b o _ hb _ e n=>u.keep b o e n hb (by simp)) (fun b o _ hb _ e n=>u.slot b o e n hb (by simp)) (fun b o _ e n=>u.free b o e n (by simp)) (fun b o _ e=>u.there b o e (by simp)) u.tups u.frzs u.tbls (fun m' hm=>by
  obtain⟨o',es',ep',ho',r'⟩:=hm
  rw[ho]at ho';cases ho'
  exact⟨_,es',ep',hL,r'⟩) hok I.bare
theorem Inv.call{g':Array GenState}{t':Nat}{d':Drawn}{ch:List Addr}(I:Inv X pins σ H s)(u:Un (frs X.stack) ch H H' s.heap h')(hok:HOk X.prog X.w H' h')(hg:AllBare g')
  (hch:∀b∈ch,(b∈X.ex∨X.s₀.heap.objs.size≤b)∧b≠X.env.locals∧(∀x c,X.env.cells.lookup x=some c→c≠b)∧∀p∈X.pn++pins,p.1≠b):
  Inv X pins σ H' {s with heap:=h',gens:=g',drawn:=d',toks:=t'}:=by
 obtain⟨m,⟨o,es,ep,ho,r⟩,_⟩:=id I.loc
 obtain⟨sl,hL⟩:=u.any ho I.free fun z=>(hch _ z).2.1 rfl
 exact I.step (ch:=ch) hch (fun b o hL hb hc e n=>u.keep b o e n (fun z=>(List.mem_cons.mp (I.stkSub b z)).elim hL hb) hc) (fun b o _ _ hc e n=>u.any e n hc) (fun b o hc e n=>u.free b o e n hc) (fun b o hc e=>u.there b o e hc) u.tups u.frzs u.tbls (fun m' hm=>by
  obtain⟨o',es',ep',ho',r'⟩:=hm
  rw[ho]at ho';cases ho'
  exact⟨_,es',ep',hL,r'⟩) hok hg
theorem Inv.turned{t':Nat}{it:Addr}(I:Inv X pins σ H s)(k:∀b o,b≠it→s.heap.get? b=some o→h'.get? b=some o)(hn:H it=none)(hL:it≠X.env.locals)
  (h1:it∈X.ex∨X.s₀.heap.objs.size≤it) (h2:∀x c,X.env.cells.lookup x=some c→c≠it) (h3:∀p∈X.pn++pins,p.1≠it):Inv X pins σ H {s with heap:=h',toks:=t'}:=by
 have nit:∀b u,H b=some u→b≠it:=fun b u e z=>by rw[z,hn]at e;cases e
 refine I.step (g':=s.gens) (d':=s.drawn) (ch:=[it]) (fun b hb=> ?_) (fun b o _ _ hc e _=>k b o (fun z=>hc (by simp[z])) e) (fun b o _ _ hc e _=>⟨o.slots,k b o (fun z=>hc (by simp[z])) e⟩) (fun _ _ _ _ n=>n)
  (fun b o hc e=>⟨o,k b o (fun z=>hc (by simp[z])) e⟩) (fun _ _ e=>e) (fun _ _ _ e=>e) (fun b ps e=>⟨#[],by rw[e];simp⟩) (fun m hm=> ?_) (fun b u e=> ?_) I.bare
 ·have e:b=it:=by simpa using hb
  subst e
  exact⟨h1,hL,h2,h3⟩
 ·obtain⟨o,es,ep,ho,r⟩:=hm
  exact⟨o,es,ep,k _ o (Ne.symm hL) ho,r⟩
 ·refine(I.hok b u e).stay (fun c v hc q=>k c v ?_ q) (fun _ q=>q) fun _ _ q=>q
  rcases hc with z|z
  ·rw[z];exact nit b u e
  ·exact nit c _ z
theorem Inv.tok(I:Inv X pins σ H s)(t:Nat):Inv X pins σ H {s with toks:=t}:=I.un (h':=s.heap) (t':=t) Un.refl I.hok
theorem Inv.kept{t':Nat}(I:Inv X pins σ H s)(k:∀b u,s.heap.get? b=some u→h'.get? b=some u):Inv X pins σ H {s with heap:=h',toks:=t'}:=I.un (Un.kept k) (I.hok.kept k)
theorem Inv.laid{a:Addr}{o:HO}{t':Nat}(I:Inv X pins σ H s)(k:∀b u,s.heap.get? b=some u→h'.get? b=some u)(hp:s.heap.objs.size≤a)(new:ObjOk X.prog X.w (upd H a o) h' a o):
  Inv X pins σ (upd H a o) {s with heap:=h',toks:=t'}:=I.un (Un.laid k hp (I.hok.fresh hp)) (I.hok.laid k hp new)
theorem Inv.write{x e:Addr}{o:HO}{t':Nat}(I:Inv X pins σ H s)(mu:Mut (H x))(he:e=x∨H e=some (.own x))(k:∀b u,b≠e→s.heap.get? b=some u→h'.get? b=some u)(heo:∃u,h'.get? e=some u)
  (new:ObjOk X.prog X.w (upd H x o) h' x o):Inv X pins σ (upd H x o) {s with heap:=h',toks:=t'}:=I.un (Un.write mu he k heo) (I.hok.write mu he k heo new)
theorem Inv.weak{σ':List (Option V)}(I:Inv X pins σ H s)(hl:σ'.length=σ.length)(w:∀(i:Nat) v,σ'[i]? =some (some v)→σ[i]? =some (some v)):Inv X pins σ' H s:=
 ⟨I.ok,I.os,I.bare,I.base,let⟨m,hn,hl'⟩:=I.loc;⟨m,hn,fun i x v e1 e2 e3=>hl' i x v e1 (w i v e2) e3⟩,I.cell,I.free,I.freeC,I.pin,I.hok,hl.trans I.len⟩
theorem Inv.pins_of{pins':List (Addr×Obj)}(I:Inv X pins σ H s)(h:∀p∈pins',s.heap.get? p.1=some p.2∧H p.1=none∧p.1≠X.env.locals∧p.1∉X.fs∧∀v,p.2.data≠ .cell v):Inv X pins' σ H s:=
 ⟨I.ok,I.os,I.bare,I.base,I.loc,I.cell,I.free,I.freeC,fun p hp=>(List.mem_append.mp hp).elim (fun z=>I.pin p (List.mem_append_left _ z)) (h p),I.hok,I.len⟩
theorem nodup_ix{N:List Str}(hN:N.Nodup){i j:Nat}{x:Str}(a:N[i]? =some x)(b:N[j]? =some x):i=j:=by
 obtain⟨h1,e1⟩:=List.getElem?_eq_some_iff.mp a
 obtain⟨h2,e2⟩:=List.getElem?_eq_some_iff.mp b
 exact(List.getElem_inj hN).mp (e1.trans e2.symm)
theorem store_ok2{M:Model}{A:Around}{E:Value→Shared→Prop}{i:Nat}{x:Str}{v:V}{u:Value}{Q:Unit→Shared→Prop}(I:Inv X pins σ H s)(hN:X.N.Nodup)(hi:X.N[i]? =some x)(hx:Loc X.env.scope x)(r:RelV v u)
  (h:∀s',Inv X pins (σ.set i (some v)) H s'→(∃a,Heap.SameBut a s.heap s'.heap∧(a=X.env.locals∨X.env.cells.lookup x=some a))→Q () s') (hf:X.fn x=true∨X.env.scope.names.lookup x=some .local:=by first|exact .inl rfl|exact .inr rfl|assumption):wpAny M A (storeName X.env x u) Q E s:=by
 obtain⟨m,hn,hl⟩:=id I.loc
 have hcls:(X.env.scope.kind== .class||(X.env.scope.kind== .module&&X.env.locals !=X.env.globals))=false:=by rw[I.ok.kind];rfl
 have hiσ:i<σ.length:=by rw[I.len];exact(List.getElem?_eq_some_iff.mp hi).1
 have cne:=I.cne
 have tracked:∀{a:Addr} {h':Heap},(∃o,s.heap.get? a=some o∧H a=none)→Heap.SameBut a s.heap h'→HOk X.prog X.w H h':=fun{a h'} ha hs b ob e=>by
  obtain⟨_,_,hfree⟩:=ha
  refine(I.hok b ob e).stay (fun c w' hc q=>(hs.2 c ?_).trans q) (fun _ q=>q) fun _ _ q=>q
  rintro rfl
  rcases hc with rfl|hc
  ·rw[hfree]at e;cases e
  ·rw[hfree]at hc;cases hc
 rcases hx with hk|hk
 ·refine wpAny_storeName_local hk hn (fun h' hn' hs=> ?_) hcls
  obtain⟨oL,_,_,hoL,_⟩:=id hn
  refine h _ ⟨I.ok,I.os,I.bare,⟨fun b o e n hb hx=> ?_,fun b o e n hb hx=> ?_,I.base.free,fun b o e hx=> ?_,I.base.tups,I.base.frzs,I.base.tbls⟩,⟨_,hn',fun j y v' e1 e2 e3=> ?_⟩,fun y c e=> ?_,I.free,I.freeC,fun p hp=> ?_,tracked ⟨oL,hoL,I.free⟩ hs,by simpa using I.len⟩ ⟨_,hs,.inl rfl⟩
  ·exact(hs.2 b (Nat.ne_of_lt (Nat.lt_of_lt_of_le (Heap.lt_size e) I.ok.above))).trans (I.base.keep b o e n hb hx)
  ·obtain⟨sl,e1⟩:=I.base.slot b o e n hb hx
   exact⟨sl,(hs.2 b (Nat.ne_of_lt (Nat.lt_of_lt_of_le (Heap.lt_size e) I.ok.above))).trans e1⟩
  ·obtain⟨o',e1⟩:=I.base.there b o e hx
   exact⟨o',(hs.2 b (Nat.ne_of_lt (Nat.lt_of_lt_of_le (Heap.lt_size e) I.ok.above))).trans e1⟩
  ·by_cases hj:j=i
   ·subst hj
    rw[hi]at e1;cases e1
    rw[List.getElem?_set_self hiσ]at e2
    cases e2
    exact⟨u,r,.inl ⟨hk,by simp⟩⟩
   ·rw[List.getElem?_set_ne (Ne.symm hj)]at e2
    obtain⟨u',r',q⟩:=hl j y v' e1 e2 e3
    refine⟨u',r',?_⟩
    rcases q with⟨k,e⟩|⟨k,c,e,z⟩
    ·refine .inl ⟨k,?_⟩
     have:y≠x:=fun e=>hj (nodup_ix hN e1 (e▸hi))
     simp[this,e]
    ·exact .inr ⟨k,c,e,z.sameBut hs (cne y c e)⟩
  ·obtain⟨w',z⟩:=I.cell y c e
   exact⟨w',z.sameBut hs (cne y c e)⟩
  ·obtain⟨e,n,ne,nf,d⟩:=I.pin p hp
   exact⟨(hs.2 p.1 ne).trans e,n,ne,nf,d⟩
 ·have hfn:X.fn x=true:=by
   rcases hf with z|z
   ·exact z
   ·rw[z]at hk;cases hk
  obtain⟨c,hc⟩:=I.ok.has x (.inl hk)
  obtain⟨w',z⟩:=I.cell x c hc
  refine wpAny_storeName_cell I.ok.kind hk hc z (fun h' hc' hs=> ?_)
  obtain⟨oc,hoc,hocd⟩:=id z
  refine h {s with heap:=h'} ⟨I.ok,I.os,I.bare,⟨fun b o e n hb hx=> ?_,fun b o e n hb hx=> ?_,I.base.free,fun b o e hx=> ?_,I.base.tups,I.base.frzs,I.base.tbls⟩,⟨m,hn.sameBut hs (Ne.symm (cne x c hc)),fun j y v' e1 e2 e3=> ?_⟩,fun y c' e=> ?_,I.free,I.freeC,fun p hp=> ?_,tracked ⟨oc,hoc,I.freeC x c hc⟩ hs,by simpa using I.len⟩ ⟨c,hs,.inr hc⟩
  ·exact(hs.2 b (Nat.ne_of_lt (Nat.lt_of_lt_of_le (Heap.lt_size e) (I.ok.cab x c hfn hc)))).trans (I.base.keep b o e n hb hx)
  ·obtain⟨sl,e1⟩:=I.base.slot b o e n hb hx
   exact⟨sl,(hs.2 b (Nat.ne_of_lt (Nat.lt_of_lt_of_le (Heap.lt_size e) (I.ok.cab x c hfn hc)))).trans e1⟩
  ·obtain⟨o',e1⟩:=I.base.there b o e hx
   exact⟨o',(hs.2 b (Nat.ne_of_lt (Nat.lt_of_lt_of_le (Heap.lt_size e) (I.ok.cab x c hfn hc)))).trans e1⟩
  ·by_cases hj:j=i
   ·subst hj
    rw[hi]at e1;cases e1
    rw[List.getElem?_set_self hiσ]at e2
    cases e2
    exact⟨u,r,.inr ⟨.inl hk,c,hc,hc'⟩⟩
   ·rw[List.getElem?_set_ne (Ne.symm hj)]at e2
    obtain⟨u',r',q⟩:=hl j y v' e1 e2 e3
    refine⟨u',r',?_⟩
    rcases q with q|⟨k,c',e,z'⟩
    ·exact .inl q
    ·refine .inr ⟨k,c',e,z'.sameBut hs ?_⟩
     rintro rfl
     exact hj (nodup_ix hN e1 (I.ok.inj _ _ _ e hc▸hi))
  ·by_cases hcc:c'=c
   ·subst hcc;exact⟨_,hc'⟩
   ·obtain⟨w2,z2⟩:=I.cell y c' e
    exact⟨w2,z2.sameBut hs hcc⟩
  ·obtain⟨e,n,ne,nf,d⟩:=I.pin p hp
   refine⟨(hs.2 p.1 ?_).trans e,n,ne,nf,d⟩
   intro q
   rw[q,hoc]at e
   have q':oc=p.2:=Option.some.inj e
   exact d w' (by rw[←q'];exact hocd)
theorem store_ok{M:Model}{A:Around}{E:Value→Shared→Prop}{i:Nat}{x:Str}{v:V}{u:Value}{Q:Unit→Shared→Prop}(I:Inv X pins σ H s)(hN:X.N.Nodup)(hi:X.N[i]? =some x)(hx:Loc X.env.scope x)(r:RelV v u)
  (h:∀s',Inv X pins (σ.set i (some v)) H s'→Q () s') (hf:X.fn x=true∨X.env.scope.names.lookup x=some .local:=by first|exact .inl rfl|exact .inr rfl|assumption):wpAny M A (storeName X.env x u) Q E s:=
 store_ok2 I hN hi hx r (fun s' I' _=>h s' I') hf
theorem Inv.call'{s':Shared}{ch:List Addr}(I:Inv X pins σ H s)(ho:s'.os=s.os)(u:Un (frs X.stack) ch H H' s.heap s'.heap)(hok:HOk X.prog X.w H' s'.heap)(hg:AllBare s'.gens)
  (hch:∀b∈ch,(b∈X.ex∨X.s₀.heap.objs.size≤b)∧b≠X.env.locals∧(∀x c,X.env.cells.lookup x=some c→c≠b)∧∀p∈X.pn++pins,p.1≠b):Inv X pins σ H' s':=by
 obtain⟨h',g',d',t',o'⟩:=s'
 have e:o'=s.os:=ho
 subst e
 exact I.call (g':=g') (t':=t') (d':=d') u hok hg hch
end
noncomputable abbrev XK:=Value→Option Addr→Hp→Prop
noncomputable abbrev St:=List (Option V)
noncomputable abbrev VK:=V→Hp→Prop
noncomputable abbrev TE:=St→Hp→VK→Prop
noncomputable abbrev TT:=St→Hp→(Bool→Hp→Prop)→Prop
noncomputable abbrev TA:=St→Hp→(List V→Hp→Prop)→Prop
structure Ends where
 nx:St→Hp→Prop
 rt:VK
 bk:St→Hp→Prop:=fun _ _=>False
 ct:St→Hp→Prop:=fun _ _=>False
noncomputable abbrev TS:=Ends→St→Hp→Prop
noncomputable def EP(X:Cx)(pins:List (Addr×Obj))(σ:St)(Q:VK)(u:Value)(s':Shared):Prop:=∃v H',Inv X pins σ H' s'∧RelV v u∧Q v H'
noncomputable def TP(X:Cx)(pins:List (Addr×Obj))(σ:St)(Q:Bool→Hp→Prop)(b:Bool)(s':Shared):Prop:=∃H',Inv X pins σ H' s'∧Q b H'
noncomputable def AP(X:Cx)(pins:List (Addr×Obj))(σ:St)(Q:List V→Hp→Prop)(us:List Value)(s':Shared):Prop:=∃vs H',Inv X pins σ H' s'∧Vals vs us∧Q vs H'
noncomputable def SP(X:Cx)(pins:List (Addr×Obj))(D:Ends)(f:Flow)(s':Shared):Prop:=
 match f with
 | .next=>∃σ' H',Inv X pins σ' H' s'∧D.nx σ' H'
 | .brk=>∃σ' H',Inv X pins σ' H' s'∧D.bk σ' H'
 | .cont=>∃σ' H',Inv X pins σ' H' s'∧D.ct σ' H'
 | .ret u=>∃v σ' H',Inv X pins σ' H' s'∧RelV v u∧D.rt v H'
noncomputable def PE(X:Cx)(e:Expr)(t:TE):Prop:=
 ∀(pins:List (Addr×Obj)) (s:Shared) (σ:St) (H:Hp) (Q:VK),Inv X pins σ H s→t σ H Q→wpAny (model X.prog X.w) X.A (eval e X.env) (EP X pins σ Q) X.xe s
noncomputable def PT(X:Cx)(e:Expr)(t:TT):Prop:=
 ∀(pins:List (Addr×Obj)) (s:Shared) (σ:St) (H:Hp) (Q:Bool→Hp→Prop),Inv X pins σ H s→t σ H Q→wpAny (model X.prog X.w) X.A (isTrue e X.env (eval e X.env)) (TP X pins σ Q) X.xe s
noncomputable def PW(X:Cx)(e:Expr)(t:TT):Prop:=
 ∀(whole:Sem Value) (pins:List (Addr×Obj)) (s:Shared) (σ:St) (H:Hp) (Q:Bool→Hp→Prop),Inv X pins σ H s→t σ H Q→wpAny (model X.prog X.w) X.A (isTrue e X.env whole) (TP X pins σ Q) X.xe s
theorem PW.pt{X:Cx}{e:Expr}{t:TT}(h:PW X e t):PT X e t:=h _
noncomputable def PA(X:Cx)(es:List Expr)(t:TA):Prop:=
 ∀(pos:Pos) (pins:List (Addr×Obj)) (s:Shared) (σ:St) (H:Hp) (Q:List V→Hp→Prop),Inv X pins σ H s→t σ H Q→wpAny (model X.prog X.w) X.A (spliced (backTo pos (starEach es X.env))) (AP X pins σ Q) X.xe s
noncomputable def PS(X:Cx)(st:Stmt)(t:TS):Prop:=
 ∀(pins:List (Addr×Obj)) (s:Shared) (σ:St) (H:Hp) (D:Ends),Inv X pins σ H s→t D σ H→wpAny (model X.prog X.w) X.A (exec st X.env) (SP X pins D) X.xe s
noncomputable def PSs(X:Cx)(st:List Stmt)(t:TS):Prop:=
 ∀(pins:List (Addr×Obj)) (s:Shared) (σ:St) (H:Hp) (D:Ends),Inv X pins σ H s→t D σ H→wpAny (model X.prog X.w) X.A (execs st X.env) (SP X pins D) X.xe s
theorem thn{α:Type}{t:Sem α}{Q Q':α→Shared→Prop}{M:Model}{A:Around}{E:Value→Shared→Prop}{s:Shared}(h:wpAny M A t Q E s)(hQ:∀a s,Q a s→Q' a s):wpAny M A t Q' E s:=wpAny_mono h hQ fun _ _ x=>x
end L2
namespace L2
open PySem PySem.Spec PyProof.Rows
section
variable{X:Cx}
noncomputable def tVar(i:Nat):TE:=fun σ H Q=>∃v,σ[i]? =some (some v)∧Q v H
noncomputable def tC(v:V):TE:=fun _ H Q=>Q v H
theorem pe_var{i:Nat}{x:Str}{pos:Pos}(hN:X.N[i]? =some x)(hv:Vis X.env.scope x)(hd:(x==("__debug__" :Str))=false:=by decide)(hcd:(x==("__classdict__" :Str))=false:=by decide):PE X (.Name x pos) (tVar i):=by
 intro pins s σ H Q I h
 obtain⟨v,e,h⟩:=h
 obtain⟨m,hn,hl⟩:=I.loc
 obtain⟨u,r,l⟩:=hl i x v hN e hv
 have fin:EP X pins σ Q u s:=⟨v,H,I,r,h⟩
 rcases l with⟨hk,hm⟩|⟨hk,c,hc,hcell⟩
 ·exact wpAny_Name (wpAny_loadName_local I.ok.kind hk hn hm fin) hd
 ·rcases hk with hk|hk
  ·exact wpAny_Name (wpAny_loadName_cell I.ok.kind hk hc hcell fin) hd
  ·exact wpAny_Name (wpAny_loadName_free I.ok.kind hk hc hcell fin hcd) hd
theorem pe_int{i j pos}:PE X (.Constant (.int i) j pos) (tC (.int i)):=fun _ _ _ H _ I h=>wpAny_Constant_int ⟨.int i,H,I.tok _,⟨_,rfl⟩,h⟩
theorem pe_bl{b j pos}:PE X (.Constant (.bool b) j pos) (tC (.bl b)):=fun _ _ _ H _ I h=>Constant_bool ⟨.bl b,H,I,rfl,h⟩
theorem pe_non{j pos}:PE X (.Constant .none j pos) (tC .non):=fun _ _ _ H _ I h=>Constant_none ⟨.non,H,I,rfl,h⟩
theorem pe_str{x j pos}:PE X (.Constant (.str x) j pos) (tC (.str x)):=fun _ _ _ H _ I h=>Calls.Constant_str ⟨.str x,H,I.tok _,⟨_,rfl⟩,h⟩
noncomputable def Gl(X:Cx)(x:Str):Prop:=X.env.kindOf x=some .globalImplicit
theorem ld_glob{E:Value→Shared→Prop}{pins:List (Addr×Obj)}{s:Shared}{σ:St}{H:Hp}{x:Str}{u:Value}{pos:Pos}{Q:Value→Shared→Prop}(I:Inv X pins σ H s)(hg:Gl X x)(hm:X.mg x=some u)(h:Q u s)
  (hd:(x==("__debug__" :Str))=false:=by decide):wpAny (model X.prog X.w) X.A (eval (.Name x pos) X.env) Q E s:=
 Calls.Name_function_global I.ok.kind hg (Calls.loadGlobal_global (by rw[I.ok.glob];exact I.mod.glob.keeps I.bk) hm h) hd
theorem ld_blt{E:Value→Shared→Prop}{pins:List (Addr×Obj)}{s:Shared}{σ:St}{H:Hp}{x:Str}{u:Value}{pos:Pos}{Q:Value→Shared→Prop}(I:Inv X pins σ H s)(hg:Gl X x)(hm:X.mg x=none)(hv:bootBuiltins x=some u)(h:Q u s)
  (hn:x≠ "__name__" :=by decide) (hd:(x==("__debug__" :Str))=false:=by decide):wpAny (model X.prog X.w) X.A (eval (.Name x pos) X.env) Q E s:=by
 obtain⟨mb,h1,h2⟩:=I.mod.blt
 exact Calls.Name_function_global I.ok.kind hg (Calls.loadGlobal_builtin (by rw[I.ok.glob];exact I.mod.glob.keeps I.bk) hm (by rw[I.ok.blt];exact h1.keeps I.bk) ((h2 x hn).trans hv) h) hd
theorem pe_glob{x:Str}{v:V}{u:Value}{pos:Pos}(hg:Gl X x)(hm:X.mg x=some u)(r:RelV v u)(hd:(x==("__debug__" :Str))=false:=by decide):PE X (.Name x pos) (tC v):=
 fun _ _ _ H _ I h=>ld_glob I hg hm ⟨v,H,I,r,h⟩ hd
theorem pe_bltn{x:Str}{v:V}{u:Value}{pos:Pos}(hg:Gl X x)(hm:X.mg x=none)(hv:bootBuiltins x=some u)(r:RelV v u)(hn:x≠ "__name__" :=by decide)(hd:(x==("__debug__" :Str))=false:=by decide):PE X (.Name x pos) (tC v):=
 fun _ _ _ H _ I h=>ld_blt I hg hm hv ⟨v,H,I,r,h⟩ hn hd
variable{a b:Expr}{ta tb:TE}{pos:Pos}
noncomputable def tB(t:TE):TT:=fun σ H Q=>t σ H fun x H1=>∃c,x= .bl c∧Q c H1
theorem pt_val{e:Expr}{t:TE}(h:PE X e t)(he:∀whole,isTrue e X.env whole=(do let v ←whole;standAt e.pos;holding [v] (truthy v)):=by intro _;rfl):PT X e (tB t):=by
 intro pins s σ H Q I hw
 refine isTrue_plain (thn (h pins s σ H _ I hw) fun v s1 hPl=> ?_) (he _)
 obtain⟨x,H1,I1,r1,q1⟩:=hPl
 obtain⟨d,rfl,q⟩:=q1
 cases r1
 exact wpAny_truthy_bool ⟨H1,I1,q⟩
variable{tA tB':TT}{rest:List Expr}
noncomputable def tAnd(t u:TT):TT:=fun σ H Q=>t σ H fun c H1=>if c=true then u σ H1 Q else Q false H1
noncomputable def tOr(t u:TT):TT:=fun σ H Q=>t σ H fun c H1=>if c=true then Q true H1 else u σ H1 Q
noncomputable def tNot(t:TT):TT:=fun σ H Q=>t σ H fun c H1=>Q (!c) H1
theorem pw_and1(ha:PT X a tA):PW X (.BoolOp .And [a] pos) tA:=by
 intro wh pins s σ H Q I h
 refine isTrue_and (thn (ha pins s σ H Q I h) fun c s1 e=> ?_)
 cases c with
 |true=>exact isTrue_and_nil e
 |false=>exact e
theorem pw_or1(ha:PT X a tA):PW X (.BoolOp .Or [a] pos) tA:=by
 intro wh pins s σ H Q I h
 refine isTrue_or (thn (ha pins s σ H Q I h) fun c s1 e=> ?_)
 cases c with
 |false=>exact isTrue_or_nil e
 |true=>exact e
theorem pw_and(ha:PT X a tA)(hb:PW X (.BoolOp .And (b::rest) pos) tB'):PW X (.BoolOp .And (a::b::rest) pos) (tAnd tA tB'):=by
 intro wh pins s σ H Q I h
 refine isTrue_and (thn (ha pins s σ H _ I h) fun c s1 hPl=> ?_)
 obtain⟨H1,I1,q1⟩:=hPl
 cases c with
 |true=>exact hb wh pins s1 σ H1 Q I1 q1
 |false=>exact⟨H1,I1,q1⟩
theorem pw_or(ha:PT X a tA)(hb:PW X (.BoolOp .Or (b::rest) pos) tB'):PW X (.BoolOp .Or (a::b::rest) pos) (tOr tA tB'):=by
 intro wh pins s σ H Q I h
 refine isTrue_or (thn (ha pins s σ H _ I h) fun c s1 hPl=> ?_)
 obtain⟨H1,I1,q1⟩:=hPl
 cases c with
 |true=>exact⟨H1,I1,q1⟩
 |false=>exact hb wh pins s1 σ H1 Q I1 q1
theorem pt_not(ha:PT X a tA):PT X (.UnaryOp .Not a pos) (tNot tA):=by
 intro pins s σ H Q I h
 exact isTrue_not (ha pins s σ H (fun c H1=>Q (!c) H1) I h)
noncomputable def tAndV(ta tb:TE):TE:=fun σ H Q=>ta σ H fun x H1=>∃c,x= .bl c∧if c=true then tb σ H1 Q else Q (.bl false) H1
theorem pe_one{op}{t:TE}(h:PE X a t):PE X (.BoolOp op [a] pos) t:=fun pins s σ H Q I hw=>BoolOp_one (h pins s σ H Q I hw)
theorem pe_and(ha:PE X a ta)(hb:PE X (.BoolOp .And (b::rest) pos) tb):PE X (.BoolOp .And (a::b::rest) pos) (tAndV ta tb):=by
 intro pins s σ H Q I h
 refine BoolOp_and (thn (ha pins s σ H _ I h) fun v s1 hPl=> ?_)
 obtain⟨x,H1,I1,r1,q1⟩:=hPl
 obtain⟨c,rfl,q1⟩:=q1
 cases r1
 refine wpAny_truthy_bool ?_
 cases c with
 |true=>exact hb pins s1 σ H1 Q I1 q1
 |false=>exact⟨.bl false,H1,I1,rfl,q1⟩
noncomputable def tIf(t:TT)(ta tb:TE):TE:=fun σ H Q=>t σ H fun c H1=>if c=true then ta σ H1 Q else tb σ H1 Q
theorem pe_ifExp{c:Expr}(hc:PT X c tA)(ha:PE X a ta)(hb:PE X b tb):PE X (.IfExp c a b pos) (tIf tA ta tb):=by
 intro pins s σ H Q I h
 refine wpAny_IfExp (thn (hc pins s σ H _ I h) fun d s1 hPl=> ?_)
 obtain⟨H1,I1,q1⟩:=hPl
 cases d with
 |true=>exact ha pins s1 σ H1 Q I1 q1
 |false=>exact hb pins s1 σ H1 Q I1 q1
end
end L2
namespace L2
open PySem PySem.Spec PyProof.Rows
noncomputable def SqL(K:PySem.W.Frag)(H:Hp)(a:Addr)(xs:List V):Prop:=
 Rd H a (.lst xs)∨
  ∃(o:Obj) (its:Array Value) (n:Nat),K.lookup a=some o∧o.cls= .type "list" ∧o.dict=none∧o.data= .seq its n∧its.size≤sizeLine∧Vals xs its.toList
noncomputable def SqT(K:PySem.W.Frag)(H:Hp)(a:Addr)(xs:List V):Prop:=
 Rd H a (.tup xs)∨
  ∃(o:Obj) (its:Array Value) (n:Nat),K.lookup a=some o∧o.cls= .type "tuple" ∧o.data= .seq its n∧its.size≤sizeLine∧Vals xs its.toList
noncomputable def absV:Value→Option V
 | .none=>some .non
 | .bool b=>some (.bl b)
 | .int i _=>some (.int i)
 | .str x _=>some (.str x)
 | .bytes b _=>some (.byt b)
 | .float b _=>some (.flt b)
 | .ref a=>some (.ref a)
 | .type n=>some (.ty n)
 |_=>none
theorem RelV.abs{x:V}{u:Value}(r:RelV x u):absV u=some x:=by
 cases x with
 |non=>cases r;rfl
 |bl _=>cases r;rfl
 |int _=>obtain⟨t,rfl⟩:=r;rfl
 |str _=>obtain⟨t,rfl⟩:=r;rfl
 |byt _=>obtain⟨t,rfl⟩:=r;rfl
 |flt _=>obtain⟨t,rfl⟩:=r;rfl
 |ref _=>cases r;rfl
 |ty _=>cases r;rfl
theorem RelV.inj{x y:V}{u:Value}(r:RelV x u)(q:RelV y u):x=y:=Option.some.inj (r.abs.symm.trans q.abs)
theorem Vals.inj:∀{xs ys:List V} {us:List Value},Vals xs us→Vals ys us→xs=ys
 |_,_,_,.nil,.nil=>rfl
 |_,_,_,.cons r t,.cons r' t'=>by rw[r.inj r',Vals.inj t t']
section
variable{X:Cx}{pins:List (Addr×Obj)}{σ:St}{H:Hp}{s:Shared}{a:Addr}{xs ys:List V}
theorem SqL.of{K:PySem.W.Frag}(h:H a=some (.lst xs)):SqL K H a xs:= .inl (.inl h)
theorem SqT.of{K:PySem.W.Frag}(h:H a=some (.tup xs)):SqT K H a xs:= .inl (.inl h)
theorem Inv.list(I:Inv X pins σ H s)(h:SqL X.K H a xs):∃its:List Value,Vals xs its∧PlainL s.heap a its.toArray∧xs.length≤sizeLine:=by
 rcases h with h|⟨o,its,n,hk,hc,hd,hs,hz,r⟩
 ·obtain⟨z,its,n,r,e⟩:=h.ok I.hok
  exact⟨its,r,⟨_,n,e,rfl,rfl,rfl⟩,z⟩
 ·refine⟨its.toList,r,⟨o,n,I.kIn a o hk,hc,hd,by simpa using hs⟩,?_⟩
  have e:=r.length
  simp only[Array.length_toList]at e
  (first|lia|omega)
theorem Inv.tuple(I:Inv X pins σ H s)(h:SqT X.K H a xs):∃its:List Value,Vals xs its∧IsTup s.heap a its.toArray∧xs.length≤sizeLine:=by
 rcases h with h|⟨o,its,n,hk,hc,hs,hz,r⟩
 ·obtain⟨z,its,r,p⟩:=h.ok I.hok
  exact⟨its,r,p,z⟩
 ·refine⟨its.toList,r,⟨o,I.kIn a o hk,hc,n,by simpa using hs⟩,?_⟩
  have e:=r.length
  simp only[Array.length_toList]at e
  (first|lia|omega)
theorem Inv.list_inj(I:Inv X pins σ H s)(h:SqL X.K H a xs)(h':SqL X.K H a ys):xs=ys:=by
 obtain⟨its,r,⟨o,n,e,_,_,d⟩,_⟩:=I.list h
 obtain⟨its',r',⟨o',n',e',_,_,d'⟩,_⟩:=I.list h'
 rw[e]at e';cases e'
 rw[d]at d'
 injection d' with d1 _
 have:its=its':=by simpa using congrArg Array.toList d1
 subst this
 exact r.inj r'
theorem Inv.tuple_inj(I:Inv X pins σ H s)(h:SqT X.K H a xs)(h':SqT X.K H a ys):xs=ys:=by
 obtain⟨its,r,⟨o,e,_,n,d⟩,_⟩:=I.tuple h
 obtain⟨its',r',⟨o',e',_,n',d'⟩,_⟩:=I.tuple h'
 rw[e]at e';cases e'
 rw[d]at d'
 injection d' with d1 _
 have:its=its':=by simpa using congrArg Array.toList d1
 subst this
 exact r.inj r'
end
noncomputable abbrev Cx.wish(X:Cx)(E:Value→Shared→Prop):Cx:={X with xe:=E}
noncomputable abbrev Cx.nox(X:Cx):Cx:=X.wish fun _ _=>False
theorem Cx.Ok.wish{X:Cx}(ok:X.Ok)(E:Value→Shared→Prop):(X.wish E).Ok:=
 ⟨ok.mod,ok.kind,ok.glob,ok.blt,ok.above,ok.inj,ok.has,ok.cab,ok.hd,ok.frames,ok.stk,ok.exf,ok.bs,ok.bsz,ok.noex,ok.exfs,ok.funs,ok.frf⟩
theorem Cx.Ok.unwish{X:Cx}{E:Value→Shared→Prop}(ok:(X.wish E).Ok):X.Ok:=
 ⟨ok.mod,ok.kind,ok.glob,ok.blt,ok.above,ok.inj,ok.has,ok.cab,ok.hd,ok.frames,ok.stk,ok.exf,ok.bs,ok.bsz,ok.noex,ok.exfs,ok.funs,ok.frf⟩
section
variable{X:Cx}{pins:List (Addr×Obj)}{σ:St}{H:Hp}{s:Shared}{E:Value→Shared→Prop}
theorem Inv.wish(I:Inv X pins σ H s)(E:Value→Shared→Prop):Inv (X.wish E) pins σ H s:=⟨I.ok.wish E,I.os,I.bare,I.base,I.loc,I.cell,I.free,I.freeC,I.pin,I.hok,I.len⟩
theorem Inv.unwish(I:Inv (X.wish E) pins σ H s):Inv X pins σ H s:=⟨I.ok.unwish,I.os,I.bare,I.base,I.loc,I.cell,I.free,I.freeC,I.pin,I.hok,I.len⟩
theorem SP.unwish{D:Ends}{f:Flow}{s':Shared}(h:SP (X.wish E) pins D f s'):SP X pins D f s':=by
 cases f with
 |next=>obtain⟨σ',H',I,q⟩:=h;exact⟨σ',H',I.unwish,q⟩
 |brk=>obtain⟨σ',H',I,q⟩:=h;exact⟨σ',H',I.unwish,q⟩
 |cont=>obtain⟨σ',H',I,q⟩:=h;exact⟨σ',H',I.unwish,q⟩
 |ret u=>obtain⟨v,σ',H',I,r,q⟩:=h;exact⟨v,σ',H',I.unwish,r,q⟩
theorem PSs.nox{st:List Stmt}{t:TS}(h:PSs X.nox st t):PSs X st t:=fun pins s σ H D I hw=>
 wpAny_mono (h pins s σ H D (I.wish _) hw) (fun _ _ q=>q.unwish) fun _ _ z=>False.elim z
end
section
variable{X:Cx}{st:Stmt}{rest:List Stmt}{t u:TS}{e:Expr}{te:TE}{pos:Pos}
noncomputable def tNext:TS:=fun D σ H=>D.nx σ H
noncomputable def tSeq(t u:TS):TS:=fun D σ H=>t {D with nx:=u D} σ H
theorem pss_nil:PSs X [] tNext:=fun _ _ σ H _ I h=>wpAny_execs_nil ⟨σ,H,I,h⟩
theorem pss_cons(h1:PS X st t)(h2:PSs X rest u):PSs X (st::rest) (tSeq t u):=by
 intro pins s σ H D I h
 refine wpAny_execs_cons (thn (h1 pins s σ H {D with nx:=u D} I h) fun f s1 q=> ?_)
 cases f with
 |next=>
  obtain⟨σ',H',I',q⟩:=q
  exact h2 pins s1 σ' H' D I' q
 |ret v=>exact q
 |brk=>exact q
 |cont=>exact q
theorem pss_one(h1:PS X st t):PSs X [st] t:=by
 intro pins s σ H D I h
 refine wpAny_execs_cons (thn (h1 pins s σ H D I h) fun f s1 q=> ?_)
 cases f with
 |next=>exact wpAny_execs_nil q
 |ret v=>exact q
 |brk=>exact q
 |cont=>exact q
theorem ps_pass:PS X (.Pass pos) tNext:=fun _ _ σ H _ I h=>wpAny_Pass ⟨σ,H,I,h⟩
theorem Inv.quiet{pins:List (Addr×Obj)}{σ:St}{H:Hp}{s:Shared}(I:Inv X pins σ H s):interactive X.env=false:=by simp[interactive,I.ok.kind]
noncomputable def tDrop(te:TE):TS:=fun D σ H=>te σ H fun _ H1=>D.nx σ H1
theorem ps_expr(he:PE X e te)(hs:swapsWith e none pos.line X.env=pure false:=by rfl):PS X (.Expr e pos) (tDrop te):=by
 intro pins s σ H D I h
 exact wpAny_Expr_any (thn (he pins s σ H _ I h) fun v s1 ⟨x,H1,I1,r1,q1⟩=>⟨σ,H1,I1,q1⟩) I.quiet hs
noncomputable def tRet(te:TE):TS:=fun D σ H=>te σ H D.rt
theorem ps_ret(he:PE X e te):PS X (.Return (some e) pos) (tRet te):=by
 intro pins s σ H D I h
 exact wpAny_Return_some (thn (he pins s σ H _ I h) fun v s1 ⟨x,H1,I1,r1,q1⟩=>⟨x,σ,H1,I1,r1,q1⟩)
noncomputable def tIfS(c:TT)(t u:TS):TS:=fun D σ H=>c σ H fun b H1=>if b=true then t D σ H1 else u D σ H1
theorem ps_if{c:Expr}{a b:List Stmt}{tc:TT}(hc:PT X c tc)(ha:PSs X a t)(hb:PSs X b u):PS X (.If c a b pos) (tIfS tc t u):=by
 intro pins s σ H D I h
 refine wpAny_If (thn (hc pins s σ H _ I h) fun d s1 hPl=> ?_)
 obtain⟨H1,I1,q1⟩:=hPl
 cases d with
 |true=>exact ha pins s1 σ H1 D I1 q1
 |false=>exact hb pins s1 σ H1 D I1 q1
end
noncomputable abbrev TG:=V→St→Hp→(St→Hp→Prop)→Prop
noncomputable abbrev TGs:=List V→St→Hp→(St→Hp→Prop)→Prop
noncomputable def PG(X:Cx)(target:Expr)(t:TG):Prop:=
 ∀(pins:List (Addr×Obj)) (s:Shared) (σ:St) (H:Hp) (v:V) (u:Value) (Q:St→Hp→Prop),Inv X pins σ H s→RelV v u→t v σ H Q→
  wpAny (model X.prog X.w) X.A (assign target X.env u) (fun _ s'=>∃σ' H',Inv X pins σ' H' s'∧Q σ' H') X.xe s
noncomputable def PGs(X:Cx)(ts:List Expr)(t:TGs):Prop:=
 ∀(pins:List (Addr×Obj)) (s:Shared) (σ:St) (H:Hp) (vs:List V) (us:List Value) (Q:St→Hp→Prop),Inv X pins σ H s→Vals vs us→t vs σ H Q→
  wpAny (model X.prog X.w) X.A (assignInOrder ((assignEach ts X.env).map (·.2)) us) (fun _ s'=>∃σ' H',Inv X pins σ' H' s'∧Q σ' H') X.xe s
noncomputable abbrev TSet:=V→V→V→Hp→(Hp→Prop)→Prop
noncomputable def PSet(X:Cx)(t:TSet):Prop:=
 ∀(pins:List (Addr×Obj)) (s:Shared) (σ:St) (H:Hp) (o i v:V) (ov iv u:Value) (Q:Hp→Prop),Inv X pins σ H s→RelV o ov→RelV i iv→RelV v u→t o i v H Q→
  wpAny (model X.prog X.w) X.A (setItem ov iv u) (fun _ s'=>∃H',Inv X pins σ H' s'∧Q H') X.xe s
section
variable{X:Cx}{pos:Pos}
noncomputable def gName(i:Nat):TG:=fun v σ H Q=>Q (σ.set i (some v)) H
theorem pg_name{i:Nat}{x:Str}(hN:X.N.Nodup)(hi:X.N[i]? =some x)(hx:Loc X.env.scope x)(hf:X.fn x=true∨X.env.scope.names.lookup x=some .local:=by first|exact .inl rfl|exact .inr rfl|assumption):PG X (.Name x pos) (gName i):=by
 intro pins s σ H v u Q I r h
 exact wpAny_assign_Name (store_ok I hN hi hx r (fun s' I'=>⟨_,H,I',h⟩) hf)
noncomputable def gNil:TGs:=fun vs σ H Q=>vs=[]∧Q σ H
noncomputable def gCons(t:TG)(u:TGs):TGs:=fun vs σ H Q=>∃v r,vs=v::r∧t v σ H fun σ' H'=>u r σ' H' Q
theorem pgs_nil:PGs X [] gNil:=by
 intro pins s σ H vs us Q I r h
 obtain⟨e,h⟩:=h
 subst e
 cases r
 exact assignInOrder_nil ⟨σ,H,I,h⟩
theorem pgs_cons{e:Expr}{es:List Expr}{t:TG}{u:TGs}(h1:PG X e t)(h2:PGs X es u)
  (hs:(assignEach (e::es) X.env).map (·.2)=assign e X.env::(assignEach es X.env).map (·.2):=by rfl):PGs X (e::es) (gCons t u):=by
 intro pins s σ H vs us Q I r h
 obtain⟨v,vr,e1,h⟩:=h
 subst e1
 cases r with
 |cons r rr=>
  rw[hs]
  refine assignInOrder_cons (thn (h1 pins s σ H _ _ _ I r h) fun _ s1 hPl=> ?_)
  obtain⟨σ1,H1,I1,q1⟩:=hPl
  exact h2 pins s1 σ1 H1 _ _ Q I1 rr q1
noncomputable def gTup(K:PySem.W.Frag)(n:Nat)(t:TGs):TG:=fun v σ H Q=>∃a xs,v= .ref a∧SqT K H a xs∧xs.length=n∧t xs σ H Q
theorem pg_tup{es:List Expr}{k:Nat}{t:TGs}{n:Nat}(hc:X.calm=true)(h:PGs X es t)
  (hn:(assignEach es X.env).length=n:=by rfl) (hst:(assignEach es X.env).findIdx? (·.1)=none:=by rfl):PG X (.Tuple es k pos) (gTup X.K n t):=by
 intro pins s σ H v u Q I r hw
 obtain⟨a,xs,e1,hq,hl,hw⟩:=hw
 subst e1
 cases r
 obtain⟨its,rv,ht,hz⟩:=I.tuple hq
 refine assign_Tuple_tuple (I.ok.hd hc) ht (by simp[hn,←hl,rv.length]) hst fun h' hx=> ?_
 have I1:Inv X pins σ H {s with heap:=h'}:=I.kept (t':=s.toks) fun b o e=>hx b o (Nat.ne_of_lt (Heap.lt_size e)) e
 exact h pins _ σ H xs _ Q I1 (by simpa using rv) hw
noncomputable def gSub(to ti:TE)(t:TSet):TG:=fun v σ H Q=>to σ H fun o H1=>ti σ H1 fun i H2=>t o i v H2 fun H3=>Q σ H3
theorem pg_sub{o i:Expr}{to ti:TE}{t:TSet}(ho:PE X o to)(hi:PE X i ti)(hs:PSet X t)
  (ha:∀v,assign (.Subscript o i pos) X.env v=(do
   let ov ←holding [v] (eval o X.env)
   let iv ←holding [v,ov] (eval i X.env)
   standAt pos
   holding [v,ov,iv] (setItem ov iv v)
   release [v,ov,iv] []):=by intro _;rfl):PG X (.Subscript o i pos) (gSub to ti t):=by
 intro pins s σ H v u Q I r h
 rw[ha]
 refine wpAny_bind (wpAny_holding (thn (ho pins s σ H _ I h) fun ov s1 hPl=> ?_))
 obtain⟨x,H1,I1,r1,q1⟩:=hPl
 refine wpAny_bind (wpAny_holding (thn (hi pins s1 σ H1 _ I1 q1) fun iv s2 hPl=> ?_))
 obtain⟨y,H2,I2,r2,q2⟩:=hPl
 refine wpAny_bind (wpAny_standAt (wpAny_bind (wpAny_holding (thn (hs pins s2 σ H2 x y v ov iv u _ I2 r1 r2 r q2) fun _ s3 hPl=> ?_))))
 obtain⟨H3,I3,q3⟩:=hPl
 exact wpAny_release ⟨σ,H3,I3,q3⟩
noncomputable def tAsg(te:TE)(g:TG):TS:=fun D σ H=>te σ H fun x H1=>g x σ H1 D.nx
theorem ps_asg{tg e:Expr}{te:TE}{g:TG}(he:PE X e te)(hg:PG X tg g)(hs:swapsWithSole [tg] e pos.line X.env=pure false:=by rfl)(hw:swappedStores [tg] e X.env=pure none:=by rfl)
  (h1:(assignEach [tg] X.env).map (·.2)=[assign tg X.env]:=by rfl):PS X (.Assign [tg] e pos) (tAsg te g):=by
 intro pins s σ H D I h
 refine wpAny_Assign_stores (thn (he pins s σ H _ I h) fun v s1 hPl=> ?_) hs hw
 obtain⟨x,H1,I1,r1,q1⟩:=hPl
 rw[h1]
 exact thn (hg pins s1 σ H1 x v _ I1 r1 q1) fun _ s2 q=>q
theorem ps_set{i:Nat}{x:Str}{e:Expr}{te:TE}{pos':Pos}(hN:X.N.Nodup)(hi:X.N[i]? =some x)(hx:Loc X.env.scope x)(he:PE X e te)(hs:swapsWith e (some (.Name x pos')) pos.line X.env=pure false:=by rfl)(hf:X.fn x=true∨X.env.scope.names.lookup x=some .local:=by first|exact .inl rfl|exact .inr rfl|assumption):
  PS X (.Assign [.Name x pos'] e pos) (tAsg te (gName i)):=by
 intro pins s σ H D I h
 refine wpAny_Assign_Name (thn (he pins s σ H _ I h) fun v s1 hPl=> ?_) hs
 obtain⟨y,H1,I1,r1,q1⟩:=hPl
 exact store_ok I1 hN hi hx r1 (fun s2 I2=>⟨_,H1,I2,q1⟩) hf
end
section
variable{X:Cx}{pos:Pos}
noncomputable def tWhile(c:TT)(tb:TS):TS:=fun D σ H=>∃W:Nat→St→Hp→Prop,(∃m,W m σ H)∧∀m σ H,W m σ H→
 c σ H fun b H1=>if b=true then∃N:St→Hp→Prop,(∀σ' H',N σ' H'→∃m',m'<m∧W m' σ' H')∧tb {D with nx:=N,ct:=N,bk:=D.nx} σ H1 else D.nx σ H1
theorem ps_while{c:Expr}{body:List Stmt}{tc:TT}{tb:TS}(hp:PassesOwn (model X.prog X.w) X.A X.env X.xe)(hc:PT X c tc)(hb:PSs X body tb):PS X (.While c body [] pos) (tWhile tc tb):=by
 intro pins s σ H D I h
 obtain⟨W,⟨m0,w0⟩,turn⟩:=h
 refine wpAny_While (codeAny_whileLoop (fun n s'=>∃σ' H',Inv X pins σ' H' s'∧W n σ' H') ?_ m0 ⟨σ,H,I,w0⟩)
 rintro n s1 ⟨σ1,H1,I1,w1⟩
 refine wpAny_passesOwn hp (thn (hc pins s1 σ1 H1 _ I1 (turn n σ1 H1 w1)) fun b s2 hPl=> ?_)
 obtain⟨H2,I2,q2⟩:=hPl
 cases b with
 |true=>
  obtain⟨N,hN,q2⟩:=q2
  rw[if_pos rfl]
  refine wpAny_passesOwn hp (thn (hb pins s2 σ1 H2 _ I2 q2) fun f s3 q3=> ?_)
  cases f with
  |next=>
   obtain⟨σ3,H3,I3,n3⟩:=q3
   obtain⟨m',hm,w3⟩:=hN σ3 H3 n3
   exact⟨m',hm,σ3,H3,I3,w3⟩
  |cont=>
   obtain⟨σ3,H3,I3,n3⟩:=q3
   obtain⟨m',hm,w3⟩:=hN σ3 H3 n3
   exact⟨m',hm,σ3,H3,I3,w3⟩
  |brk=>exact q3
  |ret v=>exact q3
 |false=>
  rw[if_neg Bool.false_ne_true]
  exact wpAny_execs_nil ⟨σ1,H2,I2,q2⟩
end
structure It where
 go:Nat→Hp→Prop
 yld:Nat→Hp→V→Hp→Prop
 stop:Nat→Hp→Prop
noncomputable def FpOk(X:Cx)(pins:List (Addr×Obj))(H:Hp)(b:Addr):Prop:=
 H b=none∧b≠X.env.locals∧b∉X.fs∧(b∈X.ex∨X.s₀.heap.objs.size≤b)∧(∀x c,X.env.cells.lookup x=some c→c≠b)∧∀p∈X.pn++pins,p.1≠b
theorem Inv.fpOk{X:Cx}{pins:List (Addr×Obj)}{σ:St}{H H':Hp}{s:Shared}{b:Addr}(I:Inv X pins σ H s)(hb:s.heap.objs.size≤b)(hn:H' b=none):FpOk X pins H' b:=by
 refine⟨hn,Nat.ne_of_gt (Nat.lt_of_lt_of_le I.lt hb),I.nofs hb,.inr (Nat.le_trans I.sz hb),fun x c e z=> ?_,fun p hp z=> ?_⟩
 ·obtain⟨v,q⟩:=I.cell x c e
  exact absurd (Nat.lt_of_lt_of_le q.lt (by rw[z];exact hb)) (Nat.lt_irrefl _)
 ·exact absurd (Nat.lt_of_lt_of_le (Heap.lt_size (I.pin p hp).1) (by rw[z];exact hb)) (Nat.lt_irrefl _)
structure Turn(P:Program)(w:World)(K:PySem.W.Frag)(tg:Expr)(J:It)(fp:List Addr)(it:Addr)(tn:Nat→Heap→Prop):Prop where
 mem:it∈fp
 obj:∀i h,tn i h→∀b∈fp,∃o,h.get? b=some o∧∀v,o.data≠ .cell v
 keep:∀i h h',tn i h→(∀b∈fp,∀o,h.get? b=some o→h'.get? b=some o)→tn i h'
 item:∀(X:Cx),X.prog=P→X.w=w→X.K=K→X.calm=true→∀(i:Nat) (pins:List (Addr×Obj)) (s:Shared) (σ:St) (H:Hp) (E:Value→Shared→Prop),Inv X pins σ H s→(∀b∈fp,FpOk X pins H b)→tn i s.heap→J.go i H→
  wpAny (model P w) X.A (pyNext (.ref it)) (fun r s1=>∃u,r=some u∧
   wpAny (model P w) X.A (letOwnedTupleGo tg (.ref it) u) (fun _ s2=>∃x H',Inv X pins σ H' s2∧RelV x u∧J.yld i H x H'∧tn (i+1) s2.heap∧∀b∈fp,H' b=none) E s1) E s
 done:∀(X:Cx),X.prog=P→X.w=w→X.K=K→X.calm=true→∀(i:Nat) (pins:List (Addr×Obj)) (s:Shared) (σ:St) (H:Hp) (E:Value→Shared→Prop),Inv X pins σ H s→(∀b∈fp,FpOk X pins H b)→tn i s.heap→J.stop i H→
  wpAny (model P w) X.A (pyNext (.ref it)) (fun r s1=>r=none∧Inv X pins σ H s1) E s
 self:∀(A:Around) (i:Nat) (s:Shared) (Q:Value→Shared→Prop) (E:Value→Shared→Prop),tn i s.heap→Q (.ref it) s→wpAny (model P w) A (pyIter (.ref it)) Q E s
noncomputable abbrev TI:=St→Hp→(It→Hp→Prop)→Prop
noncomputable def PIE(X:Cx)(pins:List (Addr×Obj))(σ:St)(tg:Expr)(R:It→Hp→Prop)(itv:Value)(s2:Shared):Prop:=
 ∃(it:Addr) (fp:List Addr) (tn:Nat→Heap→Prop) (J:It) (H':Hp),itv= .ref it∧Inv X pins σ H' s2∧Turn X.prog X.w X.K tg J fp it tn∧tn 0 s2.heap∧(∀b∈fp,FpOk X pins H' b)∧R J H'
noncomputable def PI(X:Cx)(tg iter:Expr)(wi:TI):Prop:=
 ∀(pins:List (Addr×Obj)) (s:Shared) (σ:St) (H:Hp) (R:It→Hp→Prop),Inv X pins σ H s→wi σ H R→
  wpAny (model X.prog X.w) X.A (eval iter X.env) (fun v s1=>wpAny (model X.prog X.w) X.A (pyIter v) (PIE X pins σ tg R) X.xe s1) X.xe s
theorem go_of{M:Model}{A:Around}{E:Value→Shared→Prop}{s:Shared}{tg:Expr}{it:Addr}{u:Value}{o:Obj}{n:String}{vs:Array Value}{Q:Unit→Shared→Prop}(ho:s.heap.get? it=some o)(hc:o.cls= .type n)(hd:o.data= .fields vs)
  (hn:["enumerate", "zip", "dict_itemiterator", "dict_reverseitemiterator", "odict_iterator", "itertools.zip_longest", "itertools.pairwise"].contains n=false) (hQ:Q () s):wpAny M A (letOwnedTupleGo tg (.ref it) u) Q E s:=by
 unfold letOwnedTupleGo
 cases tg<;>first
  |exact wpAny_pure hQ
  |(cases u<;>first
    |exact wpAny_pure hQ
    |(refine wpAny_bind (wpAny_load ho ?_)
      rw[hc,hd]
      show wpAny M A (if(["enumerate", "zip", "dict_itemiterator", "dict_reverseitemiterator", "odict_iterator", "itertools.zip_longest", "itertools.pairwise"].contains n&&vs[0]? ==some (rawInt _))=true then _ else _) Q E s
      rw[if_neg (by intro h;rw[hn,Bool.false_and]at h;cases h)]
      exact wpAny_pure hQ))
noncomputable def Itl(K:PySem.W.Frag)(a:Addr):It:=
 ⟨fun i H=>∃xs x,SqL K H a xs∧xs[i]? =some x,fun i H x H'=>H'=H∧∀xs,SqL K H a xs→xs[i]? =some x,fun i H=>∃xs,SqL K H a xs∧xs.length≤i⟩
noncomputable def Itt(K:PySem.W.Frag)(a:Addr):It:=
 ⟨fun i H=>∃xs x,SqT K H a xs∧xs[i]? =some x,fun i H x H'=>H'=H∧∀xs,SqT K H a xs→xs[i]? =some x,fun i H=>∃xs,SqT K H a xs∧xs.length≤i⟩
noncomputable def Itr(lo:Int)(n:Nat):It:=⟨fun i _=>i<n,fun i H x H'=>H'=H∧x= .int (lo+i),fun i _=>n≤i⟩
theorem turn_list{P:Program}{w:World}{K:PySem.W.Frag}{tg:Expr}(a it:Addr):Turn P w K tg (Itl K a) [it] it (fun i h=>h.IsListIter it a i) where
 mem:=by simp
 obj:=fun i h st b hb=>by
  have e:b=it:=by simpa using hb
  subst e
  obtain⟨o,e,c,d⟩:=st
  exact⟨o,e,fun v z=>by rw[d]at z;cases z⟩
 keep:=fun i h h' st k=>st.at fun o e=>k it (by simp) o e
 item:=by
  intro X hP hw hK hc i pins s σ H E I hf st hg
  subst hP hw hK
  obtain⟨xs,x,hq,hx⟩:=hg
  obtain⟨its,rv,p,hz⟩:=I.list hq
  obtain⟨u,hu,ru⟩:=rv.get hx
  obtain⟨f0,f1,f2,f3,f4,f5⟩:=hf it (by simp)
  refine wpAny_pyNext_list_item st p.isList (x:=u) (by simpa using hu) fun h' st' sb=> ?_
  have I1:Inv X pins σ H {s with heap:=h'}:=I.turned (t':=s.toks) (fun b o hb e=>(sb.2 b hb).trans e) f0 f1 f3 f4 f5
  obtain⟨o,e,c,d⟩:=id st'
  exact⟨u,rfl,go_of (s:={s with heap:=h'}) e c d (by decide) ⟨x,H,I1,ru,⟨rfl,fun ys hy=>by rw[I.list_inj hy hq];exact hx⟩,st',fun b hb=>(hf b hb).1⟩⟩
 done:=by
  intro X hP hw hK hc i pins s σ H E I hf st hg
  subst hP hw hK
  obtain⟨xs,hq,hx⟩:=hg
  obtain⟨its,rv,p,hz⟩:=I.list hq
  obtain⟨f0,f1,f2,f3,f4,f5⟩:=hf it (by simp)
  have hl:=rv.length
  exact wpAny_pyNext_list_end (I.ok.hd hc) st p.isList (by simp;(first|lia|omega)) fun h' eb=>⟨rfl,I.turned (t':=s.toks) (fun b o hb e=>eb b o hb e) f0 f1 f3 f4 f5⟩
 self:=fun _ _ _ _ _ st h=>wpAny_pyIter_listiter st h
theorem turn_tuple{P:Program}{w:World}{K:PySem.W.Frag}{tg:Expr}(a it:Addr):Turn P w K tg (Itt K a) [it] it (fun i h=>h.IsTupleIter it a i) where
 mem:=by simp
 obj:=fun i h st b hb=>by
  have e:b=it:=by simpa using hb
  subst e
  obtain⟨o,e,c,d⟩:=st
  exact⟨o,e,fun v z=>by rw[d]at z;cases z⟩
 keep:=fun i h h' st k=>st.at fun o e=>k it (by simp) o e
 item:=by
  intro X hP hw hK hc i pins s σ H E I hf st hg
  subst hP hw hK
  obtain⟨xs,x,hq,hx⟩:=hg
  obtain⟨its,rv,p,hz⟩:=I.tuple hq
  obtain⟨u,hu,ru⟩:=rv.get hx
  obtain⟨f0,f1,f2,f3,f4,f5⟩:=hf it (by simp)
  refine wpAny_pyNext_tuple_item st (show s.heap.IsTuple a its.toArray from p) (x:=u) (by simpa using hu) fun h' st' sb=> ?_
  have I1:Inv X pins σ H {s with heap:=h'}:=I.turned (t':=s.toks) (fun b o hb e=>(sb.2 b hb).trans e) f0 f1 f3 f4 f5
  obtain⟨o,e,c,d⟩:=id st'
  exact⟨u,rfl,go_of (s:={s with heap:=h'}) e c d (by decide) ⟨x,H,I1,ru,⟨rfl,fun ys hy=>by rw[I.tuple_inj hy hq];exact hx⟩,st',fun b hb=>(hf b hb).1⟩⟩
 done:=by
  intro X hP hw hK hc i pins s σ H E I hf st hg
  subst hP hw hK
  obtain⟨xs,hq,hx⟩:=hg
  obtain⟨its,rv,p,hz⟩:=I.tuple hq
  obtain⟨f0,f1,f2,f3,f4,f5⟩:=hf it (by simp)
  have hl:=rv.length
  exact wpAny_pyNext_tuple_end (I.ok.hd hc) st (show s.heap.IsTuple a its.toArray from p) (by simp;(first|lia|omega)) fun h' eb=>⟨rfl,I.turned (t':=s.toks) (fun b o hb e=>eb b o hb e) f0 f1 f3 f4 f5⟩
 self:=fun _ _ _ _ _ st h=>wpAny_pyIter_tupleiter st h
theorem turn_range{P:Program}{w:World}{K:PySem.W.Frag}{tg:Expr}(it:Addr)(lo:Int)(n:Nat):Turn P w K tg (Itr lo n) [it] it (fun i h=>IsRangeIter h it (lo+(i:Nat)*1) ((n:Int)-(i:Nat)) 1) where
 mem:=by simp
 obj:=fun i h st b hb=>by
  have e:b=it:=by simpa using hb
  subst e
  exact⟨_,st,fun v z=>by
   have z':Data.fields _=Data.cell v:=z
   cases z'⟩
 keep:=fun i h h' st k=>k it (by simp) _ st
 item:=by
  intro X hP hw hK hc i pins s σ H E I hf st hg
  subst hP hw hK
  obtain⟨f0,f1,f2,f3,f4,f5⟩:=hf it (by simp)
  have W:=Walks.range (prog:=X.prog) (w:=X.w) (I.ok.hd hc) it lo 1 n
  refine W.item i s _ _ hg st fun v h' tk hv st' kk=> ?_
  obtain⟨t,rfl⟩:=hv
  have I1:Inv X pins σ H {s with heap:=h',toks:=tk}:=I.turned (fun b o hb e=>kk b o (by simpa using hb) e) f0 f1 f3 f4 f5
  refine⟨_,rfl,go_of (s:={s with heap:=h',toks:=tk}) (n:= "range_iterator") st' rfl rfl (by decide) ⟨.int (lo+i),H,I1,⟨t,?_⟩,⟨rfl,rfl⟩,st',fun b hb=>(hf b hb).1⟩⟩
  rw[Int.mul_one]
 done:=by
  intro X hP hw hK hc i pins s σ H E I hf st hg
  subst hP hw hK
  obtain⟨f0,f1,f2,f3,f4,f5⟩:=hf it (by simp)
  exact wpAny_pyNext_range_end (I.ok.hd hc) st (by have:n≤i:=hg;(first|lia|omega)) fun h' eb=>⟨rfl,I.turned (t':=s.toks) (fun b o hb e=>eb b o hb e) f0 f1 f3 f4 f5⟩
 self:=fun _ _ _ _ _ st h=>wpAny_pyIter_rangeiter st h
end L2
namespace L2
open PySem PySem.Spec PyProof.Rows
section
variable{X:Cx}{tg:Expr}
noncomputable def iList(K:PySem.W.Frag)(tl:TE):TI:=fun σ H R=>tl σ H fun x H1=>∃a,x= .ref a∧(∃xs,SqL K H1 a xs)∧R (Itl K a) H1
theorem pi_list{l:Expr}{tl:TE}(hl:PE X l tl):PI X tg l (iList X.K tl):=by
 intro pins s σ H R I h
 refine thn (hl pins s σ H _ I h) fun v s1 hPl=> ?_
 obtain⟨x,H1,I1,r1,q1⟩:=hPl
 obtain⟨a,e,⟨xs,hq⟩,q⟩:=q1
 subst e
 cases r1
 obtain⟨its,rv,p,hz⟩:=I1.list hq
 refine wpAny_pyIter_list p.isList ?_
 refine⟨s1.heap.objs.size,[s1.heap.objs.size],_,_,H1,rfl,I1.kept (t':=s1.toks) fun b o e=>Heap.get?_push_of_some _ e,turn_list a _,⟨_,Heap.get?_push_size _ rfl,rfl,rfl⟩,fun b hb=> ?_,q⟩
 have e:b=s1.heap.objs.size:=by simpa using hb
 subst e
 exact I1.fpOk (Nat.le_refl _) (I1.hok.fresh (Nat.le_refl _))
theorem range_it{pins:List (Addr×Obj)}{σ:St}{H:Hp}{s:Shared}{R:It→Hp→Prop}{E:Value→Shared→Prop}{lo hi:Int}{t u v:Tok}{tk:Nat}(I:Inv X pins σ H s)(h1: -(2^62)≤lo)(h2:lo<2^62)(h3: -(2^62)≤hi)(h4:hi<2^62)
  (q:R (Itr lo (hi-lo).toNat) H):wpAny (model X.prog X.w) X.A (pyIter (.ref s.heap.objs.size)) (PIE X pins σ tg R) E {s with heap:=s.heap.push {cls:= .type "range",data:= .fields #[.int lo t,.int hi u,.int 1 v]},toks:=tk}:=by
 refine wpAny_pyIter_range (IsRange.new ..) (small_one h1 h2 h3 h4) ?_
 have I1:Inv X pins σ H {s with heap:=s.heap.push {cls:= .type "range",data:= .fields #[.int lo t,.int hi u,.int 1 v]},toks:=tk}:=I.kept fun b o e=>Heap.get?_push_of_some _ e
 refine⟨(s.heap.push {cls:= .type "range",data:= .fields #[.int lo t,.int hi u,.int 1 v]}).objs.size,[(s.heap.push {cls:= .type "range",data:= .fields #[.int lo t,.int hi u,.int 1 v]}).objs.size],_,_,H,rfl,
  I1.kept (t':=tk) fun b o e=>Heap.get?_push_of_some _ e,turn_range _ lo (hi-lo).toNat,?_,fun b hb=> ?_,q⟩
 ·have e1:lo+((0:Nat):Int)*1=lo:=by simp
  have e2:(((hi-lo).toNat:Nat):Int)-((0:Nat):Int)=Builtin.Range.rangeSize lo hi 1:=by rw[rangeSize_one];split<;>(first|lia|omega)
  show IsRangeIter _ _ (lo+((0:Nat):Int)*1) ((((hi-lo).toNat:Nat):Int)-((0:Nat):Int)) 1
  rw[e1,e2]
  exact Heap.get?_push_size _ rfl
 ·have e:b=(s.heap.push {cls:= .type "range",data:= .fields #[.int lo t,.int hi u,.int 1 v]}).objs.size:=by simpa using hb
  subst e
  exact I1.fpOk (Nat.le_refl _) (I1.hok.fresh (Nat.le_refl _))
noncomputable def iRng1(ta:TA):TI:=fun σ H R=>ta σ H fun vs H1=>∃j:Int,vs=[.int j]∧-(2^62)≤j∧j<2^62∧R (Itr 0 j.toNat) H1
theorem pi_range1{a:Expr}{ta:TA}{p pos:Pos}(hg:Gl X "range")(hm:X.mg "range" =none)(ha:PA X [a] ta)(hs:starEach [a] X.env=[(false,eval a X.env)]:=by rfl):PI X tg (.Call (.Name "range" p) [a] [] pos) (iRng1 ta):=by
 intro pins s σ H R I h
 refine Call_ (ld_blt I hg hm boot_range (PyProof.Rows.callWith_type1 (thn (ha pos pins s σ H _ I h) fun us s1 hPl=> ?_) hs rfl))
 obtain⟨vs,H1,I1,r1,q1⟩:=hPl
 obtain⟨j,e,q1,q2,q⟩:=q1
 subst e
 cases r1 with
 |cons r rr=>
  cases rr
  obtain⟨t,rfl⟩:=r
  exact call_range_1 (range_it I1 (by(first|lia|omega)) (by(first|lia|omega)) q1 q2 (by simpa using q))
noncomputable def tFor(wi:TI)(g:TG)(tb:TS):TS:=fun D σ H=>wi σ H fun J H1=>∃W:Nat→Nat→St→Hp→Prop,(∃m,W 0 m σ H1)∧∀i m σ H,W i m σ H→
 (J.stop i H∧D.nx σ H)∨(J.go i H∧∃N:St→Hp→Prop,(∀σ' H',N σ' H'→∃m',m'<m∧W (i+1) m' σ' H')∧∀x H',J.yld i H x H'→g x σ H' fun σ2 H2=>tb {D with nx:=N,ct:=N,bk:=D.nx} σ2 H2)
noncomputable def pinsAt(fp:List Addr)(h:Heap):List (Addr×Obj):=fp.filterMap fun b=>(h.get? b).map fun o=>(b,o)
theorem mem_pinsAt{fp:List Addr}{h:Heap}{b:Addr}{o:Obj}(hb:b∈fp)(e:h.get? b=some o):(b,o)∈pinsAt fp h:=List.mem_filterMap.mpr ⟨b,hb,by rw[e];rfl⟩
theorem of_pinsAt{fp:List Addr}{h:Heap}{p:Addr×Obj}(hp:p∈pinsAt fp h):p.1∈fp∧h.get? p.1=some p.2:=by
 obtain⟨b,hb,e⟩:=List.mem_filterMap.mp hp
 cases q:h.get? b with
 |none=>rw[q]at e;cases e
 |some o=>
  rw[q]at e
  have e':(b,o)=p:=Option.some.inj e
  subst e'
  exact⟨hb,q⟩
theorem Inv.pinned{pins:List (Addr×Obj)}{σ:St}{H:Hp}{s:Shared}{fp:List Addr}(I:Inv X pins σ H s)(hf:∀b∈fp,FpOk X pins H b)(ho:∀b∈fp,∃o,s.heap.get? b=some o∧∀v,o.data≠ .cell v):Inv X (pins++pinsAt fp s.heap) σ H s:=
 I.pins_of fun p hp=>(List.mem_append.mp hp).elim (fun z=>I.pin p (List.mem_append_right _ z)) fun z=>by
  obtain⟨hb,e⟩:=of_pinsAt z
  obtain⟨f0,f1,f2,_⟩:=hf p.1 hb
  obtain⟨o,e',d⟩:=ho p.1 hb
  rw[e]at e';cases e'
  exact⟨e,f0,f1,f2,d⟩
theorem Inv.unpinned{pins pl:List (Addr×Obj)}{σ:St}{H:Hp}{s:Shared}(I:Inv X (pins++pl) σ H s):Inv X pins σ H s:=I.pins_of fun p hp=>I.pin p (List.mem_append_right _ (List.mem_append_left _ hp))
theorem ps_for{iter:Expr}{body:List Stmt}{wi:TI}{g:TG}{tb:TS}{pos:Pos}(hp:PassesOwn (model X.prog X.w) X.A X.env X.xe)(hc:X.calm=true)(hi:PI X tg iter wi)(hg:PG X tg g)(hb:PSs X body tb)
  (hs:∀x,foldedSetIterable iter X.env x=pure x:=by intro _;rfl):PS X (.For tg iter body [] pos) (tFor wi g tb):=by
 intro pins s σ H D I h
 refine wpAny_For (thn (hi pins s σ H _ I h) fun v s1 h1=>thn h1 fun itv s2 h2=> ?_) hs
 obtain⟨it,fp,tn,J,H2,e,I2,T,st2,f2,W,⟨m0,w0⟩,turn⟩:=h2
 subst e
 -- what stays true of the iterator's objects through the loop
 have stat:∀{H':Hp},(∀b∈fp,H' b=none)→∀b∈fp,FpOk X pins H' b:=fun hn b hb=>⟨hn b hb,(f2 b hb).2⟩
 refine codeAny_forLoop_any (fun n s'=>∃i σ' H',Inv X pins σ' H' s'∧tn i s'.heap∧(∀b∈fp,H' b=none)∧W i n σ' H') ?_ m0 ⟨0,σ,H2,I2,st2,fun b hb=>(f2 b hb).1,w0⟩
 rintro n s3 ⟨i,σ3,H3,I3,st3,fr3,w3⟩
 rcases turn i n σ3 H3 w3 with⟨stop,qn⟩|⟨go,N,hN,step⟩
 ·refine wpAny_passesOwn hp (thn (T.done X rfl rfl rfl hc i pins s3 σ3 H3 X.xe I3 (stat fr3) st3 stop) fun r s4 hPl=> ?_)
  obtain⟨hr,I4⟩:=hPl
  subst hr
  exact wpAny_execs_nil ⟨σ3,H3,I4,qn⟩
 ·refine wpAny_passesOwn hp (thn (T.item X rfl rfl rfl hc i pins s3 σ3 H3 X.xe I3 (stat fr3) st3 go) fun r s4 hPl=> ?_)
  obtain⟨u,hr,h4⟩:=hPl
  subst hr
  refine wpAny_passesOwn hp (thn h4 fun _ s5 hPl=> ?_)
  obtain⟨x,H5,I5,r5,y5,st5,fr5⟩:=hPl
  have I5':=I5.pinned (stat fr5) (T.obj _ _ st5)
  refine wpAny_passesOwn hp (thn (hg _ s5 σ3 H5 x u _ I5' r5 (step x H5 y5)) fun _ s6 hPl=> ?_)
  obtain⟨σ6,H6,I6,q6⟩:=hPl
  refine wpAny_passesOwn hp (thn (hb _ s6 σ6 H6 _ I6 q6) fun f s7 q7=> ?_)
  have again:∀{σ7:St} {H7:Hp},Inv X (pins++pinsAt fp s5.heap) σ7 H7 s7→N σ7 H7→∃m,m<n∧∃i σ' H',Inv X pins σ' H' s7∧tn i s7.heap∧(∀b∈fp,H' b=none)∧W i m σ' H':=fun{σ7 H7} I7 n7=>by
   obtain⟨m',hm,w7⟩:=hN σ7 H7 n7
   refine⟨m',hm,i+1,σ7,H7,I7.unpinned,T.keep _ _ _ st5 fun b hb o e=>(I7.pin (b,o) (List.mem_append_right _ (List.mem_append_right _ (mem_pinsAt hb e)))).1,fun b hb=> ?_,w7⟩
   obtain⟨o,e,d⟩:=T.obj _ _ st5 b hb
   exact(I7.pin (b,o) (List.mem_append_right _ (List.mem_append_right _ (mem_pinsAt hb e)))).2.1
  cases f with
  |next=>obtain⟨σ7,H7,I7,n7⟩:=q7;exact again I7 n7
  |cont=>obtain⟨σ7,H7,I7,n7⟩:=q7;exact again I7 n7
  |brk=>obtain⟨σ7,H7,I7,q7⟩:=q7;exact⟨σ7,H7,I7.unpinned,q7⟩
  |ret v=>obtain⟨x7,σ7,H7,I7,r7,q7⟩:=q7;exact⟨x7,σ7,H7,I7.unpinned,r7,q7⟩
end
end L2
namespace L2
open PySem PySem.Spec PyProof.Rows
noncomputable abbrev R2:=V→V→Hp→VK→Prop
noncomputable def OpR(X:Cx)(f:Value→Value→Sem Value)(r:R2):Prop:=
 ∀(pins:List (Addr×Obj)) (s:Shared) (σ:St) (H:Hp) (x y:V) (v u:Value) (Q:VK),Inv X pins σ H s→RelV x v→RelV y u→r x y H Q→
  wpAny (model X.prog X.w) X.A (f v u) (EP X pins σ Q) X.xe s
noncomputable def UnR(X:Cx)(f:Value→Sem Value)(r:V→Hp→VK→Prop):Prop:=
 ∀(pins:List (Addr×Obj)) (s:Shared) (σ:St) (H:Hp) (x:V) (v:Value) (Q:VK),Inv X pins σ H s→RelV x v→r x H Q→
  wpAny (model X.prog X.w) X.A (f v) (EP X pins σ Q) X.xe s
noncomputable def CallR(X:Cx)(f:Value)(r:List V→Hp→VK→Prop):Prop:=
 ∀(pins:List (Addr×Obj)) (s:Shared) (σ:St) (H:Hp) (xs:List V) (us:List Value) (Q:VK),Inv X pins σ H s→Vals xs us→r xs H Q→
  wpAny (model X.prog X.w) X.A (call f us) (EP X pins σ Q) X.xe s
noncomputable def tOp(r:R2)(ta tb:TE):TE:=fun σ H Q=>ta σ H fun x H1=>tb σ H1 fun y H2=>r x y H2 Q
noncomputable def tUn(r:V→Hp→VK→Prop)(ta:TE):TE:=fun σ H Q=>ta σ H fun x H1=>r x H1 Q
noncomputable def rI(C:Int→Int→Prop)(g:Int→Int→V):R2:=fun x y H Q=>∃i j,x= .int i∧y= .int j∧C i j∧Q (g i j) H
noncomputable def rI0(g:Int→Int→V):R2:=fun x y H Q=>∃i j,x= .int i∧y= .int j∧Q (g i j) H
noncomputable def rU(g:Int→V):V→Hp→VK→Prop:=fun x H Q=>∃i,x= .int i∧Q (g i) H
section
variable{X:Cx}{a b c:Expr}{ta tb tc:TE}{pos:Pos}
theorem binT(ha:PE X a ta)(hb:PE X b tb){pins:List (Addr×Obj)}{s:Shared}{σ:St}{H:Hp}{R:V→V→Hp→Prop}(I:Inv X pins σ H s)
  (h:ta σ H fun x H1=>tb σ H1 fun y H2=>R x y H2) {Q:Value→Shared→Prop} {f:Value→Value→Sem Value}
  (hf:∀v u s2 x y H2,Inv X pins σ H2 s2→RelV x v→RelV y u→R x y H2→wpAny (model X.prog X.w) X.A (f v u) Q X.xe s2):
  wpAny (model X.prog X.w) X.A (eval a X.env) (fun v s₁=>wpAny (model X.prog X.w) X.A (eval b X.env) (fun u s₂=>wpAny (model X.prog X.w) X.A (f v u) Q X.xe s₂) X.xe s₁) X.xe s:=by
 refine thn (ha pins s σ H _ I h) fun v s1 hPl=> ?_
 obtain⟨x,H1,I1,r1,q1⟩:=hPl
 refine thn (hb pins s1 σ H1 _ I1 q1) fun u s2 hPl=> ?_
 obtain⟨y,H2,I2,r2,q2⟩:=hPl
 exact hf v u s2 x y H2 I2 r1 r2 q2
theorem pe_op{op:Operator}{r:R2}(ho:OpR X (binaryOp op) r)(ha:PE X a ta)(hb:PE X b tb):PE X (.BinOp a op b pos) (tOp r ta tb):=by
 intro pins s σ H Q I h
 exact wpAny_BinOp (binT ha hb I h fun v u s2 x y H2 I2 rx ry q=>ho pins s2 σ H2 x y v u Q I2 rx ry q)
theorem pe_un{op:UnaryOp}{r:V→Hp→VK→Prop}(ho:UnR X (unaryOp op) r)(ha:PE X a ta):PE X (.UnaryOp op a pos) (tUn r ta):=by
 intro pins s σ H Q I h
 exact UnaryOp_ (thn (ha pins s σ H _ I h) fun v s1 ⟨x,H1,I1,r1,q1⟩=>ho pins s1 σ H1 x v Q I1 r1 q1)
theorem opI{f:Value→Value→Sem Value}{C:Int→Int→Prop}{g:Int→Int→Int}
  (rule:∀(i j:Int) (t u:Tok) (s:Shared) (Q:Value→Shared→Prop) (E:Value→Shared→Prop),C i j→Q (.int (g i j) s.toks) {s with toks:=s.toks+1}→wpAny (model X.prog X.w) X.A (f (.int i t) (.int j u)) Q E s):
  OpR X f (rI C fun i j=> .int (g i j)):=by
 intro pins s σ H x y v u Q I rx ry h
 obtain⟨i,j,rfl,rfl,hc,q⟩:=h
 obtain⟨t,rfl⟩:=rx
 obtain⟨t',rfl⟩:=ry
 exact rule i j t t' s _ _ hc ⟨.int (g i j),H,I.tok _,⟨_,rfl⟩,q⟩
theorem opI0{f:Value→Value→Sem Value}{g:Int→Int→Int}
  (rule:∀(i j:Int) (t u:Tok) (s:Shared) (Q:Value→Shared→Prop) (E:Value→Shared→Prop),Q (.int (g i j) s.toks) {s with toks:=s.toks+1}→wpAny (model X.prog X.w) X.A (f (.int i t) (.int j u)) Q E s):
  OpR X f (rI0 fun i j=> .int (g i j)):=by
 intro pins s σ H x y v u Q I rx ry h
 obtain⟨i,j,rfl,rfl,q⟩:=h
 obtain⟨t,rfl⟩:=rx
 obtain⟨t',rfl⟩:=ry
 exact rule i j t t' s _ _ ⟨.int (g i j),H,I.tok _,⟨_,rfl⟩,q⟩
theorem opB0{f:Value→Value→Sem Value}{g:Int→Int→Bool}
  (rule:∀(i j:Int) (t u:Tok) (s:Shared) (Q:Value→Shared→Prop) (E:Value→Shared→Prop),Q (.bool (g i j)) s→wpAny (model X.prog X.w) X.A (f (.int i t) (.int j u)) Q E s):
  OpR X f (rI0 fun i j=> .bl (g i j)):=by
 intro pins s σ H x y v u Q I rx ry h
 obtain⟨i,j,rfl,rfl,q⟩:=h
 obtain⟨t,rfl⟩:=rx
 obtain⟨t',rfl⟩:=ry
 exact rule i j t t' s _ _ ⟨.bl (g i j),H,I,rfl,q⟩
noncomputable def CPow(i j:Int):Prop:=0≤j∧j≤1000000∧i.natAbs<2^64
noncomputable def CMul(i j:Int):Prop:=(-(2^64)<i∧i<2^64)∨(-(2^64)<j∧j<2^64)
theorem CMul.ok{i j:Int}(h:CMul i j):IntMulOk i j:=by
 rcases h with⟨h1,h2⟩|⟨h1,h2⟩
 ·exact .of_left (intBits_le_64 h1 h2)
 ·exact .of_right (intBits_le_64 h1 h2)
theorem op_add:OpR X (binaryOp .Add) (rI0 fun i j=> .int (i+j)):=opI0 fun _ _ _ _ _ _ _ q=>add_int q
theorem op_sub:OpR X (binaryOp .Sub) (rI0 fun i j=> .int (i-j)):=opI0 fun _ _ _ _ _ _ _ q=>sub_int q
theorem op_mul:OpR X (binaryOp .Mult) (rI CMul fun i j=> .int (i*j)):=opI fun _ _ _ _ _ _ _ hc q=>mul_int q hc.ok
theorem op_mod:OpR X (binaryOp .Mod) (rI (fun _ j=>0<j) fun i j=> .int (i%j)):=opI fun i j _ _ _ _ _ hc q=>by
 have h1:(0:Int)<j:=hc
 exact mod_int' (by(first|lia|omega)) (by rw[Int.fmod_eq_emod_of_nonneg i (by(first|lia|omega))];exact q)
theorem op_pow:OpR X (binaryOp .Pow) (rI CPow fun i j=> .int (i^j.toNat)):=opI fun _ _ _ _ _ _ _ hc q=>pow_int_small hc.1 hc.2.1 hc.2.2 q
theorem unI{f:Value→Sem Value}{g:Int→Int}
  (rule:∀(i:Int) (t:Tok) (s:Shared) (Q:Value→Shared→Prop) (E:Value→Shared→Prop),Q (.int (g i) s.toks) {s with toks:=s.toks+1}→wpAny (model X.prog X.w) X.A (f (.int i t)) Q E s):
  UnR X f (rU fun i=> .int (g i)):=by
 intro pins s σ H x v Q I rx h
 obtain⟨i,rfl,q⟩:=h
 obtain⟨t,rfl⟩:=rx
 exact rule i t s _ _ ⟨.int (g i),H,I.tok _,⟨_,rfl⟩,q⟩
theorem un_neg:UnR X (unaryOp .USub) (rU fun i=> .int (-i)):=unI fun _ _ _ _ _ q=>neg_int q
end
section
variable{X:Cx}{a b c:Expr}{ta tb tc:TE}{pos:Pos}
theorem fin_bl{pins:List (Addr×Obj)}{σ:St}{H:Hp}{s:Shared}{Q:VK}{k k':Bool}(I:Inv X pins σ H s)(q:Q (.bl k) H)(e:k=k'):EP X pins σ Q (.bool k') s:=by
 subst e
 exact⟨.bl k,H,I,rfl,q⟩
theorem op_lt:OpR X (compareOp .Lt) (rI0 fun i j=> .bl (decide (i<j))):=opB0 fun _ _ _ _ _ _ _ q=>lt_int q
theorem op_le:OpR X (compareOp .LtE) (rI0 fun i j=> .bl (decide (i≤j))):=opB0 fun _ _ _ _ _ _ _ q=>le_int q
theorem op_gt:OpR X (compareOp .Gt) (rI0 fun i j=> .bl (decide (j<i))):=opB0 fun _ _ _ _ _ _ _ q=>gt_int q
theorem op_ge:OpR X (compareOp .GtE) (rI0 fun i j=> .bl (decide (j≤i))):=opB0 fun _ _ _ _ _ _ _ q=>ge_int q
theorem op_lt_str:OpR X (compareOp .Lt) (fun x y H Q=>∃i j,x= .str i∧y= .str j∧Q (.bl (decide (i.cps.toList<j.cps.toList))) H):=by
 intro pins s σ H x y v u Q I rx ry h
 obtain⟨i,j,rfl,rfl,q⟩:=h
 obtain⟨t,rfl⟩:=rx
 obtain⟨t',rfl⟩:=ry
 exact lt_str (fin_bl I q rfl)
theorem op_in_str:OpR X (compareOp .In) (fun x y H Q=>∃i j,x= .str i∧y= .str j∧Q (.bl (!(Builtin.Str.occurrences j i 0 j.length 1).isEmpty)) H):=by
 intro pins s σ H x y v u Q I rx ry h
 obtain⟨i,j,rfl,rfl,q⟩:=h
 obtain⟨t,rfl⟩:=rx
 obtain⟨t',rfl⟩:=ry
 exact in_str (fin_bl I q rfl)
theorem op_notin_str:OpR X (compareOp .NotIn) (fun x y H Q=>∃i j,x= .str i∧y= .str j∧Q (.bl (!(!(Builtin.Str.occurrences j i 0 j.length 1).isEmpty))) H):=by
 intro pins s σ H x y v u Q I rx ry h
 obtain⟨i,j,rfl,rfl,q⟩:=h
 obtain⟨t,rfl⟩:=rx
 obtain⟨t',rfl⟩:=ry
 exact notIn_str (fin_bl I q rfl)
theorem nomark(b:Expr){op:CmpOp}(h:op≠ .In:=by decide)(h2:op≠ .NotIn:=by decide):behindInMarks op b=false:=by
 have e1:(op==CmpOp.In)=false:=by cases op<;>first|rfl|exact absurd rfl h
 have e2:(op==CmpOp.NotIn)=false:=by cases op<;>first|rfl|exact absurd rfl h2
 cases b<;>simp[behindInMarks,e1,e2]
theorem pe_cmpR{op:CmpOp}{r:R2}(ho:OpR X (compareOp op) r)(ha:PE X a ta)(hb:PE X b tb)(hm:behindInMarks op b=false):PE X (.Compare a [op] [b] pos) (tOp r ta tb):=by
 intro pins s σ H Q I h
 exact wpAny_Compare1 (binT ha hb I h fun v u s2 x y H2 I2 rx ry q=>ho pins s2 σ H2 x y v u Q I2 rx ry q) hm
noncomputable def tTest(t:TE):TT:=fun σ H Q=>t σ H fun x H'=>∃k,x= .bl k∧Q k H'
theorem pt_cmpR{op:CmpOp}{r:R2}(ho:OpR X (compareOp op) r)(ha:PE X a ta)(hb:PE X b tb)(hm:behindInMarks op b=false):PT X (.Compare a [op] [b] pos) (tTest (tOp r ta tb)):=by
 intro pins s σ H Q I h
 refine wpAny_isTrue_Compare1 (thn (ha pins s σ H _ I h) fun v s1 ⟨x,H1,I1,r1,q1⟩=>thn (hb pins s1 σ H1 _ I1 q1) fun u s2 ⟨y,H2,I2,r2,q2⟩=>
  thn (ho pins s2 σ H2 x y v u _ I2 r1 r2 q2) fun c s3 ⟨z,H3,I3,r3,k,e,q3⟩=> ?_) hm
 subst e
 cases r3
 exact wpAny_truthy_bool ⟨H3,I3,q3⟩
noncomputable def tChain(r r':R2)(ta tb tc:TE):TE:=fun σ H Q=>ta σ H fun x H1=>tb σ H1 fun y H2=>r x y H2 fun z H3=>∃k,z= .bl k∧
 (if k=true then tc σ H3 fun w' H4=>r' y w' H4 Q else Q (.bl false) H3)
theorem pt_chain{op op':CmpOp}{r r':R2}(ho:OpR X (compareOp op) r)(ho':OpR X (compareOp op') r')(ha:PE X a ta)(hb:PE X b tb)(hc:PE X c tc)
  (hm:lastMarks [op,op'] [b,c]=false:=by with_unfolding_all rfl):PT X (.Compare a [op,op'] [b,c] pos) (tTest (tChain r r' ta tb tc)):=by
 intro pins s σ H Q I h
 refine isTrue_chain (thn (ha pins s σ H _ I h) fun v s1 ⟨x,H1,I1,r1,q1⟩=>test_link (thn (hb pins s1 σ H1 _ I1 q1) fun u s2 ⟨y,H2,I2,r2,q2⟩=>
  thn (ho pins s2 σ H2 x y v u _ I2 r1 r2 q2) fun d s3 ⟨z,H3,I3,r3,k,e,q3⟩=> ?_)) hm
 subst e
 cases r3
 refine wpAny_truthy_bool ?_
 cases k with
 |false=>
  obtain⟨k',e',q'⟩:=q3
  cases e'
  exact ite_ff ⟨H3,I3,q'⟩
 |true=>
  refine ite_tt (test_last (thn (hc pins s3 σ H3 _ I3 q3) fun w' s4 ⟨z',H4,I4,r4,q4⟩=>thn (ho' pins s4 σ H4 y z' u w' _ I4 r2 r4 q4) fun d' s5 ⟨z2,H5,I5,r5,k2,e2,q5⟩=> ?_))
  subst e2
  cases r5
  exact wpAny_truthy_bool ⟨H5,I5,q5⟩
theorem line63:(sizeLine:Nat)<2^63:=by rw[sizeLine_eq];decide
theorem op_add_str:OpR X (binaryOp .Add) (fun x y H Q=>∃i j,x= .str i∧y= .str j∧i.length+j.length≤sizeLine∧Q (.str (i++j)) H):=by
 intro pins s σ H x y v u Q I rx ry h
 obtain⟨i,j,rfl,rfl,hz,q⟩:=h
 obtain⟨t,rfl⟩:=rx
 obtain⟨t',rfl⟩:=ry
 exact add_str (fun t' tk=>⟨.str (i++j),H,I.tok _,⟨_,rfl⟩,q⟩) hz
theorem vals1{x:V}{us:List Value}(r:Vals [x] us):∃u,us=[u]∧RelV x u:=by
 cases r with
 |cons r1 r2=>cases r2;exact⟨_,rfl,r1⟩
theorem vals2{x y:V}{us:List Value}(r:Vals [x,y] us):∃u w',us=[u,w']∧RelV x u∧RelV y w':=by
 cases r with
 |cons r1 r2=>
  cases r2 with
  |cons r3 r4=>cases r4;exact⟨_,_,rfl,r1,r3⟩
theorem call_max2(hc:X.calm=true):CallR X (.builtin "max") (fun xs H Q=>∃i j,xs=[.int i,.int j]∧Q (.int (if j>i then j else i)) H):=by
 intro pins s σ H xs us Q I r h
 obtain⟨i,j,rfl,q⟩:=h
 obtain⟨u,w',rfl,⟨t,rfl⟩,⟨t',rfl⟩⟩:=vals2 r
 refine max_two_ints (I.ok.hd hc) fun h' tk k=>⟨_,H,I.kept k,?_,q⟩
 by_cases hj:j>i
 ·rw[if_pos hj,if_pos hj];exact⟨_,rfl⟩
 ·rw[if_neg hj,if_neg hj];exact⟨_,rfl⟩
end
end L2
namespace L2
open PySem PySem.Spec PyProof.Rows
structure ObjM(h:Heap)(x dx C:Addr)(mA:Str→Option Value):Prop where
 obj:h.get? x=some (PySem.W.instObj C dx)
 ns:h.Ns1 dx mA
 ne:dx≠x
theorem lookIn_ns{h:Heap}{dx:Addr}{mA:Str→Option Value}(n:h.Ns1 dx mA):∃od,h.get? dx=some od∧∀name,PySem.W.lookIn name od=some (mA name):=by
 obtain⟨o,es,ep,ho,hd,hk,_,hm⟩:=n
 refine⟨o,ho,fun name=> ?_⟩
 have e:=hm name
 unfold nsFind findBy at e
 rw[←Array.find?_toList]at e
 unfold PySem.W.lookIn
 rw[hd]
 dsimp only
 split
 ·rename_i y q
  rw[q]at e
  exact congrArg some e
 ·rename_i q
  rw[q]at e
  have a:es.toList.any (·.refKey)=false:=by
   rw[List.any_eq_false]
   intro y hy
   obtain⟨z,t,hkey⟩:=hk y (Array.mem_toList_iff.mp hy)
   simp[DictEntry.refKey,hkey]
  have a':¬es.toList.any (·.refKey)=true:=by rw[a];exact Bool.false_ne_true
  rw[if_neg a']
  exact congrArg some e
theorem ObjM.look{h:Heap}{x dx C:Addr}{mA:Str→Option Value}(I:ObjM h x dx C mA):∃od,PySem.W.InstAt h x (PySem.W.instObj C dx) C (some od)∧∀name,PySem.W.lookIn name od=some (mA name):=
 let⟨od,ho,hl⟩:=lookIn_ns I.ns
 ⟨od,⟨I.obj,rfl,rfl,ho⟩,hl⟩
section
variable{prog:Program}{w:World}{A:Around}{E:Value→Shared→Prop}{s:Shared}{K:PySem.W.Frag}{x dx C f:Addr}{mA:Str→Option Value}{name:Str}{v:Value}
theorem get_map{expr:Bool}{Q:Value→Shared→Prop}(X:K.In s.heap)(I:ObjM s.heap x dx C mA)(hg:PySem.W.plainGet K C name=true)(hh:PySem.W.hasDictIn K C=true)
  (ha:PySem.W.findIn K (.ref C) name=some none) (hv:mA name=some v) (hv':PySem.W.handedIn v=true) (h:Q v {s with toks:=s.toks+1}):
  wpAny (model prog w) A (getAttr (.ref x) name expr) Q E s:=by
 obtain⟨od,J,hl⟩:=I.look
 exact PySem.W.get_value X J (PySem.W.plainGet_of hg).1 (PySem.W.findObj_own hh ha rfl (by rw[hl,hv])) hv' h
theorem get_meth{pl:Sem Bool}{Q:Value×List Value→Shared→Prop}(X:K.In s.heap)(I:ObjM s.heap x dx C mA)(hg:PySem.W.plainGet K C name=true)
  (hf:PySem.W.findIn K (.ref C) name=some (some (.ref f))) (ht:PySem.W.isFn K (.ref f)=true) (hv:mA name=none) (h:Q (.ref f,[.ref x]) s):
  wpAny (model prog w) A (getMethod (.ref x) name pl) Q E s:=by
 obtain⟨od,J,hl⟩:=I.look
 exact PySem.W.method_fn X J (PySem.W.plainGet_of hg).1 (PySem.W.plainGet_of hg).2 hf (beq_iff_eq.mp ht) (by show(PySem.W.lookIn name od).map (·.isSome)=some false;rw[hl,hv];rfl) h
theorem set_map{ns:List Str}{Q:Unit→Shared→Prop}(X:K.In s.heap)(I:ObjM s.heap x dx C mA)
  (hs:PySem.W.findIn K (.ref C) "__setattr__" =some (some (.builtin "object.__setattr__"))) (hp:PySem.W.plainOver K C=true) (ht:PySem.W.takerIn K C name=some none) (hh:PySem.W.hasDictIn K C=true)
  (hw:PySem.Within mA ns) (hsz:ns.length≤sizeLine)
  (h:∀h',ObjM h' x dx C (fun y=>if y=name then some v else mA y)→Heap.SameBut dx s.heap h'→Q () {s with heap:=h',toks:=s.toks+2}):
  wpAny (model prog w) A (setAttr (.ref x) name v) Q E s:=by
 obtain⟨od,J,hl⟩:=I.look
 refine PySem.W.set_plain X J hs (PySem.W.osa_open (s:={s with toks:=s.toks+1}) (r:=none) X J hp ht fun b=> ?_)
 obtain⟨cd,hc,hd'⟩:=PySem.W.any_some hh
 have hx:s.heap.get? x=some ⟨.ref C,some dx,.plain,#[]⟩:=I.obj
 refine wpAny_bind (wpAny_pure (wpAny_bind (wpAny_bind (wpAny_loadPart hx (wpAny_bind (PySem.W.Looks.here (s:={s with toks:=s.toks+1}) (PySem.W.looks_clsIn X hc) ?_))))))
 rw[hd']
 refine wpAny_pure (a:=some dx) (wpAny_bind (wpAny_pure (wpAny_bind ?_)))
 refine wpAny_nsSet1 (s:={s with toks:=s.toks+1}) I.ns fun h' hn2 hs2=> ?_
 obtain⟨oD,esD,epD,hoD,hdD,hcD⟩:=hn2.count (PySem.Within.cons name v hw)
 refine wpAny_bind (wpAny_lookBehind hoD (by rw[hdD];exact pastItsLine_dict (Nat.le_trans hcD (by rw[List.length_cons];(first|lia|omega)))) ?_)
 exact wpAny_pure (h _ ⟨(hs2.2 _ (Ne.symm I.ne)).trans I.obj,hn2,I.ne⟩ hs2)
theorem make_map{R:Result→Shared→Prop}{vs:List Value}{kw:List (Str×Value)}(X:K.In s.heap)(hm:PySem.W.makesIn K C=true)
  (hi:PySem.W.findIn K (.ref C) "__init__" =some (some (.ref f))) (hf:PySem.W.typeIn K (.ref f)=some (.type "function"))
  (h:codeAny (model prog w) (A.under (.builtin "type.__call__" ⟨.ref C::vs,kw⟩)) (.call (.ref f) ⟨.ref (s.heap.objs.size+1)::vs,kw⟩) (PySem.W.InitBack (s.heap.objs.size+1) R)
   {s with heap:=(s.heap.push PySem.W.emptyDict).push (PySem.W.instObj C s.heap.objs.size)}):
  codeAny (model prog w) A (.call (.ref C) ⟨vs,kw⟩) R s:=by
 obtain⟨hh,g,d,t,os⟩:=s
 exact PySem.W.make_core (PySem.W.makes_of X hm) (PySem.W.looks_findIn X hi) (fun self=>PySem.W.bind_fn X self hf) (.inl rfl) h
end
noncomputable def putF(f:Str)(v:V):List (Str×V)→List (Str×V)
 |[]=>[(f,v)]
 |(g,x)::r=>if g=f then(g,v)::r else(g,x)::putF f v r
theorem lookup_putF(f g:Str)(v:V):∀fs:List (Str×V),(putF f v fs).lookup g=if g=f then some v else fs.lookup g
 |[]=>by
  show List.lookup g [(f,v)]=_
  by_cases h:g=f
  ·have hb:(g==f)=true:=beq_iff_eq.mpr h
   simp only[List.lookup,hb,if_pos h]
  ·have hb:(g==f)=false:=beq_eq_false_iff_ne.mpr h
   simp only[List.lookup,hb,if_neg h]
 |(k,x)::r=>by
  have ih:=lookup_putF f g v r
  rw[show putF f v ((k,x)::r)=(if k=f then(k,v)::r else(k,x)::putF f v r)from rfl]
  by_cases hk:k=f
  ·rw[if_pos hk]
   by_cases h:g=k
   ·have hb:(g==k)=true:=beq_iff_eq.mpr h
    simp only[List.lookup,hb,if_pos (h.trans hk)]
   ·have hb:(g==k)=false:=beq_eq_false_iff_ne.mpr h
    simp only[List.lookup,hb,if_neg (fun e:g=f=>h (e.trans hk.symm))]
  ·rw[if_neg hk]
   by_cases h:g=k
   ·have hb:(g==k)=true:=beq_iff_eq.mpr h
    simp only[List.lookup,hb,if_neg (fun e:g=f=>hk (h.symm.trans e))]
   ·have hb:(g==k)=false:=beq_eq_false_iff_ne.mpr h
    simp only[List.lookup,hb]
    exact ih
theorem keys_putF(f:Str)(v:V):∀fs:List (Str×V),f∈(putF f v fs).map (·.1)∧∀g,g∈fs.map (·.1)→g∈(putF f v fs).map (·.1)
 |[]=>⟨by simp[putF],fun g h=>by simp at h⟩
 |(k,x)::r=>by
  obtain⟨i1,i2⟩:=keys_putF f v r
  rw[show putF f v ((k,x)::r)=(if k=f then(k,v)::r else(k,x)::putF f v r)from rfl]
  by_cases hk:k=f
  ·rw[if_pos hk]
   subst hk
   exact⟨by simp,fun g h=>by simpa using h⟩
  ·rw[if_neg hk]
   refine⟨?_,fun g h=> ?_⟩
   ·rw[List.map_cons]
    exact List.mem_cons_of_mem _ i1
   ·rw[List.map_cons]at h⊢
    rcases List.mem_cons.mp h with e|e
    ·exact List.mem_cons.mpr (.inl e)
    ·exact List.mem_cons_of_mem _ (i2 g e)
theorem length_putF(f:Str)(v:V):∀fs:List (Str×V),(putF f v fs).length≤fs.length+1
 |[]=>by simp[putF]
 |(k,x)::r=>by
  have ih:=length_putF f v r
  rw[show putF f v ((k,x)::r)=(if k=f then(k,v)::r else(k,x)::putF f v r)from rfl]
  by_cases hk:k=f
  ·rw[if_pos hk,List.length_cons,List.length_cons];(first|lia|omega)
  ·rw[if_neg hk,List.length_cons,List.length_cons];(first|lia|omega)
theorem RelO.some_of{v:V}{o:Option Value}(r:RelO (some v) o):∃u,o=some u∧RelV v u:=by
 cases o with
 |none=>exact(show False from r).elim
 |some u=>exact⟨u,rfl,r⟩
theorem RelO.none_of{o:Option Value}(r:RelO none o):o=none:=by
 cases o with
 |none=>rfl
 |some u=>exact(show False from r).elim
theorem handed_of{v:V}{u:Value}(r:RelV v u):PySem.W.handedIn u=true:=by
 cases v with
 |non=>cases (show u=Value.none from r);rfl
 |bl b=>cases (show u=Value.bool b from r);rfl
 |int i=>obtain⟨t,e⟩:=(show∃t,u=Value.int i t from r);cases e;rfl
 |str x=>obtain⟨t,e⟩:=(show∃t,u=Value.str x t from r);cases e;rfl
 |byt b=>obtain⟨t,e⟩:=(show∃t,u=Value.bytes b t from r);cases e;rfl
 |flt b=>obtain⟨t,e⟩:=(show∃t,u=Value.float b t from r);cases e;rfl
 |ref a=>cases (show u=Value.ref a from r);rfl
 |ty n=>cases (show u=Value.type n from r);rfl
section
variable{P:Program}{w:World}{H H':Hp}{h h':Heap}{a C dx:Addr}{fs fs':List (Str×V)}
theorem ins_get(hok:HOk P w H h)(e:H a=some (.ins C dx fs)):∃mA,ObjM h a dx C mA∧(∀f,RelO (fs.lookup f) (mA f))∧PySem.Within mA (fs.map (·.1))∧fs.length≤1000∧H dx=some (.own a):=by
 obtain⟨d,z,ne,ob,mA,n,r,q⟩:=(show ObjOk P w H h a (.ins C dx fs)from hok a _ e)
 exact⟨mA,⟨ob,n,ne⟩,r,q,z,d⟩
end
structure Cls(K:PySem.W.Frag)(C:Addr):Prop where
 pg:PySem.W.plainGet K C Str.empty=true
 hd:PySem.W.hasDictIn K C=true
 po:PySem.W.plainOver K C=true
 sa:PySem.W.findIn K (.ref C) "__setattr__" =some (some (.builtin "object.__setattr__"))
theorem Cls.get{K:PySem.W.Frag}{C:Addr}(c:Cls K C)(f:Str):PySem.W.plainGet K C f=true:=c.pg
noncomputable def NoAttr(K:PySem.W.Frag)(C:Addr)(f:Str):Prop:=PySem.W.findIn K (.ref C) f=some none
theorem NoAttr.taker{K:PySem.W.Frag}{C:Addr}{f:Str}(n:NoAttr K C f):PySem.W.takerIn K C f=some none:=by
 unfold PySem.W.takerIn
 rw[show PySem.W.findIn K (.ref C) f=some none from n]
 rfl
structure Meth(K:PySem.W.Frag)(C:Addr)(m:Str)(f:Addr):Prop where
 at_:PySem.W.findIn K (.ref C) m=some (some (.ref f))
 fn:PySem.W.isFn K (.ref f)=true
 kp:PySem.W.keepIn K (.ref f)=true
section
variable{X:Cx}{pins:List (Addr×Obj)}{σ:St}{H:Hp}{s:Shared}{a C dx:Addr}{fs:List (Str×V)}{f:Str}{v:V}{A:Around}{E:Value→Shared→Prop}
theorem getattr_ok{b:Bool}{Q:Value→Shared→Prop}(I:Inv X pins σ H s)(e:H a=some (.ins C dx fs))(c:Cls X.K C)(n:NoAttr X.K C f)(l:fs.lookup f=some v)
  (h:∀u s',Inv X pins σ H s'→RelV v u→Q u s'):wpAny (model X.prog X.w) A (getAttr (.ref a) f b) Q E s:=by
 obtain⟨mA,O,r,_,_,_⟩:=ins_get I.hok e
 obtain⟨u,hu,ru⟩:=RelO.some_of (v:=v) (o:=mA f) (by rw[←l];exact r f)
 exact get_map I.kIn O (c.get f) c.hd n hu (handed_of ru) (h u _ (I.tok _) ru)
theorem getmeth_ok{m:Str}{g:Addr}{pl:Sem Bool}{Q:Value×List Value→Shared→Prop}(I:Inv X pins σ H s)(e:H a=some (.ins C dx fs))(c:Cls X.K C)(k:Meth X.K C m g)(l:fs.lookup m=none)
  (h:Q (.ref g,[.ref a]) s):wpAny (model X.prog X.w) A (getMethod (.ref a) m pl) Q E s:=by
 obtain⟨mA,O,r,_,_,_⟩:=ins_get I.hok e
 have hn:mA m=none:=RelO.none_of (by rw[←l];exact r m)
 exact get_meth I.kIn O (c.get m) k.at_ k.fn hn h
theorem setattr_ok{y:V}{u:Value}{Q:Unit→Shared→Prop}(I:Inv X pins σ H s)(e:H a=some (.ins C dx fs))(c:Cls X.K C)(n:NoAttr X.K C f)(hl:fs.length<1000)(ry:RelV y u)
  (h:∀s',Inv X pins σ (upd H a (.ins C dx (putF f y fs))) s'→Q () s'):wpAny (model X.prog X.w) A (setAttr (.ref a) f u) Q E s:=by
 obtain⟨mA,O,r,wi,_,ho⟩:=ins_get I.hok e
 have hz:(fs.map (·.1)).length≤sizeLine:=by rw[List.length_map,sizeLine_eq];(first|lia|omega)
 refine set_map I.kIn O c.sa c.po n.taker c.hd wi hz fun h' O' sb=>h _ ?_
 have hd:∃o,h'.get? dx=some o:=let⟨o,_,_,e',_⟩:=O'.ns;⟨o,e'⟩
 refine I.write (x:=a) (e:=dx) (by rw[e];exact True.intro) (.inr ho) (fun b q hb z=>(sb.2 b hb).trans z) hd ?_
 refine⟨by rw[upd_ne O.ne];exact ho,?_,O.ne,O'.obj,_,O'.ns,fun g=> ?_,fun g hg=> ?_⟩
 ·have:=length_putF f y fs;(first|lia|omega)
 ·show RelO ((putF f y fs).lookup g) (if g=f then some u else mA g)
  rw[lookup_putF]
  by_cases q:g=f
  ·rw[if_pos q,if_pos q];exact ry
  ·rw[if_neg q,if_neg q];exact r g
 ·by_cases q:g=f
  ·rw[q];exact(keys_putF f y fs).1
  ·refine(keys_putF f y fs).2 g (wi g fun z=>hg ?_)
   show(if g=f then some u else mA g)=none
   rw[if_neg q];exact z
theorem Inv.made(I:Inv X pins σ H s):Inv X pins σ (upd (upd H s.heap.objs.size (.own (s.heap.objs.size+1))) (s.heap.objs.size+1) (.ins C s.heap.objs.size []))
  {s with heap:=(s.heap.push PySem.W.emptyDict).push (PySem.W.instObj C s.heap.objs.size)}:=by
 have e1:(s.heap.push PySem.W.emptyDict).get? s.heap.objs.size=some PySem.W.emptyDict:=Heap.get?_push_size s.heap rfl
 have e2:((s.heap.push PySem.W.emptyDict).push (PySem.W.instObj C s.heap.objs.size)).get? (s.heap.objs.size+1)=some (PySem.W.instObj C s.heap.objs.size):=by
  have:=Heap.get?_push_size (s.heap.push PySem.W.emptyDict) (o:=PySem.W.instObj C s.heap.objs.size) rfl
  rwa [Heap.size_push]at this
 have e3:(s.heap.push PySem.W.emptyDict).Ns s.heap.objs.size (fun _=>none):=⟨PySem.W.emptyDict,#[],_,e1,rfl,(fun e he=>absurd he (by simp)),fun _=>rfl⟩
 have I1:=I.laid (a:=s.heap.objs.size) (o:= .own (s.heap.objs.size+1)) (h':=s.heap.push PySem.W.emptyDict) (t':=s.toks) (fun b u q=>Heap.get?_push_of_some _ q) (Nat.le_refl _) ⟨_,e1⟩
 refine I1.laid (a:=s.heap.objs.size+1) (o:= .ins C s.heap.objs.size []) (t':=s.toks) (fun b u q=>Heap.get?_push_of_some _ q) (Nat.le_of_eq (Heap.size_push _ _)) ?_
 have ne:s.heap.objs.size≠s.heap.objs.size+1:=Nat.ne_of_lt (Nat.lt_succ_self _)
 refine⟨by rw[upd_ne ne,upd_same],Nat.zero_le _,ne,e2,fun _=>none,(Heap.Ns1.of_empty e3).at fun o q=>Heap.get?_push_of_some _ q,fun _=>True.intro,fun y hy=>absurd rfl hy⟩
theorem attr_of{prog:Program}{w:World}{env:Env}{e:Expr}{f:Str}{pos:Pos}{s:Shared}{Q:Value→Shared→Prop}(hb:attributeBase e f env (eval e env)=eval e env)
  (h:wpAny (model prog w) A (eval e env) (fun o s₁=>wpAny (model prog w) A (getAttr o f true) Q E s₁) E s):wpAny (model prog w) A (eval (.Attribute e f pos) env) Q E s:=
 Attribute_any_ h (by rw[arm_eval_Attribute,hb])
end
noncomputable def tFld(K:PySem.W.Frag)(ta:TE)(f:Str):TE:=fun σ H Q=>ta σ H fun x H1=>∃a C dx fs v,x= .ref a∧H1 a=some (.ins C dx fs)∧Cls K C∧NoAttr K C f∧fs.lookup f=some v∧Q v H1
noncomputable def sFld(K:PySem.W.Frag)(ta tv:TE)(f:Str):TS:=fun D σ H=>tv σ H fun y H1=>ta σ H1 fun x H2=>∃a C dx fs,x= .ref a∧H2 a=some (.ins C dx fs)∧Cls K C∧NoAttr K C f∧fs.length<1000∧
 D.nx σ (upd H2 a (.ins C dx (putF f y fs)))
noncomputable def InOp(X:Cx)(op:Operator)(rd:V→V→Hp→VK→Prop):Prop:=
 ∀(pins:List (Addr×Obj)) (s:Shared) (σ:St) (H:Hp) (x y:V) (u v:Value) (Q:VK),Inv X pins σ H s→RelV x u→RelV y v→rd x y H Q→wpAny (model X.prog X.w) X.A (inplaceOp op u v) (EP X pins σ Q) X.xe s
noncomputable def sFldAug(K:PySem.W.Frag)(ta tv:TE)(rd:V→V→Hp→VK→Prop)(f:Str):TS:=fun D σ H=>ta σ H fun x H1=>∃a C dx fs v,x= .ref a∧H1 a=some (.ins C dx fs)∧Cls K C∧NoAttr K C f∧fs.lookup f=some v∧
 tv σ H1 fun y H2=>rd v y H2 fun z H3=>∃dx' fs',H3 a=some (.ins C dx' fs')∧fs'.length<1000∧D.nx σ (upd H3 a (.ins C dx' (putF f z fs')))
section
variable{X:Cx}{o e value:Expr}{f:Str}{pos pos' tpos:Pos}{ta tv:TE}
theorem pe_fld(he:PE X e ta)(hb:attributeBase e f X.env (eval e X.env)=eval e X.env):PE X (.Attribute e f pos) (tFld X.K ta f):=by
 intro pins s σ H Q I h
 refine attr_of hb (thn (he pins s σ H _ I h) fun u s1 hPl=> ?_)
 obtain⟨x,H1,I1,rx,a,C,dx,fs,v,ex,ea,c,n,l,q⟩:=hPl
 subst ex
 obtain rfl:u=Value.ref a:=rx
 exact getattr_ok I1 ea c n l fun u' s2 I2 ru=>⟨v,H1,I2,ru,q⟩
theorem ps_fld(ha:PE X o ta)(hv:PE X value tv)(hs:swapsWith value (some (.Attribute o f pos')) pos.line X.env=pure false):PS X (.Assign [.Attribute o f pos'] value pos) (sFld X.K ta tv f):=by
 intro pins s σ H D I h
 refine plainObj_wpAny_Assign_Attribute (thn (hv pins s σ H _ I h) fun u s1 ⟨y,H1,I1,ry,q⟩=>thn (ha pins s1 σ H1 _ I1 q) fun ov s2 ⟨x,H2,I2,rx,a,C,dx,fs,ex,ea,c,n,l,q2⟩=> ?_) hs
 subst ex
 obtain rfl:ov=Value.ref a:=rx
 exact setattr_ok I2 ea c n l ry fun s3 I3=>⟨σ,_,I3,q2⟩
theorem ps_fldaug{op:Operator}{rd:V→V→Hp→VK→Prop}(ha:PE X o ta)(hv:PE X value tv)(hop:InOp X op rd):PS X (.AugAssign (.Attribute o f tpos) op value pos) (sFldAug X.K ta tv rd f):=by
 intro pins s σ H D I h
 refine wpAny_AugAssign_AttributeAny (thn (ha pins s σ H _ I h) fun ov s1 hPl=> ?_)
 obtain⟨x,H1,I1,rx,a,C,dx,fs,v,ex,ea,c,n,l,q⟩:=hPl
 subst ex
 obtain rfl:ov=Value.ref a:=rx
 refine getattr_ok I1 ea c n l fun u s2 I2 ru=>thn (hv pins s2 σ H1 _ I2 q) fun w3 s3 ⟨y,H2,I3,ry,q3⟩=>thn (hop pins s3 σ H2 v y u w3 _ I3 ru ry q3) fun w4 s4 ⟨z,H3,I4,rz,dx',fs',ea',l',q4⟩=> ?_
 exact setattr_ok I4 ea' c n l' rz fun s5 I5=>⟨σ,_,I5,q4⟩
noncomputable def rAdd:V→V→Hp→VK→Prop:=fun x y H Q=>∃i j,x= .int i∧y= .int j∧Q (.int (i+j)) H
theorem in_add:InOp X .Add rAdd:=by
 rintro pins s σ H x y u v Q I rx ry ⟨i,j,rfl,rfl,q⟩
 obtain⟨t,rfl⟩:=(show∃t,u=Value.int i t from rx)
 obtain⟨t',rfl⟩:=(show∃t',v=Value.int j t' from ry)
 exact PyProof.Rows.iadd_int ⟨.int (i+j),H,I.tok _,⟨_,rfl⟩,q⟩
end
section
variable{X:Cx}{pins:List (Addr×Obj)}{σ:St}{H:Hp}{s:Shared}{A:Around}{E:Value→Shared→Prop}{Q:Value→Shared→Prop}{c:Value}{b:Bool}
inductive TyOf (K:PySem.W.Frag) (H:Hp):V→Value→Prop where
 |non:TyOf K H .non (.type "NoneType")
 |bl (x:Bool):TyOf K H (.bl x) (.type "bool")
 |int (i:Int):TyOf K H (.int i) (.type "int")
 |str (x:Str):TyOf K H (.str x) (.type "str")
 |flt (x:UInt64):TyOf K H (.flt x) (.type "float")
 |lst {a:Addr} {xs:List V} (e:H a=some (.lst xs)):TyOf K H (.ref a) (.type "list")
 |frz {a:Addr} {o:Obj} {xs:List V} (e:H a=some (.frz o (.lst xs))):TyOf K H (.ref a) (.type "list")
 |tup {a:Addr} {xs:List V} (e:H a=some (.tup xs)):TyOf K H (.ref a) (.type "tuple")
 |dK {a:Addr} {kvs:List (Key×V)} (e:H a=some (.dK kvs)):TyOf K H (.ref a) (.type "dict")
 |dT {a:Addr} {kvs:List (List Key×V)} (e:H a=some (.dT kvs)):TyOf K H (.ref a) (.type "dict")
 |ins {a C dx:Addr} {fs:List (Str×V)} (e:H a=some (.ins C dx fs)) (cl:Cls K C) (ha:PySem.W.findIn K (.ref C) "__class__" =some (some (.builtin "object.__class__")))
   (hn:PySem.W.specialIn K (.builtin "object.__class__") "__get__" =some (some (.builtin "getset_descriptor.__get__"))) (htk:PySem.W.takesIn K (.builtin "object.__class__")=some true)
   (hm:PySem.W.mroIn K C (.type "object")=some true):TyOf K H (.ref a) (.ref C)
theorem isinst_ok{x:V}{u t:Value}(I:Inv X pins σ H s)(rx:RelV x u)(ty:TyOf X.K H x t)(e:PySem.W.kitOne X.K t c=some b)(h:∀tk,Q (.bool b) {s with toks:=tk}):
  wpAny (model X.prog X.w) A (call (.builtin "isinstance") [u,c]) Q E s:=by
 cases ty with
 |non=>cases (show u=Value.none from rx);exact PySem.W.kia_one PySem.W.kitx_none I.kIn True.intro e (fun z=>nomatch z) h
 |bl y=>cases (show u=Value.bool y from rx);exact PySem.W.kia_one PySem.W.kitx_bool I.kIn True.intro e (fun z=>nomatch z) h
 |int i=>obtain⟨t,q⟩:=(show∃t,u=Value.int i t from rx);cases q;exact PySem.W.kia_one PySem.W.kitx_int I.kIn True.intro e (fun z=>nomatch z) h
 |str y=>obtain⟨t,q⟩:=(show∃t,u=Value.str y t from rx);cases q;exact PySem.W.kia_one PySem.W.kitx_str I.kIn True.intro e (fun z=>nomatch z) h
 |flt y=>obtain⟨t,q⟩:=(show∃t,u=Value.float y t from rx);cases q;exact PySem.W.kia_one PySem.W.kitx_float I.kIn True.intro e (fun z=>nomatch z) h
 | @lst a xs ea=>
  cases (show u=Value.ref a from rx)
  obtain⟨_,_,n,_,h1⟩:=(show ObjOk X.prog X.w H s.heap a (.lst xs)from I.hok a _ ea)
  exact PySem.W.kia_one PySem.W.kitx_list I.kIn ⟨_,h1,rfl⟩ e (fun z=>nomatch z) h
 | @frz a ob xs ea=>
  cases (show u=Value.ref a from rx)
  obtain⟨_,_,_,n,_,h1⟩:=(show ObjOk X.prog X.w H s.heap a (.frz ob (.lst xs))from I.hok a _ ea)
  exact PySem.W.kia_one PySem.W.kitx_list I.kIn ⟨_,h1,rfl⟩ e (fun z=>nomatch z) h
 | @tup a xs ea=>
  cases (show u=Value.ref a from rx)
  obtain⟨_,_,_,p⟩:=(show ObjOk X.prog X.w H s.heap a (.tup xs)from I.hok a _ ea)
  obtain⟨o,h1,h2,_⟩:=p
  exact PySem.W.kia_one PySem.W.kitx_tuple I.kIn ⟨o,h1,h2⟩ e (fun z=>nomatch z) h
 | @dK a kvs ea=>
  cases (show u=Value.ref a from rx)
  obtain⟨_,_,vs,_,p⟩:=(show ObjOk X.prog X.w H s.heap a (.dK kvs)from I.hok a _ ea)
  obtain⟨o,es,ep,h1,h2,_⟩:=p
  exact PySem.W.kia_one PySem.W.kitx_dict I.kIn ⟨o,h1,h2.1⟩ e (fun z=>nomatch z) h
 | @dT a kvs ea=>
  cases (show u=Value.ref a from rx)
  obtain⟨_,_,xs,_,o,es,ep,h1,h2,_⟩:=(show ObjOk X.prog X.w H s.heap a (.dT kvs)from I.hok a _ ea)
  exact PySem.W.kia_one PySem.W.kitx_dict I.kIn ⟨o,h1,h2.1⟩ e (fun z=>nomatch z) h
 | @ins a C dx fs ea cl ha hn htk hm=>
  cases (show u=Value.ref a from rx)
  obtain⟨mA,O,_⟩:=ins_get I.hok ea
  obtain⟨od,J,_⟩:=O.look
  exact PySem.W.kia_one (PySem.W.kitx_own (cl.get _) cl.hd ha hn htk hm) I.kIn J e (fun z=>nomatch z) h
end
end L2
namespace L2
open PySem PySem.Spec PyProof.Rows
structure Room(k:Nat)(A:Around):Prop where
 hd:A.handled=none
 dp:A.depth+3*k+5<recursionLimit
 un:A.units+16*k+200<cLine
theorem Room.mono{j k:Nat}{A:Around}(r:Room k A)(h:j≤k):Room j A:=⟨r.hd,by have:=r.dp;(first|lia|omega),by have:=r.un;(first|lia|omega)⟩
theorem Room.deeper{k:Nat}{A:Around}(r:Room (k+1) A)(env:Env):Room k (A.deeper env):=
 ⟨r.hd,by have:=r.dp;show A.depth+1+3*k+5<_;(first|lia|omega),by have:=r.un;show A.units+3+16*k+200<_;(first|lia|omega)⟩
theorem make_depth{A:Around}{C:Addr}{us:List Value}{kw:List (Str×Value)}:(A.under (.builtin "type.__call__" ⟨.ref C::us,kw⟩)).depth=A.depth+1:=by
 first|rfl|simp[Around.under,Code.weight,Code.isCreation,Code.isGuard,Code.isCaller,Code.frames,Code.isFrame,guardIds]
theorem make_units{A:Around}{C:Addr}{us:List Value}{kw:List (Str×Value)}:(A.under (.builtin "type.__call__" ⟨.ref C::us,kw⟩)).units=A.units+1:=by
 first|rfl|simp[Around.under,Code.cUnits,Code.frames,Code.isFrame]
theorem Room.make{k:Nat}{A:Around}(r:Room (k+1) A)(C:Addr)(us:List Value)(kw:List (Str×Value)):Room k (A.under (.builtin "type.__call__" ⟨.ref C::us,kw⟩)):=
 ⟨r.hd,by have:=r.dp;rw[make_depth];(first|lia|omega),by have:=r.un;rw[make_units];(first|lia|omega)⟩
theorem Room.depth{k:Nat}{A:Around}(r:Room k A):A.depth<recursionLimit:=by have:=r.dp;(first|lia|omega)
noncomputable def tNil:TA:=fun _ H Q=>Q [] H
noncomputable def tCons(ta:TE)(tr:TA):TA:=fun σ H Q=>ta σ H fun x H1=>tr σ H1 fun xs H2=>Q (x::xs) H2
section
variable{X:Cx}{e:Expr}{es:List Expr}{te:TE}{t:TA}{pos:Pos}
theorem pa_nil:PA X [] tNil:=fun _ _ _ _ H Q I h=>Calls.spliced_nil ⟨[],H,I,.nil,h⟩
theorem pa_cons(ha:PE X e te)(hr:PA X es t)(hs:starEach (e::es) X.env=(false,eval e X.env)::starEach es X.env:=by rfl):PA X (e::es) (tCons te t):=by
 intro pos pins s σ H Q I h
 rw[hs]
 show wpAny _ _ (spliced ((false,eval e X.env)::backTo pos (starEach es X.env))) _ _ s
 refine Calls.spliced_cons (thn (ha pins s σ H _ I h) fun u s1 hPl=> ?_)
 obtain⟨x,H1,I1,r1,q1⟩:=hPl
 exact thn (hr pos pins s1 σ H1 _ I1 q1) fun us s2 hPl=>by obtain⟨xs,H2,I2,r2,q2⟩:=hPl;exact⟨x::xs,H2,I2,.cons r1 r2,q2⟩
noncomputable def tTup(t:TA):TE:=fun σ H Q=>t σ H fun xs H1=>xs.length≤sizeLine∧∀p,H1 p=none→Q (.ref p) (upd H1 p (.tup xs))
noncomputable def tLst(t:TA):TE:=fun σ H Q=>t σ H fun xs H1=>xs.length≤sizeLine∧∀p,H1 p=none→Q (.ref p) (upd H1 p (.lst xs))
theorem pe_tup{x1}(h:PA X es t):PE X (.Tuple es x1 pos) (tTup t):=by
 intro pins s σ H Q I hq
 refine wpAny_Tuple_spliced (thn (h pos pins s σ H _ I hq) fun us s1 ⟨xs,H1,I1,r,z,q⟩=>⟨by rw[←r.length];exact z,?_⟩)
 have hf:H1 s1.heap.objs.size=none:=I1.hok.fresh (Nat.le_refl _)
 refine⟨.ref s1.heap.objs.size,upd H1 s1.heap.objs.size (.tup xs),I1.laid (t':=s1.toks) (fun b u e=>Heap.get?_push_of_some _ e) (Nat.le_refl _) ?_,rfl,q _ hf⟩
 exact⟨z,us,r,⟨_,Heap.get?_push_size _ rfl,rfl,_,rfl⟩⟩
theorem pe_lst(h:PA X es t):PE X (.List es pos) (tLst t):=by
 intro pins s σ H Q I hq
 refine wpAny_List_spliced (thn (h pos pins s σ H _ I hq) fun us s1 ⟨xs,H1,I1,r,z,q⟩=>⟨by rw[←r.length];exact z,?_⟩)
 have hf:H1 s1.heap.objs.size=none:=I1.hok.fresh (Nat.le_refl _)
 refine⟨.ref s1.heap.objs.size,upd H1 s1.heap.objs.size (.lst xs),I1.laid (t':=s1.toks) (fun b u e=>Heap.get?_push_of_some _ e) (Nat.le_refl _) ?_,rfl,q _ hf⟩
 exact⟨z,us,0,r,Heap.get?_push_size _ rfl⟩
end
noncomputable abbrev Sp:=List V→Hp→VK→XK→Prop
noncomputable abbrev CXT:=List Env→Hp→Shared→XK→Value→Shared→Prop
structure Env0(P:Program)(w:World)(K:PySem.W.Frag)(mg:Str→Option Value)(base:Heap)(A:Around)(outer:List Env)(s:Shared)(H:Hp):Prop where
 frames:A.frames=some outer
 mod:Mod K mg base
 bs:∀b o,base.get? b=some o→s.heap.get? b=some o∧H b=none
 bsz:base.objs.size≤s.heap.objs.size
 funs:s.heap.FunFrames base outer
 frf:∀b∈frs outer,H b=none
 hok:HOk P w H s.heap
 bare:AllBare s.gens
noncomputable def CE(outer:List Env)(P:Program)(w:World)(H:Hp)(s:Shared)(Q:VK)(u:Value)(s':Shared):Prop:=
 ∃v H',s'.os=s.os∧AllBare s'.gens∧Un (frs outer) [] H H' s.heap s'.heap∧HOk P w H' s'.heap∧RelV v u∧Q v H'
noncomputable def CR(CX:CXT)(outer:List Env)(P:Program)(w:World)(H:Hp)(s:Shared)(Q:VK)(E:XK)(r:Result)(s':Shared):Prop:=
 match r with
 | .ok (.ret u)=>CE outer P w H s Q u s'
 | .ok _=>False
 | .error e=>CX outer H s E e s'
structure FnOk(P:Program)(w:World)(K:PySem.W.Frag)(mg:Str→Option Value)(base:Heap)(CX:CXT)(k:Nat)(f:Addr)(fd:FuncData)(ps:List Str)(sp:Sp):Prop where
 len:∀vs H Q E,sp vs H Q E→vs.length=ps.length
 run:∀(A:Around) (outer:List Env) (s:Shared) (H:Hp) (args:Args) (us:List Value) (vs:List V) (Q:VK) (E:XK),Room k A→Env0 P w K mg base A outer s H→BindsTo s fd args (ps.zip us)→Vals vs us→sp vs H Q E→
  codeAny (model P w) A (.call (.ref f) args) (CR CX outer P w H s Q E) s
theorem FnOk.mono{P:Program}{w:World}{K:PySem.W.Frag}{mg:Str→Option Value}{base:Heap}{CX:CXT}{j k:Nat}{f:Addr}{fd:FuncData}{ps:List Str}{sp:Sp}(F:FnOk P w K mg base CX j f fd ps sp)(h:j≤k):
  FnOk P w K mg base CX k f fd ps sp:=⟨F.len,fun A outer s H args us vs Q E hr=>F.run A outer s H args us vs Q E (hr.mono h)⟩
theorem Env0.make{P:Program}{w:World}{K:PySem.W.Frag}{mg:Str→Option Value}{base:Heap}{A:Around}{outer:List Env}{s:Shared}{H:Hp}(e:Env0 P w K mg base A outer s H)(C:Addr)(us:List Value)(kw:List (Str×Value)):
  Env0 P w K mg base (A.under (.builtin "type.__call__" ⟨.ref C::us,kw⟩)) outer s H:=⟨by first|exact e.frames|(simpa [Around.under,Code.envs,Code.isFrame,pushEnvs]using e.frames),e.mod,e.bs,e.bsz,e.funs,e.frf,e.hok,e.bare⟩
section
variable{X:Cx}{pins:List (Addr×Obj)}{σ:St}{H:Hp}{s s':Shared}
theorem Inv.env0(I:Inv X pins σ H s):Env0 X.prog X.w X.K X.mg X.base X.A X.stack s H:=
 ⟨I.ok.frames,I.ok.mod,I.bs,Nat.le_trans I.ok.bsz I.sz,I.stack,I.stkFree,I.hok,I.bare⟩
theorem Inv.after{Q:VK}{u:Value}(I:Inv X pins σ H s)(h:CE X.stack X.prog X.w H s Q u s'):EP X pins σ Q u s':=by
 obtain⟨v,H',os,bare,un,hok,r,q⟩:=h
 obtain⟨hh,g,d,t,os'⟩:=s'
 obtain rfl:os'=s.os:=os
 exact⟨v,H',I.call (h':=hh) (g':=g) (d':=d) (t':=t) (ch:=[]) un hok bare (fun b z=>absurd z (by simp)),r,q⟩
end
noncomputable def tCall(sp:Sp)(dvs:List V)(E:XK)(t:TA):TE:=fun σ H Q=>t σ H fun vs H1=>sp (vs++dvs) H1 Q E
noncomputable def tMeth(C:Addr)(m:Str)(sp:Sp)(dvs:List V)(E:XK)(ta:TE)(t:TA):TE:=fun σ H Q=>ta σ H fun x H1=>∃a dx fs,x= .ref a∧H1 a=some (.ins C dx fs)∧fs.lookup m=none∧
 t σ H1 fun vs H2=>sp (x::(vs++dvs)) H2 Q E
noncomputable def tMake(C:Addr)(sp:Sp)(dvs:List V)(E:XK)(t:TA):TE:=fun σ H Q=>t σ H fun vs H1=>∀x dx,H1 x=none→H1 dx=none→dx≠x→
 sp (.ref x::(vs++dvs)) (upd (upd H1 dx (.own x)) x (.ins C dx [])) (fun v H2=>v= .non∧Q (.ref x) H2) E
noncomputable def Binds(K:PySem.W.Frag)(fd:FuncData)(ps:List Str)(ds:List Value):Prop:=
 ∀(s:Shared) (us:List Value),K.In s.heap→(us++ds).length=ps.length→BindsTo s fd ⟨us,[]⟩ (ps.zip (us++ds))
theorem Binds.all{K:PySem.W.Frag}{fd:FuncData}{ps:List Str}(h:∀us:List Value,us.length=ps.length→bindArgs fd ⟨us,[]⟩=pure (ps.zip us)):Binds K fd ps []:=fun s us _ hl=>by
 rw[List.append_nil]at hl⊢
 exact .of_eq (h us hl)
noncomputable def Passes(CX:CXT)(X:Cx)(E:XK):Prop:=∀(pins:List (Addr×Obj)) (σ:St) (H:Hp) (s:Shared) (e:Value) (s':Shared),Inv X pins σ H s→CX X.stack H s E e s'→X.xe e s'
section
variable{X:Cx}{CX:CXT}{k:Nat}{f C:Addr}{fd:FuncData}{ps:List Str}{sp:Sp}{dvs:List V}{ds:List Value}{E:XK}{x m:Str}{p pos apos:Pos}{e o:Expr}{es:List Expr}{ta:TE}{t:TA}
theorem run_fn{pins:List (Addr×Obj)}{σ:St}{H:Hp}{s:Shared}{Q:VK}{us:List Value}{vs:List V}(F:FnOk X.prog X.w X.K X.mg X.base CX k f fd ps sp)(hr:Room k X.A)(hb:Binds X.K fd ps ds)(hd:Vals dvs ds)(hx:Passes CX X E)
  (I:Inv X pins σ H s) (r:Vals vs us) (h:sp (vs++dvs) H Q E):wpAny (model X.prog X.w) X.A (call (.ref f) us) (EP X pins σ Q) X.xe s:=by
 have r2:Vals (vs++dvs) (us++ds):=r.append hd
 have hl:(us++ds).length=ps.length:=by rw[←r2.length];exact F.len _ _ _ _ h
 refine wpAny_call (codeAny_mono (F.run X.A X.stack s H ⟨us,[]⟩ (us++ds) (vs++dvs) Q E hr I.env0 (hb s us I.kIn hl) r2 h) fun r s' hq=> ?_)
 cases r with
 |error e=>exact hx pins σ H s e s' I hq
 |ok fl=>
  cases fl with
  |ret u=>exact I.after hq
  |next=>exact False.elim hq
  |brk=>exact False.elim hq
  |cont=>exact False.elim hq
theorem pe_call(F:FnOk X.prog X.w X.K X.mg X.base CX k f fd ps sp)(hr:Room k X.A)(hg:Gl X x)(hm:X.mg x=some (.ref f))(hk:PySem.W.keepIn X.K (.ref f)=true)(hb:Binds X.K fd ps ds)(hd:Vals dvs ds)(hx:Passes CX X E)
  (ha:PA X (e::es) t) (hdb:(x==("__debug__" :Str))=false:=by decide) (he:starEach (e::es) X.env=(false,eval e X.env)::starEach es X.env:=by rfl) (hpl:(backTo pos (starEach es X.env)).any (·.1)=false:=by rfl):
  PE X (.Call (.Name x p) (e::es) [] pos) (tCall sp dvs E t):=by
 intro pins s σ H Q I h
 refine wpAny_Call_Name_kw (ld_glob I hg hm ?_ hdb)
 refine PySem.W.callWith_K (h₀:=X.base) I.ok.mod.kin hk (thn (ha pos pins s σ H _ I h) fun us s1 ⟨vs,H1,I1,r,q⟩=>⟨I1.kIn,?_⟩) he hpl
 exact run_fn F hr hb hd hx I1 r q
theorem pe_meth{pl:Sem Bool}(he:PE X o ta)(c:Cls X.K C)(hm:Meth X.K C m f)(F:FnOk X.prog X.w X.K X.mg X.base CX k f fd ps sp)(hr:Room k X.A)(hb:Binds X.K fd ps ds)(hd:Vals dvs ds)(hx:Passes CX X E)(ha:PA X (e::es) t)
  (hst:starEach (e::es) X.env=(false,eval e X.env)::starEach es X.env:=by rfl) (hpl:(backTo pos (starEach es X.env)).any (·.1)=false:=by rfl)
  (ht:eval (.Call (.Attribute o m apos) (e::es) [] pos) X.env=(do
   let ov ←eval o X.env
   standAt apos.atName
   let(f,first) ←holding [ov] (getMethod ov m pl)
   callWith pos f first (backTo pos (starEach (e::es) X.env)) (backToKw pos (keywordEach [] X.env))):=by rfl):
  PE X (.Call (.Attribute o m apos) (e::es) [] pos) (tMeth C m sp dvs E ta t):=by
 intro pins s σ H Q I h
 refine PySem.W.methodCall_KW (pl:=pl) (thn (he pins s σ H _ I h) fun u s1 hPl=> ?_) ht
 obtain⟨x,H1,I1,rx,a,dx,fs,ex,ea,l,q⟩:=hPl
 subst ex
 obtain rfl:u=Value.ref a:=rx
 refine getmeth_ok I1 ea c hm l ?_
 refine PySem.W.callWith_K (first:=[.ref a]) (h₀:=X.base) I.ok.mod.kin hm.kp (thn (ha pos pins s1 σ H1 _ I1 q) fun us s2 ⟨vs,H2,I2,r,q2⟩=>⟨I2.kIn,?_⟩) hst hpl
 exact run_fn (us:= .ref a::us) (vs:= .ref a::vs) F hr hb hd hx I2 (.cons rfl r) q2
theorem pe_meth0{pl:Sem Bool}(he:PE X o ta)(c:Cls X.K C)(hm:Meth X.K C m f)(F:FnOk X.prog X.w X.K X.mg X.base CX k f fd ps sp)(hr:Room k X.A)(hb:Binds X.K fd ps ds)(hd:Vals dvs ds)(hx:Passes CX X E)
  (ht:eval (.Call (.Attribute o m apos) [] [] pos) X.env=(do
   let ov ←eval o X.env
   standAt apos.atName
   let(f,first) ←holding [ov] (getMethod ov m pl)
   callWith pos f first (backTo pos (starEach [] X.env)) (backToKw pos (keywordEach [] X.env))):=by rfl):
  PE X (.Call (.Attribute o m apos) [] [] pos) (tMeth C m sp dvs E ta tNil):=by
 intro pins s σ H Q I h
 refine PySem.W.methodCall_KW (pl:=pl) (thn (he pins s σ H _ I h) fun u s1 hPl=> ?_) ht
 obtain⟨x,H1,I1,rx,a,dx,fs,ex,ea,l,q⟩:=hPl
 subst ex
 obtain rfl:u=Value.ref a:=rx
 refine getmeth_ok I1 ea c hm l ?_
 exact PySem.W.callWith_K0 (first:=[.ref a]) I1.kIn hm.kp (run_fn (us:=[.ref a]) (vs:=[.ref a]) F hr hb hd hx I1 (.cons rfl .nil) q)
structure Mk(K:PySem.W.Frag)(C f:Addr):Prop where
 makes:PySem.W.makesIn K C=true
 init:PySem.W.findIn K (.ref C) "__init__" =some (some (.ref f))
 fn:PySem.W.isFn K (.ref f)=true
 kp:PySem.W.keepIn K (.ref C)=true
theorem run_make{pins:List (Addr×Obj)}{σ:St}{H:Hp}{s:Shared}{Q:VK}{us:List Value}{vs:List V}(M:Mk X.K C f)(F:FnOk X.prog X.w X.K X.mg X.base CX k f fd ps sp)(hr:Room (k+1) X.A)(hb:Binds X.K fd ps ds)(hd:Vals dvs ds)
  (hx:Passes CX X E) (I:Inv X pins σ H s) (r:Vals vs us)
  (h:∀x dx,H x=none→H dx=none→dx≠x→sp (.ref x::(vs++dvs)) (upd (upd H dx (.own x)) x (.ins C dx [])) (fun v H2=>v= .non∧Q (.ref x) H2) E):
  wpAny (model X.prog X.w) X.A (call (.ref C) us) (EP X pins σ Q) X.xe s:=by
 have hq:=h (s.heap.objs.size+1) s.heap.objs.size (I.hok.fresh (Nat.le_succ _)) (I.hok.fresh (Nat.le_refl _)) (Nat.ne_of_lt (Nat.lt_succ_self _))
 have I2:=Inv.made (C:=C) I
 have r2:Vals (V.ref (s.heap.objs.size+1)::(vs++dvs)) (Value.ref (s.heap.objs.size+1)::(us++ds)):= .cons rfl (r.append hd)
 have hl:(Value.ref (s.heap.objs.size+1)::us++ds).length=ps.length:=by
  have e:=r2.length
  rw[F.len _ _ _ _ hq]at e
  exact e.symm
 refine wpAny_call (make_map (f:=f) I.kIn M.makes M.init (beq_iff_eq.mp M.fn) (codeAny_mono (F.run _ X.stack _ _ ⟨Value.ref (s.heap.objs.size+1)::us,[]⟩ (Value.ref (s.heap.objs.size+1)::(us++ds)) _ _ E (hr.make C us [])
  (I2.env0.make C us []) (hb _ (Value.ref (s.heap.objs.size+1)::us) I2.kIn hl) r2 hq) fun r s' hq'=> ?_))
 cases r with
 |error e=>exact hx pins σ _ _ e s' I2 hq'
 |ok fl=>
  cases fl with
  |ret u=>
   obtain⟨v,H',I3,rv,ev,q3⟩:=I2.after hq'
   subst ev
   exact⟨rv,⟨V.ref (s.heap.objs.size+1),H',I3,rfl,q3⟩⟩
  |next=>exact False.elim hq'
  |brk=>exact False.elim hq'
  |cont=>exact False.elim hq'
theorem pe_make(M:Mk X.K C f)(F:FnOk X.prog X.w X.K X.mg X.base CX k f fd ps sp)(hr:Room (k+1) X.A)(hg:Gl X x)(hm:X.mg x=some (.ref C))(hb:Binds X.K fd ps ds)(hd:Vals dvs ds)(hx:Passes CX X E)
  (ha:PA X (e::es) t) (hdb:(x==("__debug__" :Str))=false:=by decide) (he:starEach (e::es) X.env=(false,eval e X.env)::starEach es X.env:=by rfl) (hpl:(backTo pos (starEach es X.env)).any (·.1)=false:=by rfl):
  PE X (.Call (.Name x p) (e::es) [] pos) (tMake C sp dvs E t):=by
 intro pins s σ H Q I h
 refine wpAny_Call_Name_kw (ld_glob I hg hm ?_ hdb)
 refine PySem.W.callWith_K (h₀:=X.base) I.ok.mod.kin M.kp (thn (ha pos pins s σ H _ I h) fun us s1 ⟨vs,H1,I1,r,q⟩=>⟨I1.kIn,?_⟩) he hpl
 exact run_make M F hr hb hd hx I1 r q
end
section
variable{X:Cx}{CX:CXT}{k:Nat}{f C:Addr}{fd:FuncData}{ps ks:List Str}{sp:Sp}{E:XK}{x m:Str}{p pos apos kpos:Pos}{e o:Expr}{es:List Expr}{kws:List Keyword}{te ta:TE}{t tk:TA}{nm:Option Str}
variable{g:List Value→List Value→List Value}{gV:List V→List V→List V}
end
structure FnScope(N P:List Str)(sc:Scope):Prop where
 kind:sc.kind= .function
 co:sc.isCoroutine=false
 gen:sc.isGenerator=false
 nd:N.Nodup
 pre:N.take P.length=P
 par:∀x∈P,sc.names.lookup x=some .local∨sc.names.lookup x=some .cell
 nofree:∀y∈sc.names,y.2≠ .free
theorem bindL_out{kindOf:Str→Option NameKind}{x:Str}:∀{binds:List (Str×Value)} {m:Str→Option Value},(∀v,(x,v)∉binds)→bindL kindOf binds m x=m x
 |[],_,_=>rfl
 |(n,v)::r,m,h=>by
  unfold bindL
  rw[bindL_out fun w hw=>h w (List.mem_cons_of_mem _ hw)]
  split
  ·have:x≠n:=by rintro rfl;exact h v List.mem_cons_self
   simp[this]
  ·rfl
theorem bindC_out{kindOf:Str→Option NameKind}{x:Str}:∀{binds:List (Str×Value)} {m:Str→Option Value},(∀v,(x,v)∉binds)→bindC kindOf binds m x=m x
 |[],_,_=>rfl
 |(n,v)::r,m,h=>by
  unfold bindC
  rw[bindC_out fun w hw=>h w (List.mem_cons_of_mem _ hw)]
  split
  ·rfl
  ·have:x≠n:=by rintro rfl;exact h v List.mem_cons_self
   simp[this]
theorem bindL_get{kindOf:Str→Option NameKind}{x:Str}{v:Value}:∀{P:List Str} {vs:List Value} {i:Nat} {m:Str→Option Value},P.Nodup→P[i]? =some x→vs[i]? =some v→kindOf x=some .local→
  bindL kindOf (P.zip vs) m x=some v
 |[],_,_,_,_,h,_,_=>by simp at h
 |_::_,[],_,_,_,_,h,_=>by simp at h
 |p::P,w::vs,0,m,nd,h1,h2,hk=>by
  simp at h1 h2;subst h1;subst h2
  show bindL kindOf ((p,w)::P.zip vs) m p=_
  unfold bindL
  rw[bindL_out fun v hv=>(List.nodup_cons.mp nd).1 (List.of_mem_zip hv).1,if_pos hk]
  simp
 |p::P,w::vs,i+1,m,nd,h1,h2,hk=>by
  show bindL kindOf ((p,w)::P.zip vs) m x=_
  unfold bindL
  exact bindL_get (i:=i) (List.nodup_cons.mp nd).2 (by simpa using h1) (by simpa using h2) hk
theorem bindC_get{kindOf:Str→Option NameKind}{x:Str}{v:Value}:∀{P:List Str} {vs:List Value} {i:Nat} {m:Str→Option Value},P.Nodup→P[i]? =some x→vs[i]? =some v→kindOf x≠some .local→
  bindC kindOf (P.zip vs) m x=some v
 |[],_,_,_,_,h,_,_=>by simp at h
 |_::_,[],_,_,_,_,h,_=>by simp at h
 |p::P,w::vs,0,m,nd,h1,h2,hk=>by
  simp at h1 h2;subst h1;subst h2
  show bindC kindOf ((p,w)::P.zip vs) m p=_
  unfold bindC
  rw[bindC_out fun v hv=>(List.nodup_cons.mp nd).1 (List.of_mem_zip hv).1,if_neg hk]
  simp
 |p::P,w::vs,i+1,m,nd,h1,h2,hk=>by
  show bindC kindOf ((p,w)::P.zip vs) m x=_
  unfold bindC
  exact bindC_get (i:=i) (List.nodup_cons.mp nd).2 (by simpa using h1) (by simpa using h2) hk
noncomputable def start(N:List Str)(vs:List V):St:=vs.map some++List.replicate (N.length-vs.length) none
noncomputable def cxOf(CX:CXT)(P:Program)(w:World)(K:PySem.W.Frag)(mg:Str→Option Value)(base:Heap)(N:List Str)(qual:Str)(scope:Scope)(f:Addr)(cd:Value)(A:Around)(outer:List Env)(s:Shared)(H:Hp)(E:XK):Cx where
 prog:=P
 w:=w
 K:=K
 mg:=mg
 base:=base
 A:=A.deeper (envOfC qual scope s.heap.objs.size f cd)
 N:=N
 s₀:=s
 H₀:=H
 env:=envOfC qual scope s.heap.objs.size f cd
 outer:=outer
 stack:=envOfC qual scope s.heap.objs.size f cd::outer
 ex:=[]
 calm:=true
 fn:=fun _=>true
 pn:=[]
 xe:=fun e s'=>wpAny (model P w) (A.deeper (envOfC qual scope s.heap.objs.size f cd)) (leaving (envOfC qual scope s.heap.objs.size f cd) e) (fun _ s''=>CX outer H s E e s'') (fun e' s''=>CX outer H s E e' s'') s'
theorem cell_has{sc:Scope}{n:Nat}{x:Str}(h:sc.names.lookup x=some .cell):∃c,(cellsFrom n sc.names []).lookup x=some c:=by
 have q:=PySem.W.cellsFrom_some sc.names n [] (.inl h)
 exact Option.isSome_iff_exists.mp q
theorem inv_start{CX:CXT}{P:Program}{w:World}{K:PySem.W.Frag}{mg:Str→Option Value}{base:Heap}{N ps:List Str}{qual:Str}{scope:Scope}{f:Addr}{cd:Value}{A:Around}{outer:List Env}{s s1:Shared}{H:Hp}{E:XK}{us:List Value}{vs:List V}
  (S:FnScope N ps scope) (hd:A.handled=none) (e0:Env0 P w K mg base A outer s H) (hl:vs.length=ps.length) (r:Vals vs us)
  (x:InCallC s s.heap.objs.size (bindL (envOfC qual scope s.heap.objs.size f cd).kindOf (ps.zip us) fun _=>none) (cellsFrom (s.heap.objs.size+1) scope.names []) (bindC (envOfC qual scope s.heap.objs.size f cd).kindOf (ps.zip us) fun _=>none) s1):
  Inv (cxOf CX P w K mg base N qual scope f cd A outer s H E) [] (start N vs) H s1:=by
 have hpl:ps.length≤N.length:=by have:=congrArg List.length S.pre;rw[List.length_take]at this;(first|lia|omega)
 obtain⟨h1,tk,rfl,hk⟩:=x.done
 have noA:∀b:Addr,b∉(cxOf CX P w K mg base N qual scope f cd A outer s H E).ex:=fun b z=>absurd (show b∈([]:List Addr)from z) (by simp)
 refine⟨⟨e0.mod,S.kind,rfl,rfl,Nat.le_refl _,fun y z c h1 h2=> ?_,fun y hy=> ?_,fun y c _ h=> ?_,fun _=>hd,Around.frames_deeper e0.frames,.inr ⟨rfl,rfl⟩,fun b z=>absurd z (noA b),e0.bs,e0.bsz,fun b _ _=>noA b,fun b z=>absurd z (noA b),e0.funs,e0.frf⟩,
  rfl,e0.bare,Un.kept hk,⟨_,x.toInCall.ns,fun i y v h1 h2 h3=> ?_⟩,fun y c h=>⟨_,x.cell y c h⟩,e0.hok.fresh (Nat.le_refl _),fun y c h=> ?_,fun p hp=>absurd (show p∈([]:List (Addr×Obj))from hp) (by simp),e0.hok.kept hk,?_⟩
 ·exact name_of_addr x.apart (PySem.mem_of_lookup h1) (PySem.mem_of_lookup h2)
 ·have hy:scope.names.lookup y=some .cell∨scope.names.lookup y=some .free:=hy
  rcases hy with hy|hy
  ·exact cell_has hy
  ·exact absurd rfl (S.nofree _ (PySem.mem_of_lookup hy))
 ·exact Nat.le_of_lt (x.above y c (PySem.mem_of_lookup h))
 ·have hi:i<vs.length:=by
   unfold start at h2
   by_cases hi:i<vs.length
   ·exact hi
   ·rw[List.getElem?_append_right (by simpa using hi)]at h2
    rw[List.getElem?_replicate]at h2
    split at h2<;>cases h2
  have ha:vs[i]? =some v:=by
   unfold start at h2
   rw[List.getElem?_append_left (by simpa using hi),List.getElem?_map]at h2
   cases e:vs[i]? with
   |none=>rw[e]at h2;cases h2
   |some a=>rw[e]at h2;cases h2;rfl
  obtain⟨u,hu,rv⟩:=r.get ha
  have hp:ps[i]? =some y:=by
   rw[←S.pre,List.getElem?_take_of_lt (by(first|lia|omega))];exact h1
  have ndP:ps.Nodup:=by rw[←S.pre];exact S.nd.sublist (List.take_sublist _ _)
  refine⟨u,rv,?_⟩
  rcases S.par y (List.mem_of_getElem? hp)with k|k
  ·exact .inl ⟨k,bindL_get ndP hp hu k⟩
  ·obtain⟨c,e⟩:=cell_has (n:=s.heap.objs.size+1) k
   refine .inr ⟨.inl k,c,e,?_⟩
   have q:=x.cell y c e
   rw[bindC_get ndP hp hu (by show scope.names.lookup y≠_;rw[k];decide)]at q
   exact q
 ·exact e0.hok.fresh (Nat.le_of_lt (x.above y c (PySem.mem_of_lookup h)))
 ·unfold start
  show _=N.length
  rw[List.length_append,List.length_map,List.length_replicate]
  (first|lia|omega)
theorem fn_of{CX:CXT}{P:Program}{w:World}{K:PySem.W.Frag}{mg:Str→Option Value}{base:Heap}{k:Nat}{f:Addr}{name qual:Str}{params:Arguments}{body:List Stmt}{scope:Scope}{dV kV doc pm cdv ct oc:Value}{an od:Option Addr}
  {osl:Array (Option Value)} {N ps:List Str} {sp:Sp} (lk:K.lookup f=some ⟨oc,od,.func (PySem.W.fnOf name qual params body scope dV kV doc pm an cdv ct),osl⟩) (hcd:PySem.W.codeIn K cdv qual=true) (S:FnScope N ps scope)
  (len:∀vs H Q E,sp vs H Q E→vs.length=ps.length)
  (hbody:∀(A:Around) (outer:List Env) (s:Shared) (H:Hp) (vs:List V) (Q:VK) (E:XK),Room k (A.deeper (envOfC qual scope s.heap.objs.size f cdv))→sp vs H Q E→
   ∃t,PSs (cxOf CX P w K mg base N qual scope f cdv A outer s H E) body t∧t {nx:=fun _ H'=>Q .non H',rt:=Q} (start N vs) H):
  FnOk P w K mg base CX (k+1) f (PySem.W.fnOf name qual params body scope dV kV doc pm an cdv ct) ps sp:=by
 refine⟨len,fun A outer s H args us vs Q E hr e0 hb r hsp=> ?_⟩
 have hl:=len _ _ _ _ hsp
 have KX:K.In s.heap:=e0.mod.kin.keeps fun b o e=>(e0.bs b o e).1
 have lim:s.heap.NoLimit:=e0.mod.nolimit.keeps fun b o e=>(e0.bs b o e).1
 have hkind:∀y∈ps.zip us,scope.names.lookup y.1=some .local∨(scope.names.lookup y.1=some .cell∧((cellsFrom (s.heap.objs.size+1) scope.names []).lookup y.1).isSome=true):=fun⟨n,v⟩ hy=>by
  rcases S.par n (List.of_mem_zip hy).1 with q|q
  ·exact .inl q
  ·exact .inr ⟨q,PySem.W.cellsFrom_some _ _ _ (.inl q)⟩
 refine codeAny_call_function hr.depth (KX _ _ lk) rfl S.co S.gen rfl (PySem.W.codeRec_of KX hcd) (hb _ _ _ _ ?_)
 refine wpAny_newFunctionEnv_cells S.kind hkind fun env he s1 x=> ?_
 subst he
 refine⟨lim.keeps x.toInCall.keep,codeAny_func ?_⟩
 obtain⟨t,ht,hq⟩:=hbody A outer s H vs Q E (hr.deeper _) hsp
 have I:Inv (cxOf CX P w K mg base N qual scope f cdv A outer s H E) [] (start N vs) H s1:=inv_start S hr.hd e0 hl r x
 refine wpAny_mono (ht [] s1 (start N vs) H _ I hq) (fun fl s' hs=> ?_) fun e s' hs=>hs
 have fin:∀{σ':St} {H':Hp} {v:V} {u:Value},Inv (cxOf CX P w K mg base N qual scope f cdv A outer s H E) [] σ' H' s'→RelV v u→Q v H'→CE outer P w H s Q u s':=
  fun{σ' H' v u} J rv q=>⟨v,H',J.os,J.bare,J.base,J.hok,rv,q⟩
 cases fl with
 |ret u=>
  obtain⟨v,σ',H',J,rv,q⟩:=hs
  exact fin J rv q
 |next=>
  obtain⟨σ',H',J,q⟩:=hs
  exact fin (v:=V.non) (u:=Value.none) J rfl q
 |brk=>
  obtain⟨_,_,_,q⟩:=hs
  exact False.elim q
 |cont=>
  obtain⟨_,_,_,q⟩:=hs
  exact False.elim q
end L2
namespace L2
open PySem PySem.Spec PyProof.Rows
section
variable{X:Cx}{x:Str}{p pos:Pos}{e:Expr}{es:List Expr}{t:TA}{id T:String}{r:List V→Hp→VK→Prop}
noncomputable def tCB(r:List V→Hp→VK→Prop)(t:TA):TE:=fun σ H Q=>t σ H fun vs H1=>r vs H1 Q
theorem pe_callB(hc:CallR X (.builtin id) r)(hg:Gl X x)(hm:X.mg x=none)(hv:bootBuiltins x=some (.builtin id))(ha:PA X (e::es) t)(hn:x≠ "__name__" :=by decide)(hdb:(x==("__debug__" :Str))=false:=by decide)
  (he:starEach (e::es) X.env=(false,eval e X.env)::starEach es X.env:=by rfl) (hpl:(backTo pos (starEach es X.env)).any (·.1)=false:=by rfl):PE X (.Call (.Name x p) (e::es) [] pos) (tCB r t):=by
 intro pins s σ H Q I h
 refine wpAny_Call_Name_kw (ld_blt I hg hm hv ?_ hn hdb)
 exact PyProof.Rows.callWith_builtin1 (thn (ha pos pins s σ H _ I h) fun us s1 ⟨vs,H1,I1,r1,q1⟩=>hc pins s1 σ H1 vs us Q I1 r1 q1) he hpl
theorem pe_callTy(hc:CallR X (.type T) r)(hg:Gl X x)(hm:X.mg x=none)(hv:bootBuiltins x=some (.type T))(ha:PA X (e::es) t)(hn:x≠ "__name__" :=by decide)(hdb:(x==("__debug__" :Str))=false:=by decide)
  (he:starEach (e::es) X.env=(false,eval e X.env)::starEach es X.env:=by rfl) (hpl:(backTo pos (starEach es X.env)).any (·.1)=false:=by rfl):PE X (.Call (.Name x p) (e::es) [] pos) (tCB r t):=by
 intro pins s σ H Q I h
 refine wpAny_Call_Name_kw (ld_blt I hg hm hv ?_ hn hdb)
 exact PyProof.Rows.callWith_type1 (thn (ha pos pins s σ H _ I h) fun us s1 ⟨vs,H1,I1,r1,q1⟩=>hc pins s1 σ H1 vs us Q I1 r1 q1) he hpl
end
end L2
namespace HT
open PySem PyProof.Rows
section
open PySem.SeqAt
open PySem.AutoSeq1 (wpAny_loadPart')
open PySem.MeetsSeq PySem.MeetsSeq2 PySem.MeetsSeq3
end
section
variable{prog:Program}{w:World}{A:Around}{E:Value→Shared→Prop}{s:Shared}
theorem cat_tup{t b:Addr}{vs ws:List Value}{Q:Value→Shared→Prop}(ht:IsTup s.heap t vs.toArray)(hb:IsTup s.heap b ws.toArray)(hv:vs≠[])
  (h1:ws=[]→Q (.ref t) s) (h2:ws≠[]→Q (.ref s.heap.objs.size) {s with heap:=s.heap.push {cls:= .type "tuple",data:= .seq (vs++ws).toArray}})
  (hsz:vs.length+ws.length≤sizeLine):wpAny (model prog w) A (binaryOp .Add (.ref t) (.ref b)) Q E s:=by
 obtain⟨⟨cls,dd,data,sl⟩,ho,hc,n,hd⟩:=id ht
 obtain⟨⟨cls2,dd2,data2,sl2⟩,ho2,hc2,n2,hd2⟩:=id hb
 simp only at hc hd hc2 hd2
 subst hc hd hc2 hd2
 have e:vs.toArray++ws.toArray=(vs++ws).toArray:=by simp
 by_cases hw:ws=[]
 ·exact concat_meets ⟨_,ho,rfl⟩ ⟨_,ho2,rfl⟩ noFill_tuple_add seq_tuple_add PySem.F.slot_tuple_add PySem.F.entry_tuple_add (PySem.F.args_tuple_add_2 _ _)
   (tuple_addW1 t b vs.toArray ws.toArray n n2 dd dd2 sl sl2 (by simpa using hv) (by simp[hw])) ⟨ho,ho2,h1 hw⟩
 ·refine concat_meets ⟨_,ho,rfl⟩ ⟨_,ho2,rfl⟩ noFill_tuple_add seq_tuple_add PySem.F.slot_tuple_add PySem.F.entry_tuple_add (PySem.F.args_tuple_add_2 _ _)
   (tuple_addW2 t b vs.toArray ws.toArray n n2 dd dd2 sl sl2 (by simpa using hv) (by simpa using hw) (by rw[List.size_toArray,List.size_toArray];exact hsz)) ⟨ho,ho2,?_⟩
  rw[e]
  exact h2 hw
noncomputable def sIx(n d:Nat):Option Int→Nat
 |none=>d
 |some v=>if v<0 then(v+(n:Int)).toNat else min v.toNat n
theorem sIx_none(n d:Nat):sIx n d none=d:=rfl
theorem sIx_nat(n d k:Nat):sIx n d (some (k:Int))=min k n:=by
 show(if(k:Int)<0 then((k:Int)+(n:Int)).toNat else min (k:Int).toNat n)=min k n
 rw[if_neg (by(first|lia|omega)),Int.toNat_natCast]
theorem sIx_le(n d:Nat)(hd:d≤n)(o:Option Int):sIx n d o≤n:=by
 cases o with
 |none=>exact hd
 |some v=>
  show(if v<0 then(v+(n:Int)).toNat else min v.toNat n)≤n
  by_cases hv:v<0
  ·rw[if_pos hv];(first|lia|omega)
  ·rw[if_neg hv];exact Nat.min_le_right _ _
theorem clip_eq(v:Int)(n d:Nat):(if v<0 then max (v+(n:Int)) 0 else min v (n:Int))=((sIx n d (some v):Nat):Int):=by
 show(if v<0 then max (v+(n:Int)) 0 else min v (n:Int))=(((if v<0 then(v+(n:Int)).toNat else min v.toNat n):Nat):Int)
 by_cases hv:v<0
 ·simp only[if_pos hv];(first|lia|omega)
 ·simp only[if_neg hv];(first|lia|omega)
theorem adjust_gen(lo hi:Option Int)(n:Nat):Builtin.Slice.sliceAdjust lo hi 1 (n:Int)=(((sIx n 0 lo:Nat):Int),((sIx n n hi:Nat):Int)):=by
 have h1:¬((1:Int)<0):=by(first|lia|omega)
 unfold Builtin.Slice.sliceAdjust
 simp only[h1,if_false]
 refine Prod.ext ?_ ?_
 ·cases lo with
  |none=>rfl
  |some v=>exact clip_eq v n 0
 ·cases hi with
  |none=>rfl
  |some v=>exact clip_eq v n n
theorem places_gen(i j:Nat):Builtin.Slice.slicePlaces (i:Int) (j:Int) 1=j-i:=by
 unfold Builtin.Slice.slicePlaces
 have h1:(1:Int)>0:=by(first|lia|omega)
 simp only[h1,if_true,Int.ediv_one]
 split<;>(first|lia|omega)
theorem slicePart_{v:Value}{o:Option Int}{Q:Option Int→Shared→Prop}(p:IsPart v o)(h:Q o s):wpAny (model prog w) A (Builtin.Slice.slicePartIndex v) Q E s:=by
 cases p with
 |none=>exact slicePart_none h
 |int i t=>exact slicePart_int h
theorem sliceApplied_gen{sl:Addr}{vl vu:Value}{lo hi:Option Int}{n:Nat}{Q:Int×Int×Nat→Shared→Prop}(hs:s.heap.IsSliceOf sl vl vu .none)(pl:IsPart vl lo)(pu:IsPart vu hi)
  (h:Q (((sIx n 0 lo:Nat):Int),1,sIx n n hi-sIx n 0 lo) s):wpAny (model prog w) A (Builtin.Slice.sliceApplied (.ref sl) (pure (n:Int))) Q E s:=by
 obtain⟨os,hos,hcs,hds⟩:=id hs
 unfold Builtin.Slice.sliceApplied Builtin.Slice.sliceFields
 refine wpAny_bind (wpAny_bind (wpAny_field hos hds (x:=vl) rfl (wpAny_bind (wpAny_field hos hds (x:=vu) rfl (wpAny_bind (wpAny_field hos hds (x:= .none) rfl (wpAny_pure ?_)))))))
 refine wpAny_bind (slicePart_none ?_)
 show wpAny _ _ (if((1:Int)==0)=true then _ else _) _ _ s
 rw[if_neg (by decide)]
 refine wpAny_bind (slicePart_ pl (wpAny_bind (slicePart_ pu (wpAny_bind (wpAny_pure ?_)))))
 show wpAny _ _ (match Builtin.Slice.sliceAdjust lo hi 1 (n:Int)with|(lo,hi)=>pure (lo,(1:Int),Builtin.Slice.slicePlaces lo hi 1)) _ _ s
 rw[adjust_gen lo hi n]
 show wpAny _ _ (pure (((sIx n 0 lo:Nat):Int),(1:Int),Builtin.Slice.slicePlaces ((sIx n 0 lo:Nat):Int) ((sIx n n hi:Nat):Int) 1)) _ _ s
 rw[places_gen]
 exact wpAny_pure h
theorem pick_gen(xs:Array Value)(i k:Nat):((List.range k).filterMap fun(m:Nat)=>xs[((i:Int)+(m:Int)*1).toNat]?).toArray=((xs.toList.drop i).take k).toArray:=by
 have e:(fun(m:Nat)=>xs[((i:Int)+(m:Int)*1).toNat]?)=fun m=>xs[i+m]? :=by
  funext m
  have:((i:Int)+(m:Int)*1).toNat=i+m:=by(first|lia|omega)
  rw[this]
 rw[e]
 have:=pick_run xs i k
 rw[List.filterMap_map]at this
 have e2:((fun x=>xs[x]?)∘fun x=>i+x)=fun m=>xs[i+m]? :=rfl
 rw[e2]at this
 rw[this]
theorem getItem_tuple_cut{t sl:Addr}{items:Array Value}{vl vu:Value}{lo hi:Option Int}{Q:Value→Shared→Prop}(ht:IsTup s.heap t items)(hs:s.heap.IsSliceOf sl vl vu .none)(pl:IsPart vl lo)(pu:IsPart vu hi)
  (hw:¬(sIx items.size 0 lo=0∧sIx items.size items.size hi=items.size))
  (h:Q (.ref s.heap.objs.size) {s with heap:=s.heap.push {cls:= .type "tuple",data:= .seq ((items.toList.drop (sIx items.size 0 lo)).take (sIx items.size items.size hi-sIx items.size 0 lo)).toArray}})
  (hsz:items.size≤sizeLine):wpAny (model prog w) A (getItem (.ref t) (.ref sl)) Q E s:=by
 have htake:sizeOk (.seq ((items.toList.drop (sIx items.size 0 lo)).take (sIx items.size items.size hi-sIx items.size 0 lo)).toArray):=by
  show((items.toList.drop (sIx items.size 0 lo)).take (sIx items.size items.size hi-sIx items.size 0 lo)).toArray.size≤sizeLine
  rw[List.size_toArray,List.length_take,List.length_drop,Array.length_toList]
  (first|lia|omega)
 have hj:sIx items.size items.size hi≤items.size:=sIx_le _ _ (Nat.le_refl _) hi
 obtain⟨os,hos,hcs,hds⟩:=id hs
 have hTs:s.TypeIs (.ref sl) "slice" :=⟨os,hos,hcs⟩
 unfold getItem
 try with_reducible refine wpAny_holding ?_
 first|refine wpAny_bind (wpAny_pure ?_)|skip
 refine wpAny_bind (wpAny_sequenceKey ht.typeIs (by decide) ?_)
 refine wpAny_bind (wpAny_callSpecial?_slot (name:=Str.ofString "__getitem__") ht.typeIs PyProof.Rows.slot_tuple_getitem
  (wpAny_call_entry PyProof.Rows.slot_tuple_getitem ht.typeIs entry_tuple_getitem ?_ (args_tuple_getitem _ _)))
 show wpAny _ _ (Builtin.Tuple.tupleItemsOf (.ref t)>>=_) _ _ s
 refine wpAny_bind (tupleItemsOf_ ht ?_)
 refine wpAny_bind (wpAny_typeOf hTs ?_)
 rw[if_pos (by decide)]
 refine wpAny_bind (sliceApplied_gen hs pl pu ?_)
 have hno:¬((((sIx items.size 0 lo:Nat):Int)==0&&(1:Int)==1&&(sIx items.size items.size hi-sIx items.size 0 lo)==items.size)=true):=by
  intro q
  rw[Bool.and_eq_true,Bool.and_eq_true]at q
  have q1:((sIx items.size 0 lo:Nat):Int)=0:=eq_of_beq q.1.1
  have q2:sIx items.size items.size hi-sIx items.size 0 lo=items.size:=eq_of_beq q.2
  exact hw ⟨by(first|lia|omega),by(first|lia|omega)⟩
 show wpAny _ _ (if(((sIx items.size 0 lo:Nat):Int)==0&&(1:Int)==1&&(sIx items.size items.size hi-sIx items.size 0 lo)==items.size)=true then _ else _) _ _ s
 rw[if_neg hno,pick_gen]
 first
  |exact wpAny_bind (m:=Builtin.Tuple.tupleExact _) (wpAny_newObj_type (wpAny_pure ⟨_,rfl,wpAny_pure h⟩) htake)
  |exact wpAny_bind (m:=Builtin.Tuple.tupleExact _) (wpAny_newObj_type (wpAny_bind (wpAny_pure (wpAny_pure ⟨_,rfl,wpAny_pure h⟩))) htake)
  |exact wpAny_bind (wpAny_bind (m:=Builtin.Tuple.tupleExact _) (wpAny_newObj_type (wpAny_pure (wpAny_pure ⟨_,rfl,wpAny_pure h⟩)) htake))
  |exact wpAny_bind (wpAny_bind (m:=Builtin.Tuple.tupleExact _) (wpAny_newObj_type (wpAny_pure ⟨_,rfl,wpAny_pure h⟩) htake))
end
end HT
namespace L2
open PySem PySem.Spec PyProof.Rows
noncomputable abbrev TO:=St→Hp→(Option Int→Hp→Prop)→Prop
noncomputable def PO(X:Cx)(e:Option Expr)(t:TO):Prop:=
 ∀(pins:List (Addr×Obj)) (s:Shared) (σ:St) (H:Hp) (Q:Option Int→Hp→Prop),Inv X pins σ H s→t σ H Q→
  wpAny (model X.prog X.w) X.A (evalPart e X.env) (fun u s'=>∃o H',Inv X pins σ H' s'∧IsPart u o∧Q o H') X.xe s
noncomputable def tNoPart:TO:=fun _ H Q=>Q none H
noncomputable def tPart(t:TE):TO:=fun σ H Q=>t σ H fun x H1=>∃i,x= .int i∧Q (some i) H1
theorem intsAre_of{ns:List Int}:∀{us:List Value},Vals (ns.map V.int) us→IntsAre us ns:=by
 induction ns with
 |nil=>intro us r;rw[List.map_nil]at r;cases r;exact .nil
 |cons n ns ih=>
  intro us r
  rw[List.map_cons]at r
  cases r with
  |cons r1 r2=>
   obtain⟨t,e⟩:=r1
   subst e
   exact .cons n t (ih r2)
section
variable{X:Cx}{e:Expr}{te:TE}{lo hi:Option Expr}{tl th:TO}{pos p2:Pos}
theorem po_none:PO X none tNoPart:=by
 intro pins s σ H Q I h
 rw[evalPart_none]
 exact wpAny_pure ⟨none,H,I,.none,h⟩
theorem po_some(h:PE X e te):PO X (some e) (tPart te):=by
 intro pins s σ H Q I hw
 rw[evalPart_some]
 refine thn (h pins s σ H _ I hw) fun u s1 hPl=> ?_
 obtain⟨x,H1,I1,r1,q1⟩:=hPl
 obtain⟨i,rfl,q⟩:=q1
 obtain⟨t,rfl⟩:=r1
 exact⟨some i,H1,I1,.int i t,q⟩
noncomputable def SlR(X:Cx)(r:V→Option Int→Option Int→Hp→VK→Prop):Prop:=
 ∀(pins:List (Addr×Obj)) (s:Shared) (σ:St) (H:Hp) (x:V) (v vl vu:Value) (lo hi:Option Int) (sl:Addr) (Q:VK),Inv X pins σ H s→RelV x v→s.heap.IsSliceOf sl vl vu .none→IsPart vl lo→IsPart vu hi→r x lo hi H Q→
  ∃T id,typeLookup (.type T) "__getitem__" =pure (some (.builtin id))∧s.TypeIs v T∧wpAny (model X.prog X.w) X.A (getItem v (.ref sl)) (EP X pins σ Q) X.xe s
noncomputable def tSl(r:V→Option Int→Option Int→Hp→VK→Prop)(te:TE)(tl th:TO):TE:=fun σ H Q=>te σ H fun x H1=>tl σ H1 fun l H2=>th σ H2 fun u H3=>r x l u H3 Q
theorem pe_slice{r:V→Option Int→Option Int→Hp→VK→Prop}(hr:SlR X r)(he:PE X e te)(hl:PO X lo tl)(hu:PO X hi th):PE X (.Subscript e (.Slice lo hi none p2) pos) (tSl r te tl th):=by
 intro pins s σ H Q I h
 refine Subscript_ (thn (he pins s σ H _ I h) fun v s1 hPl=> ?_)
 obtain⟨x,H1,I1,r1,q1⟩:=hPl
 refine wpAny_Slice (thn (hl pins s1 σ H1 _ I1 q1) fun vl s2 ⟨l,H2,I2,pl,q2⟩=>thn (hu pins s2 σ H2 _ I2 q2) fun vu s3 ⟨u,H3,I3,pu,q3⟩=> ?_)
 rw[evalPart_none]
 refine wpAny_pure ?_
 have I4:Inv X pins σ H3 {s3 with heap:=s3.heap.push {cls:= .type "slice",data:= .fields #[vl,vu,.none]}}:=I3.kept (t':=s3.toks) fun b ob q=>Heap.get?_push_of_some _ q
 obtain⟨T,id,hT,ht,hg⟩:=hr pins {s3 with heap:=s3.heap.push {cls:= .type "slice",data:= .fields #[vl,vu,.none]}} σ H3 x v vl vu l u s3.heap.objs.size Q I4 r1 (Heap.IsSliceOf.new ..) pl pu q3
 show wpAny (model X.prog X.w) X.A (subscriptTail e (.Slice lo hi none p2) v (.ref s3.heap.objs.size)) (EP X pins σ Q) X.xe {s3 with heap:=s3.heap.push {cls:= .type "slice",data:= .fields #[vl,vu,.none]}}
 exact tail_any (ops:=[.ref s3.heap.objs.size,v]) ht hT hg (by with_unfolding_all rfl)
noncomputable def cutV(xs:List V)(lo hi:Option Int):List V:=(xs.drop (HT.sIx xs.length 0 lo)).take (HT.sIx xs.length xs.length hi-HT.sIx xs.length 0 lo)
theorem cutV_length(xs:List V)(lo hi:Option Int):(cutV xs lo hi).length≤xs.length:=by
 unfold cutV
 rw[List.length_take,List.length_drop]
 (first|lia|omega)
noncomputable def rSlT(K:PySem.W.Frag):V→Option Int→Option Int→Hp→VK→Prop:=fun x lo hi H Q=>∃a xs,x= .ref a∧SqT K H a xs∧
 ¬(HT.sIx xs.length 0 lo=0∧HT.sIx xs.length xs.length hi=xs.length)∧∀p,H p=none→Q (.ref p) (upd H p (.tup (cutV xs lo hi)))
theorem sl_tup:SlR X (rSlT X.K):=by
 intro pins s σ H x v vl vu lo hi sl Q I rx hs pl pu h
 obtain⟨a,xs,rfl,hx,hw,q⟩:=h
 cases rx
 obtain⟨its,r,ht,hz⟩:=I.tuple hx
 have hlen:its.toArray.size=xs.length:=by rw[List.size_toArray];exact r.length.symm
 refine⟨"tuple",_,PyProof.Rows.slot_tuple_getitem.lookup,ht.typeIs,?_⟩
 refine HT.getItem_tuple_cut ht hs pl pu (by rw[hlen];exact hw) ?_ (by rw[hlen];exact hz)
 rw[hlen]
 refine⟨.ref s.heap.objs.size,_,I.laid (t':=s.toks) (o:= .tup (cutV xs lo hi)) (fun b ob q=>Heap.get?_push_of_some _ q) (Nat.le_refl _) ?_,rfl,q _ (I.hok.fresh (Nat.le_refl _))⟩
 exact⟨Nat.le_trans (cutV_length xs lo hi) hz,_,(r.drop (HT.sIx xs.length 0 lo)).take (HT.sIx xs.length xs.length hi-HT.sIx xs.length 0 lo),IsTup.new _ _⟩
noncomputable def rCatT(K:PySem.W.Frag):R2:=fun x y H Q=>∃a b xs ys,x= .ref a∧y= .ref b∧SqT K H a xs∧SqT K H b ys∧xs≠[]∧xs.length+ys.length≤sizeLine∧
 (ys=[]→Q (.ref a) H)∧(ys≠[]→∀p,H p=none→Q (.ref p) (upd H p (.tup (xs++ys))))
theorem Vals.nil_iff{xs:List V}{us:List Value}(r:Vals xs us):us=[]↔xs=[]:=by
 cases r with
 |nil=>simp
 |cons _ _=>simp
theorem op_catT:OpR X (binaryOp .Add) (rCatT X.K):=by
 intro pins s σ H x y v u Q I rx ry h
 obtain⟨a,b,xs,ys,rfl,rfl,ha,hb,hx,hz,q1,q2⟩:=h
 cases rx
 cases ry
 obtain⟨its,r1,p1,_⟩:=I.tuple ha
 obtain⟨its2,r2,p2,_⟩:=I.tuple hb
 refine HT.cat_tup p1 p2 (fun z=>hx (r1.nil_iff.mp z)) (fun z=>⟨.ref a,H,I,rfl,q1 (r2.nil_iff.mp z)⟩) (fun z=> ?_) (by rw[←r1.length,←r2.length];exact hz)
 refine⟨.ref s.heap.objs.size,_,I.laid (t':=s.toks) (o:= .tup (xs++ys)) (fun b ob q=>Heap.get?_push_of_some _ q) (Nat.le_refl _) ?_,rfl,q2 (fun w=>z (r2.nil_iff.mpr w)) _ (I.hok.fresh (Nat.le_refl _))⟩
 exact⟨by rw[List.length_append];exact hz,_,r1.append r2,IsTup.new _ _⟩
end
end L2
namespace L2
open PySem PySem.Spec PyProof.Rows
noncomputable def ixN(n:Nat)(i:Int):Option Nat:=if 0≤i then(if i<n then some i.toNat else none)else if-(n:Int)≤i then some (i+n).toNat else none
noncomputable def atI{α:Type}(xs:List α)(i:Int):Option α:=(ixN xs.length i).bind fun j=>xs[j]?
theorem ixN_seq{n:Nat}{i:Int}{j:Nat}(h:ixN n i=some j):seqIndex? i n=some j∧j<n∧-(n:Int)≤i∧i<n:=by
 unfold ixN at h
 by_cases h0:0≤i
 ·rw[if_pos h0]at h
  by_cases h1:i<n
  ·rw[if_pos h1]at h
   have e:i.toNat=j:=Option.some.inj h
   exact⟨by rw[seqIndex_of h0 h1,e],by(first|lia|omega),by(first|lia|omega),h1⟩
  ·rw[if_neg h1]at h;cases h
 ·rw[if_neg h0]at h
  by_cases h1: -(n:Int)≤i
  ·rw[if_pos h1]at h
   have e:(i+n).toNat=j:=Option.some.inj h
   exact⟨by rw[seqIndex_neg (by(first|lia|omega)) h1,e],by(first|lia|omega),h1,by(first|lia|omega)⟩
  ·rw[if_neg h1]at h;cases h
theorem atI_get{α:Type}{xs:List α}{i:Int}{v:α}(h:atI xs i=some v):∃j,seqIndex? i xs.length=some j∧xs[j]? =some v∧j<xs.length∧-(xs.length:Int)≤i∧i<xs.length:=by
 unfold atI at h
 cases e:ixN xs.length i with
 |none=>rw[e]at h;cases h
 |some j=>
  rw[e]at h
  obtain⟨h1,h2,h3,h4⟩:=ixN_seq e
  exact⟨j,h1,h,h2,h3,h4⟩
theorem atI_nat{α:Type}{xs:List α}{j:Nat}{v:α}(h:xs[j]? =some v):atI xs (j:Int)=some v:=by
 have hj:j<xs.length:=(List.getElem?_eq_some_iff.mp h).1
 have e:ixN xs.length (j:Int)=some j:=by
  unfold ixN
  rw[if_pos (by(first|lia|omega)),if_pos (by(first|lia|omega))];simp
 unfold atI;rw[e];exact h
noncomputable def PlainIx(b:Expr):Prop:=∀o i,subscripted b false o i=operate [o,i] (getItem o i)
noncomputable def IxR(X:Cx)(r:R2):Prop:=
 ∀(value slice:Expr) (pins:List (Addr×Obj)) (s:Shared) (σ:St) (H:Hp) (x y:V) (v u:Value) (Q:VK),Inv X pins σ H s→RelV x v→RelV y u→r x y H Q→
  subscripted slice false v u=operate [v,u] (getItem v u)→wpAny (model X.prog X.w) X.A (subscriptTail value slice v u) (EP X pins σ Q) X.xe s
noncomputable def MtR(X:Cx)(id:String)(r:V→List V→Hp→VK→Prop):Prop:=
 ∀(pins:List (Addr×Obj)) (s:Shared) (σ:St) (H:Hp) (x:V) (xs:List V) (v:Value) (us:List Value) (Q:VK),Inv X pins σ H s→RelV x v→Vals xs us→r x xs H Q→
  wpAny (model X.prog X.w) X.A (call (.builtin id) (v::us)) (EP X pins σ Q) X.xe s
section
variable{X:Cx}{a b:Expr}{ta tb:TE}{pos:Pos}
theorem pe_ix{r:R2}(hr:IxR X r)(ha:PE X a ta)(hb:PE X b tb)(hs:PlainIx b):PE X (.Subscript a b pos) (tOp r ta tb):=by
 intro pins s σ H Q I h
 exact Subscript_ (binT ha hb I h fun v u s2 x y H2 I2 rx ry q=>hr a b pins s2 σ H2 x y v u Q I2 rx ry q (hs _ _))
noncomputable def rIxL(K:PySem.W.Frag):R2:=fun x y H Q=>∃p xs i v,x= .ref p∧y= .int i∧SqL K H p xs∧atI xs i=some v∧Q v H
noncomputable def rIxT(K:PySem.W.Frag):R2:=fun x y H Q=>∃p xs i v,x= .ref p∧y= .int i∧SqT K H p xs∧atI xs i=some v∧Q v H
noncomputable def rIxS:R2:=fun x y H Q=>∃z i c,x= .str z∧y= .int i∧z.length≤sizeLine∧atI z.cps.toList i=some c∧Q (.str ⟨#[c]⟩) H
theorem ix_list:IxR X (rIxL X.K):=by
 intro value slice pins s σ H x y v u Q I rx ry h hs
 obtain⟨p,xs,i,z,rfl,rfl,hq,he,q⟩:=h
 cases rx
 obtain⟨t,rfl⟩:=ry
 obtain⟨its,r,pl,hz⟩:=I.list hq
 obtain⟨j,h1,h2,h3,h4,h5⟩:=atI_get he
 obtain⟨w,ew,rw'⟩:=r.get h2
 have hl:=r.length
 have hn:=line63
 have fin:EP X pins σ Q w s:=⟨z,H,I,rw',q⟩
 by_cases h0:0≤i
 ·have hj:i.toNat=j:=by
   rw[seqIndex_of h0 h5]at h1
   exact Option.some.inj h1
  exact item_listR pl.isList h0 (by(first|lia|omega)) (by rw[hj];simpa using ew) fin hs
 ·have hj:(i+(its.toArray.size:Int)).toNat=j:=by
   rw[seqIndex_neg (by(first|lia|omega)) h4]at h1
   rw[List.size_toArray,←hl]
   exact Option.some.inj h1
  exact subscriptTail_builtinR (x:=w) pl.isList.typeIs slot_list_getitem.lookup
   (wpAny_getItem_list_neg (Q:=fun r s'=>r=w∧EP X pins σ Q r s') pl.isList (by(first|lia|omega)) (by rw[List.size_toArray]<;>(first|lia|omega)) (by(first|lia|omega)) (by rw[hj];simpa using ew) ⟨rfl,fin⟩) hs
theorem ix_tup:IxR X (rIxT X.K):=by
 intro value slice pins s σ H x y v u Q I rx ry h hs
 obtain⟨p,xs,i,z,rfl,rfl,hq,he,q⟩:=h
 cases rx
 obtain⟨t,rfl⟩:=ry
 obtain⟨its,r,pl,hz⟩:=I.tuple hq
 obtain⟨j,h1,h2,h3,h4,h5⟩:=atI_get he
 obtain⟨w,ew,rw'⟩:=r.get h2
 have hl:=r.length
 have hn:=line63
 have fin:EP X pins σ Q w s:=⟨z,H,I,rw',q⟩
 exact subscriptTail_builtinR (x:=w) pl.typeIs slot_tuple_getitem.lookup
  (getItem_tuple (j:=j) (Q:=fun r s'=>r=w∧EP X pins σ Q r s') pl (by(first|lia|omega)) (by(first|lia|omega)) (by rw[List.size_toArray,←hl];exact h1) (by simpa using ew) ⟨rfl,fin⟩) hs
theorem ix_str:IxR X rIxS:=by
 intro value slice pins s σ H x y v u Q I rx ry h hs
 obtain⟨z,i,c,rfl,rfl,hz,he,q⟩:=h
 obtain⟨t,rfl⟩:=rx
 obtain⟨t',rfl⟩:=ry
 obtain⟨j,h1,h2,h3,h4,h5⟩:=atI_get he
 have hl:z.cps.toList.length=z.length:=by simp[Str.length]
 rw[hl]at h1 h4 h5
 have hn:=line63
 exact tail_any (typeIs_str s z t) slot_str_getitem.lookup (getItem_str (c:=c) (by
  have e1:decide (i< -(2^63:Int))=false:=decide_eq_false (by(first|lia|omega))
  have e2:decide (i≥2^63)=false:=decide_eq_false (by(first|lia|omega))
  rw[e1,e2,Bool.or_false]) (by rw[h1];simpa using h2) ⟨.str ⟨#[c]⟩,H,I.tok _,⟨_,rfl⟩,q⟩) hs
theorem mapSeq_set(its:List Value)(n j:Nat)(u:Value):Obj.mapSeq (·.setIfInBounds j u) {cls:= .type "list",data:= .seq its.toArray n}={cls:= .type "list",data:= .seq (its.set j u).toArray n}:=by
 simp[Obj.mapSeq]
theorem Inv.lst{pins:List (Addr×Obj)}{σ:St}{H:Hp}{s:Shared}{p:Addr}{xs:List V}(I:Inv X pins σ H s)(h:H p=some (.lst xs)):
  ∃(its:List Value) (n:Nat),Vals xs its∧s.heap.get? p=some {cls:= .type "list",data:= .seq its.toArray n}∧xs.length≤sizeLine:=by
 obtain⟨z,its,n,r,e⟩:=I.hok p _ h
 exact⟨its,n,r,e,z⟩
theorem Inv.lstUpd{pins:List (Addr×Obj)}{σ:St}{H:Hp}{s:Shared}{p:Addr}{xs ys:List V}{its its':List Value}{n n':Nat}{f:Obj→Obj}(I:Inv X pins σ H s)(h:H p=some (.lst xs))
  (ho:s.heap.get? p=some {cls:= .type "list",data:= .seq its.toArray n}) (hf:f {cls:= .type "list",data:= .seq its.toArray n}={cls:= .type "list",data:= .seq its'.toArray n'}) (r:Vals ys its') (hz:ys.length≤sizeLine) (t:Nat):
  Inv X pins σ (upd H p (.lst ys)) {s with heap:=s.heap.update p f,toks:=t}:=by
 have e:(s.heap.update p f).get? p=some {cls:= .type "list",data:= .seq its'.toArray n'}:=by
  rw[Heap.get?_update_self f ho (by rw[hf]<;>rfl),hf]
 refine I.write (x:=p) (e:=p) (by rw[h];trivial) (.inl rfl) (fun b u hb q=>(Heap.get?_update_other _ _ (Ne.symm hb)).trans q) ⟨_,e⟩ ?_
 exact⟨hz,its',n',r,e⟩
noncomputable def rSetL:V→V→V→Hp→(Hp→Prop)→Prop:=fun o i v H Q=>∃p xs k j,o= .ref p∧i= .int k∧H p=some (.lst xs)∧ixN xs.length k=some j∧Q (upd H p (.lst (xs.set j v)))
theorem set_list:PSet X rSetL:=by
 intro pins s σ H o i v ov iv u Q I ro ri rv h
 obtain⟨p,xs,k,j,rfl,rfl,hp,hj,q⟩:=h
 cases ro
 obtain⟨t,rfl⟩:=ri
 obtain⟨its,n,r,ho,hz⟩:=I.lst hp
 obtain⟨h1,h2,h3,h4⟩:=ixN_seq hj
 have hl:=r.length
 have hn:=line63
 have I':Inv X pins σ (upd H p (.lst (xs.set j v))) {s with heap:=s.heap.update p (Obj.mapSeq (·.setIfInBounds j u))}:=
  I.lstUpd hp ho (mapSeq_set its n j u) (r.set rv j) (by rw[List.length_set];exact hz) s.toks
 by_cases h0:0≤k
 ·have hk:k.toNat=j:=by
   rw[seqIndex_of h0 h4]at h1
   exact Option.some.inj h1
  exact PySem.W.ki_setAt ho h0 (by(first|lia|omega)) (by rw[List.size_toArray,←hl];exact h4) (by rw[hk];exact⟨_,I',q⟩)
 ·have hk:(k+(its.toArray.size:Int)).toNat=j:=by
   rw[seqIndex_neg (by(first|lia|omega)) h3]at h1
   rw[List.size_toArray,←hl]
   exact Option.some.inj h1
  exact PySem.W.ki_setBack ho (by(first|lia|omega)) (by rw[List.size_toArray,←hl];exact h3) (by(first|lia|omega)) (by rw[hk];exact⟨_,I',q⟩)
theorem slice_bounds(lo hi:Option Int)(n:Nat):(sliceBounds lo hi none n).1=((HT.sIx n 0 lo:Nat):Int)∧(sliceBounds lo hi none n).2.1=((HT.sIx n n hi:Nat):Int)∧(sliceBounds lo hi none n).2.2=1:=by
 refine⟨?_,?_,rfl⟩
 ·cases lo with
  |none=>simp[sliceBounds,HT.sIx]
  |some i=>
   simp only[sliceBounds,HT.sIx,Option.getD_none,show(1:Int)>0 by decide,if_true]
   by_cases h:i<0
   ·simp only[h,if_true]<;>(first|lia|omega)
   ·simp only[h,if_false]<;>(first|lia|omega)
 ·cases hi with
  |none=>simp[sliceBounds,HT.sIx]
  |some i=>
   simp only[sliceBounds,HT.sIx,Option.getD_none,show(1:Int)>0 by decide,if_true]
   by_cases h:i<0
   ·simp only[h,if_true]<;>(first|lia|omega)
   ·simp only[h,if_false]<;>(first|lia|omega)
theorem slicePick_cut(its:List Value)(lo hi:Option Int):slicePick its.toArray lo hi none=((its.drop (HT.sIx its.length 0 lo)).take (HT.sIx its.length its.length hi-HT.sIx its.length 0 lo)).toArray:=by
 obtain⟨h1,h2,h3⟩:=slice_bounds lo hi its.toArray.size
 unfold slicePick
 rw[h1,h2,h3]
 simp only[sliceRange_one,pick_run,List.size_toArray]<;>rfl
noncomputable def rSlL(K:PySem.W.Frag):V→Option Int→Option Int→Hp→VK→Prop:=fun x lo hi H Q=>∃a xs,x= .ref a∧SqL K H a xs∧∀p,H p=none→Q (.ref p) (upd H p (.lst (cutV xs lo hi)))
theorem sl_list:SlR X (rSlL X.K):=by
 intro pins s σ H x v vl vu lo hi sl Q I rx hs pl pu h
 obtain⟨a,xs,rfl,hx,q⟩:=h
 cases rx
 obtain⟨its,r,ht,hz⟩:=I.list hx
 have hlen:=r.length
 refine⟨"list",_,slot_list_getitem.lookup,ht.isList.typeIs,?_⟩
 refine wpAny_getItem_list_slice ht.isList hs pl pu .none (by simp) ?_ (by rw[List.size_toArray]<;>(first|lia|omega))
 rw[slicePick_cut,←hlen]
 refine⟨.ref s.heap.objs.size,_,I.laid (t':=s.toks) (o:= .lst (cutV xs lo hi)) (fun b ob q=>Heap.get?_push_of_some _ q) (Nat.le_refl _) ?_,rfl,q _ (I.hok.fresh (Nat.le_refl _))⟩
 exact⟨Nat.le_trans (cutV_length xs lo hi) hz,_,0,(r.drop (HT.sIx xs.length 0 lo)).take (HT.sIx xs.length xs.length hi-HT.sIx xs.length 0 lo),Heap.get?_push_size _ rfl⟩
noncomputable def flatV:V→Bool
 | .non=>true
 | .bl _=>true
 | .int _=>true
 | .str _=>true
 |_=>false
noncomputable def eqV:V→V→Bool
 | .non,.non=>true
 | .bl a,.bl b=>a==b
 | .bl a,.int b=>(if a then 1 else 0)==b
 | .int a,.bl b=>a==(if b then 1 else 0)
 | .int a,.int b=>a==b
 | .str a,.str b=>a==b
 |_,_=>false
theorem eqAt_V{A:Around}{s:Shared}{y x:V}{u v:Value}(ry:RelV y u)(rx:RelV x v)(fy:flatV y=true)(fx:flatV x=true):SeqAt.EqAt A s u v (eqV y x):=by
 cases y with
 |non=>
  cases ry
  cases x with
  |non=>cases rx;exact SeqAt.EqAt.same _
  |bl b=>cases rx;exact SeqAt.EqAt.none_bool b
  |int b=>obtain⟨t,rfl⟩:=rx;exact SeqAt.EqAt.none_int b t
  |str b=>obtain⟨t,rfl⟩:=rx;exact SeqAt.EqAt.none_str b t
  |_=>exact absurd (show false=true from fx) Bool.false_ne_true
 |bl a=>
  cases ry
  cases x with
  |non=>cases rx;exact SeqAt.EqAt.bool_none a
  |bl b=>cases rx;exact SeqAt.EqAt.bool_bool a b
  |int b=>obtain⟨t,rfl⟩:=rx;exact SeqAt.EqAt.bool_int a b t
  |str b=>obtain⟨t,rfl⟩:=rx;exact SeqAt.EqAt.bool_str a b t
  |_=>exact absurd (show false=true from fx) Bool.false_ne_true
 |int a=>
  obtain⟨t',rfl⟩:=ry
  cases x with
  |non=>cases rx;exact SeqAt.EqAt.int_none a t'
  |bl b=>cases rx;exact SeqAt.EqAt.int_bool a t' b
  |int b=>obtain⟨t,rfl⟩:=rx;exact SeqAt.EqAt.int_int a t' b t
  |str b=>obtain⟨t,rfl⟩:=rx;exact SeqAt.EqAt.int_str a t' b t
  |_=>exact absurd (show false=true from fx) Bool.false_ne_true
 |str a=>
  obtain⟨t',rfl⟩:=ry
  cases x with
  |non=>cases rx;exact SeqAt.EqAt.str_none a t'
  |bl b=>cases rx;exact SeqAt.EqAt.str_bool a t' b
  |int b=>obtain⟨t,rfl⟩:=rx;exact SeqAt.EqAt.str_int a t' b t
  |str b=>obtain⟨t,rfl⟩:=rx;exact SeqAt.EqAt.str_str a t' b t
  |_=>exact absurd (show false=true from fx) Bool.false_ne_true
 |_=>exact absurd (show false=true from fy) Bool.false_ne_true
noncomputable def eqU(x:V)(u:Value):Bool:=match u with
 | .none=>eqV .non x
 | .bool b=>eqV (.bl b) x
 | .int i _=>eqV (.int i) x
 | .str z _=>eqV (.str z) x
 |_=>false
theorem eqU_of{x y:V}{u:Value}(r:RelV y u)(f:flatV y=true):eqU x u=eqV y x:=by
 cases y with
 |non=>cases r;rfl
 |bl b=>cases r;rfl
 |int i=>obtain⟨t,rfl⟩:=r;rfl
 |str z=>obtain⟨t,rfl⟩:=r;rfl
 |_=>exact absurd (show false=true from f) Bool.false_ne_true
theorem any_eqU{x:V}:∀{xs:List V} {us:List Value},Vals xs us→xs.all flatV=true→us.any (eqU x)=xs.any fun y=>eqV y x
 |_,_,.nil,_=>rfl
 |y::xs,u::us,.cons r t,f=>by
  rw[List.all_cons,Bool.and_eq_true]at f
  rw[List.any_cons,List.any_cons,eqU_of r f.1,any_eqU t f.2]
theorem mem_eqAt{A:Around}{s:Shared}{x:V}{v:Value}(rx:RelV x v)(fx:flatV x=true):∀{xs:List V} {us:List Value},Vals xs us→xs.all flatV=true→∀u∈us,SeqAt.EqAt A s u v (eqU x u)
 |_,_,.nil,_=>fun u hu=>by cases hu
 |y::xs,u::us,.cons r t,f=>fun u' hu=>by
  rw[List.all_cons,Bool.and_eq_true]at f
  rcases List.mem_cons.mp hu with rfl|hu
  ·rw[eqU_of r f.1];exact eqAt_V r rx f.1 fx
  ·exact mem_eqAt rx fx t f.2 u' hu
noncomputable def inV(x:V)(xs:List V):Bool:=xs.any fun y=>eqV y x
noncomputable def rIn(K:PySem.W.Frag)(neg:Bool):R2:=fun x y H Q=>∃p xs,y= .ref p∧(SqL K H p xs∨SqT K H p xs)∧flatV x=true∧xs.all flatV=true∧Q (.bl (if neg then !inV x xs else inV x xs)) H
theorem op_in_seq:OpR X (compareOp .In) (rIn X.K false):=by
 intro pins s σ H x y v u Q I rx ry h
 obtain⟨p,xs,rfl,hq,fx,fs,q⟩:=h
 cases ry
 rcases hq with hq|hq
 ·obtain⟨its,r,pl,hz⟩:=I.list hq
  refine SeqAt.in_listAt (eqU x) pl.isList (fun w hw=>mem_eqAt rx fx r fs w (by simpa using hw)) ⟨.bl _,H,I,rfl,?_⟩
  rw[show its.toArray.any (eqU x)=its.any (eqU x)by simp,any_eqU r fs]
  exact q
 ·obtain⟨its,r,pl,hz⟩:=I.tuple hq
  refine SeqAt.in_tupleAt (eqU x) pl (fun w hw=>mem_eqAt rx fx r fs w (by simpa using hw)) ⟨.bl _,H,I,rfl,?_⟩
  rw[show its.toArray.any (eqU x)=its.any (eqU x)by simp,any_eqU r fs]
  exact q
theorem op_notIn_seq:OpR X (compareOp .NotIn) (rIn X.K true):=by
 intro pins s σ H x y v u Q I rx ry h
 obtain⟨p,xs,rfl,hq,fx,fs,q⟩:=h
 cases ry
 rcases hq with hq|hq
 ·obtain⟨its,r,pl,hz⟩:=I.list hq
  refine SeqAt.notIn_listAt (eqU x) pl.isList (fun w hw=>mem_eqAt rx fx r fs w (by simpa using hw)) ⟨.bl _,H,I,rfl,?_⟩
  rw[show its.toArray.any (eqU x)=its.any (eqU x)by simp,any_eqU r fs]
  exact q
 ·obtain⟨its,r,pl,hz⟩:=I.tuple hq
  refine SeqAt.notIn_tupleAt (eqU x) pl (fun w hw=>mem_eqAt rx fx r fs w (by simpa using hw)) ⟨.bl _,H,I,rfl,?_⟩
  rw[show its.toArray.any (eqU x)=its.any (eqU x)by simp,any_eqU r fs]
  exact q
theorem call_len_seq:CallR X (.builtin "len") (fun xs H Q=>∃p ys,xs=[.ref p]∧(SqL X.K H p ys∨SqT X.K H p ys)∧Q (.int ys.length) H):=by
 intro pins s σ H xs us Q I r h
 obtain⟨p,ys,rfl,hq,q⟩:=h
 obtain⟨u,rfl,rx⟩:=vals1 r
 cases rx
 have hn:=line63
 rcases hq with hq|hq
 ·obtain⟨its,r',pl,hz⟩:=I.list hq
  have hlen:=r'.length
  exact Calls.call_len_list pl.isList (by simp only[List.size_toArray]<;>(first|lia|omega)) ⟨.int ys.length,H,I.tok _,⟨s.toks+1,by rw[List.size_toArray,hlen]⟩,q⟩
 ·obtain⟨its,r',pl,hz⟩:=I.tuple hq
  have hlen:=r'.length
  exact len_tuple pl (by simp only[List.size_toArray]<;>(first|lia|omega)) ⟨.int ys.length,H,I.tok _,⟨s.toks+1,by rw[List.size_toArray,hlen]⟩,q⟩
theorem call_len_str:CallR X (.builtin "len") (fun xs H Q=>∃z,xs=[.str z]∧z.length≤sizeLine∧Q (.int z.length) H):=by
 intro pins s σ H xs us Q I r h
 obtain⟨z,rfl,hz,q⟩:=h
 obtain⟨u,rfl,t,rfl⟩:=vals1 r
 have hn:=line63
 exact len_str (by(first|lia|omega)) ⟨.int z.length,H,I.tok _,⟨_,rfl⟩,q⟩
theorem call_list_of:CallR X (.type "list") (fun xs H Q=>∃p ys,xs=[.ref p]∧(SqL X.K H p ys∨SqT X.K H p ys)∧∀l,H l=none→Q (.ref l) (upd H l (.lst ys))):=by
 intro pins s σ H xs us Q I r h
 obtain⟨p,ys,rfl,hq,q⟩:=h
 obtain⟨u,rfl,rx⟩:=vals1 r
 cases rx
 have fin:∀(its:List Value),Vals ys its→ys.length≤sizeLine→∀(h':Heap) (c':Nat),(∀b o',s.heap.get? b=some o'→h'.get? b=some o')→
   h'.get? s.heap.objs.size=some {cls:= .type "list",dict:=none,data:= .seq its.toArray c',slots:= #[]}→EP X pins σ Q (.ref s.heap.objs.size) {s with heap:=h'}:=fun its r' hz h' c' kp e=>
  ⟨.ref s.heap.objs.size,_,I.laid (t':=s.toks) kp (Nat.le_refl _) (show ObjOk X.prog X.w _ h' _ (.lst ys)from⟨hz,its,c',r',e⟩),rfl,q _ (I.hok.fresh (Nat.le_refl _))⟩
 rcases hq with hq|hq
 ·obtain⟨its,r',pl,hz⟩:=I.list hq
  have hlen:=r'.length
  obtain⟨o,ho,hc,n,hd⟩:=pl.isList
  exact call_list_seq p (.inl rfl) ho hc hd (fun h' c' kp e=>fin its r' hz h' c' kp e) (by simp only[List.size_toArray]<;>(first|lia|omega))
 ·obtain⟨its,r',pl,hz⟩:=I.tuple hq
  have hlen:=r'.length
  obtain⟨o,ho,hc,n,hd⟩:=pl
  exact call_list_seq p (.inr rfl) ho hc hd (fun h' c' kp e=>fin its r' hz h' c' kp e) (by simp only[List.size_toArray]<;>(first|lia|omega))
theorem call_tuple_of:CallR X (.type "tuple") (fun xs H Q=>∃p ys,xs=[.ref p]∧((SqL X.K H p ys∧∀l,H l=none→Q (.ref l) (upd H l (.tup ys)))∨(SqT X.K H p ys∧Q (.ref p) H))):=by
 intro pins s σ H xs us Q I r h
 obtain⟨p,ys,rfl,h⟩:=h
 obtain⟨u,rfl,rx⟩:=vals1 r
 cases rx
 rcases h with⟨hq,q⟩|⟨hq,q⟩
 ·obtain⟨its,r',pl,hz⟩:=I.list hq
  have hlen:=r'.length
  refine call_tuple_list pl.isList (fun h' kp=> ?_) (by simp only[List.size_toArray]<;>(first|lia|omega))
  have I1:Inv X pins σ H {s with heap:=h'}:=I.kept (t':=s.toks) kp
  have I2:Inv X pins σ (upd H h'.objs.size (.tup ys)) {s with heap:=h'.push {cls:= .type "tuple",data:= .seq its.toArray}}:=
   I1.laid (t':=s.toks) (fun b o e=>Heap.get?_push_of_some _ e) (Nat.le_refl _) (show ObjOk X.prog X.w _ _ _ (.tup ys)from⟨hz,its,r',IsTup.new _ _⟩)
  exact⟨.ref h'.objs.size,_,I2,rfl,q _ (I1.hok.fresh (Nat.le_refl _))⟩
 ·obtain⟨its,r',pl,hz⟩:=I.tuple hq
  exact call_tuple_same pl ⟨.ref p,H,I,rfl,q⟩
noncomputable def tyV(K:PySem.W.Frag)(T:String)(x:V)(H:Hp):Prop:=match x with
 | .str _=>T= "str"
 | .int _=>T= "int"
 | .ref p=>(T= "list" ∧∃xs,SqL K H p xs)∨(T= "tuple" ∧∃o,K.lookup p=some o∧o.cls= .type "tuple" ∧o.dict=none)∨
   (T= "dict" ∧((∃kvs,H p=some (.dK kvs))∨∃kvs,H p=some (.dT kvs)))∨(T= "set" ∧∃S n,H p=some (.set S n))
 |_=>False
theorem tyV_is{pins:List (Addr×Obj)}{σ:St}{H:Hp}{s:Shared}{T:String}{x:V}{v:Value}(I:Inv X pins σ H s)(r:RelV x v)(ty:tyV X.K T x H):
  s.TypeIs v T∧∀a,v= .ref a→∃ob,s.heap.get? a=some ob∧ob.dict=none:=by
 cases x with
 |str z=>
  obtain⟨t,rfl⟩:=r
  cases (show T= "str" from ty)
  exact⟨typeIs_str s z t,fun _ e=>nomatch e⟩
 |int i=>
  obtain⟨t,rfl⟩:=r
  cases (show T= "int" from ty)
  exact⟨typeIs_int s i t,fun _ e=>nomatch e⟩
 |ref p=>
  cases r
  rcases ty with⟨rfl,xs,hq⟩|⟨rfl,o,hk,hc,hd⟩|⟨rfl,hk⟩|⟨rfl,S,n,hk⟩
  ·obtain⟨its,_,pl,_⟩:=I.list hq
   refine⟨pl.isList.typeIs,fun a e=> ?_⟩
   cases e
   obtain⟨o,n,e,c,hd,_⟩:=pl
   exact⟨o,e,hd⟩
  ·refine⟨⟨o,I.kIn p o hk,hc⟩,fun a e=> ?_⟩
   cases e
   exact⟨o,I.kIn _ o hk,hd⟩
  ·have z:∃o,s.heap.get? p=some o∧o.ExactDict:=by
    rcases hk with⟨kvs,hk⟩|⟨kvs,hk⟩
    ·obtain⟨_,_,_,_,o,_,_,e,ex,_⟩:=I.hok p _ hk
     exact⟨o,e,ex⟩
    ·obtain⟨_,_,_,_,o,_,_,e,ex,_⟩:=I.hok p _ hk
     exact⟨o,e,ex⟩
   obtain⟨o,e,ex⟩:=z
   refine⟨⟨o,e,ex.1⟩,fun a e2=> ?_⟩
   cases e2
   exact⟨o,e,ex.2.1⟩
  ·obtain⟨o,_,_,_,e,ex,_⟩:=I.hok p _ hk
   refine⟨⟨o,e,ex.1⟩,fun a e2=> ?_⟩
   cases e2
   exact⟨o,e,ex.2.1⟩
 |_=>exact False.elim ty
noncomputable def tBM(K:PySem.W.Frag)(T:String)(r:V→List V→Hp→VK→Prop)(to:TE)(t:TA):TE:=fun σ H Q=>to σ H fun x H1=>tyV K T x H1∧t σ H1 fun xs H2=>r x xs H2 Q
variable{o e:Expr}{es:List Expr}{to:TE}{t:TA}{name:Str}{apos cpos:Pos}{T id:String}{r:V→List V→Hp→VK→Prop}
theorem pe_bm(pa:PlainAttrs T)(slot:Slot T name id)(hty:typeOf (.builtin id)=pure (.type "method_descriptor"))(hm:MtR X id r)(ho:PE X o to)(ha:PA X (e::es) t)
  (hbase:attributeBase o name X.env (eval o X.env)=eval o X.env:=by rfl)
  (hfew:((backTo cpos (starEach (e::es) X.env)).all (fun x=> !x.1)&&(backToKw cpos (keywordEach [] X.env)).all (fun x=>x.1.isSome)
   &&decide ((e::es).length+([]:List Keyword).length+(if([]:List Keyword).isEmpty then 0 else 1)<30))=true:=by rfl)
  (hline:(apos.endLine==cpos.line)=true:=by rfl) (hs:starEach (e::es) X.env=(false,eval e X.env)::starEach es X.env:=by rfl) (hplain:(backTo cpos (starEach es X.env)).any (·.1)=false:=by rfl):
  PE X (.Call (.Attribute o name apos) (e::es) [] cpos) (tBM X.K T r to t):=by
 intro pins s σ H Q I h
 refine wpAny_Call_method_late hbase hfew hline rfl (thn (ho pins s σ H _ I h) fun v s1 hPl=> ?_)
 obtain⟨x,H1,I1,r1,ty,q1⟩:=hPl
 obtain⟨h1,h2⟩:=tyV_is I1 r1 ty
 refine⟨T,id,pa,slot,hty,h1,h2,?_⟩
 have hA:=ha cpos pins s1 σ H1 _ I1 q1
 rw[hs]at hA⊢
 refine Calls.callWith_builtin (by show(false||(backTo cpos (starEach es X.env)).any (·.1))=false;rw[hplain]<;>rfl) (Calls.evalArgs_plain ?_)
 exact thn hA fun us s2 hPl=>by obtain⟨vs,H2,I2,r2,q2⟩:=hPl;exact hm pins s2 σ H2 x vs v us Q I2 r1 r2 q2
/-xs.append(e),list.index on a module's tuple .. are MtR facts of 06m-/
end
end L2
namespace L2
open PySem PySem.Spec PyProof.Rows
noncomputable def MtM(X:Cx)(id:String)(r:V→List V→Hp→VK→Prop):Prop:=
 ∀(pins:List (Addr×Obj)) (s:Shared) (σ:St) (H:Hp) (x:V) (xs:List V) (v:Value) (us:List Value) (Q:VK),Inv X pins σ H s→RelV x v→Vals xs us→r x xs H Q→
  wpAny (model X.prog X.w) X.A (call (.builtin id) (v::us)) (EP X pins σ Q) X.xe s
theorem Vals.one{x:V}{us:List Value}(h:Vals [x] us):∃u,us=[u]∧RelV x u:=by
 cases h with
 |cons r t=>cases t;exact⟨_,rfl,r⟩
theorem Vals.two{x y:V}{us:List Value}(h:Vals [x,y] us):∃u v,us=[u,v]∧RelV x u∧RelV y v:=by
 cases h with
 |cons r t=>cases t with
  |cons q t=>cases t;exact⟨_,_,rfl,r,q⟩
theorem Vals.rep{xs:List V}{us:List Value}(h:Vals xs us):∀k:Nat,Vals (List.replicate k xs).flatten (List.replicate k us).flatten
 |0=> .nil
 |k+1=>by
  rw[List.replicate_succ,List.replicate_succ,List.flatten_cons,List.flatten_cons]
  exact Vals.append h (Vals.rep h k)
theorem foldl_rep(its:List Value):∀(k:Nat) (acc:List Value),
  List.foldl (fun x1 x2=>x1++x2) acc.toArray (List.replicate k its.toArray)=(acc++(List.replicate k its).flatten).toArray
 |0,acc=>by simp
 |k+1,acc=>by
  have e:acc.toArray++its.toArray=(acc++its).toArray:=by simp
  have e2:(acc++its)++(List.replicate k its).flatten=acc++(List.replicate (k+1) its).flatten:=by
   rw[List.replicate_succ,List.flatten_cons,List.append_assoc]
  rw[←e2,←foldl_rep its k (acc++its),←e,List.replicate_succ,List.foldl_cons]
section
variable{X:Cx}{pins:List (Addr×Obj)}{σ:St}{H:Hp}{s:Shared}{l b:Addr}{xs ys zs:List V}
theorem Inv.lset{its its':List Value}{n:Nat}{f:Array Value→Array Value}{t':Nat}(I:Inv X pins σ H s)(hH:H l=some (.lst xs))
  (e:s.heap.get? l=some {cls:= .type "list",data:= .seq its.toArray n}) (hf:f its.toArray=its'.toArray) (hv:Vals ys its') (hz:ys.length≤sizeLine):
  Inv X pins σ (upd H l (.lst ys)) {s with heap:=s.heap.update l (Obj.mapSeq f),toks:=t'}:=by
 have q:=PySem.IsL.update e f
 rw[hf]at q
 refine I.write (x:=l) (e:=l) (by rw[hH];exact trivial) (.inl rfl) (fun b' u hb hu=>(Heap.get?_update_other s.heap (Obj.mapSeq f) (Ne.symm hb)).trans hu) ⟨_,q⟩ ?_
 exact⟨hz,its',_,hv,q⟩
theorem Inv.lnew{its:List Value}{t':Nat}(I:Inv X pins σ H s)(hv:Vals ys its)(hz:ys.length≤sizeLine):
  Inv X pins σ (upd H s.heap.objs.size (.lst ys)) {s with heap:=s.heap.push {cls:= .type "list",data:= .seq its.toArray},toks:=t'}:=
 I.laid (fun _ _ q=>Heap.get?_push_of_some _ q) (Nat.le_refl _) ⟨hz,its,0,hv,Heap.get?_push_size _ rfl⟩
theorem Inv.fresh(I:Inv X pins σ H s):H s.heap.objs.size=none:=I.hok.fresh (Nat.le_refl _)
theorem Inv.lstM(I:Inv X pins σ H s)(hH:H l=some (.lst xs)):xs.length≤sizeLine∧∃(its:List Value) (n:Nat),Vals xs its∧xs.length=its.length∧s.heap.get? l=some {cls:= .type "list",data:= .seq its.toArray n}:=by
 obtain⟨z,its,n,r,e⟩:=I.hok l _ hH
 exact⟨z,its,n,r,r.length,e⟩
theorem notLongL{n:Nat}(h:n≤sizeLine):Builtin.List.listTooLong n=false:=by
 unfold Builtin.List.listTooLong
 exact decide_eq_false (by(first|lia|omega))
end
section
variable{X:Cx}
noncomputable def rAppend:V→List V→Hp→VK→Prop:=fun x vs H Q=>∃l xs y,x= .ref l∧vs=[y]∧H l=some (.lst xs)∧xs.length<sizeLine∧Q .non (upd H l (.lst (xs++[y])))
theorem mt_append:MtM X "list.append" rAppend:=by
 intro pins s σ H x vs v us Q I rx rv h
 obtain⟨l,xs,y,rfl,rfl,hH,hz,q⟩:=h
 cases rx
 obtain⟨u,rfl,ru⟩:=rv.one
 obtain⟨z,its,n,r,hl,e⟩:=I.lstM hH
 refine call_meets F.slot_list_append ⟨_,e,rfl⟩ F.entry_list_append (F.args_list_append_2 _ _) (PySem.list_append l its.toArray n u (by rw[List.size_toArray];(first|lia|omega))) ⟨e,?_⟩
 refine⟨.non,_,I.lset (its':=its++[u]) hH e (by simp) (r.append (.cons ru .nil)) ?_,rfl,q⟩
 rw[List.length_append,List.length_singleton]
 (first|lia|omega)
noncomputable def rExtend:V→List V→Hp→VK→Prop:=fun x vs H Q=>∃l b xs zs,x= .ref l∧vs=[.ref b]∧H l=some (.lst xs)∧H b=some (.lst zs)∧xs.length+zs.length≤sizeLine∧Q .non (upd H l (.lst (xs++zs)))
theorem mt_extend:MtM X "list.extend" rExtend:=by
 intro pins s σ H x vs v us Q I rx rv h
 obtain⟨l,b,xs,zs,rfl,rfl,hH,hB,hz,q⟩:=h
 cases rx
 obtain⟨u,rfl,ru⟩:=rv.one
 cases ru
 obtain⟨z,its,n,r,hl,e⟩:=I.lstM hH
 obtain⟨z2,its2,n2,r2,hl2,e2⟩:=I.lstM hB
 have hsz:its.toArray.size+its2.toArray.size≤sizeLine:=by rw[List.size_toArray,List.size_toArray];(first|lia|omega)
 have hlong:¬(!its.toArray.isEmpty&&Builtin.List.listTooLong (its.toArray.size+its2.toArray.size))=true:=by
  rw[notLongL hsz,Bool.and_false]
  exact Bool.false_ne_true
 refine call_meets F.slot_list_extend ⟨_,e,rfl⟩ F.entry_list_extend (F.args_list_extend_2 _ _)
  (AutoSeq1.list_extend_list_list_0 l its.toArray n b its2.toArray n2 hlong (by rw[List.size_toArray];(first|lia|omega)) (by(first|lia|omega))) ⟨e,e2,?_⟩
 refine⟨.non,_,I.lset (its':=its++its2) hH e (by simp) (r.append r2) ?_,rfl,q⟩
 rw[List.length_append]
 (first|lia|omega)
noncomputable def rRep:R2:=fun x y H Q=>∃l k xs,x= .ref l∧y= .int k∧H l=some (.lst xs)∧-(2^63)≤k∧k<2^63∧xs.length*k.toNat≤sizeLine∧
 ∀p,H p=none→Q (.ref p) (upd H p (.lst (List.replicate k.toNat xs).flatten))
theorem len_rep{α:Type}(xs:List α)(k:Nat):(List.replicate k xs).flatten.length=k*xs.length:=by
 induction k with
 |zero=>simp
 |succ k ih=>rw[List.replicate_succ,List.flatten_cons,List.length_append,ih,Nat.succ_mul,Nat.add_comm]
theorem op_rep:OpR X (binaryOp .Mult) rRep:=by
 intro pins s σ H x y v u Q I rx ry h
 obtain⟨l,k,xs,rfl,rfl,hH,h1,h2,hz,q⟩:=h
 cases rx
 obtain⟨t,rfl⟩:=ry
 obtain⟨z,its,n,r,hl,e⟩:=I.lstM hH
 have hlen:its.toArray.size*k.toNat≤sizeLine:=by rw[List.size_toArray,←hl];exact hz
 have hcap:¬its.toArray.size*k.toNat>(2^63-1)/8:=by
  have:(sizeLine:Nat)≤(2^63-1)/8:=by decide
  (first|lia|omega)
 have hfit:¬(!Builtin.List.listFitsIndex k)=true:=by
  rw[fitsIndex_both h1 h2]
  exact Bool.false_ne_true
 have hlong:¬Builtin.List.listTooLong (its.toArray.size*k.toNat)=true:=by
  rw[notLongL hlen]
  exact Bool.false_ne_true
 have hnew:List.foldl (fun x1 x2=>x1++x2) #[] (List.replicate (if its.toArray.isEmpty=true then 0 else k.toNat) its.toArray)=(List.replicate k.toNat its).flatten.toArray:=by
  have f0:∀m:Nat,List.foldl (fun x1 x2=>x1++x2) #[] (List.replicate m its.toArray)=(List.replicate m its).flatten.toArray:=fun m=>by
   have:=foldl_rep its m []
   rw[List.nil_append]at this
   exact this
  rw[f0]
  cases its with
  |nil=>simp
  |cons a r'=>rw[if_neg (by simp)]
 refine wpAny_binaryOp_repeat_ref (T:= "list") (U:= "int") (by decide) ⟨_,e,rfl⟩ (fun s'=>typeIs_int s' k t) noFill_list_mul F.fills_int_mul F.slot_int_rmul repeat_list F.slot_int_index.lookup
  (call_meets F.slot_int_rmul (typeIs_int s k t) F.entry_int_rmul (F.args_int_rmul_2 _ _) (int___rmul___int_list k t l its.toArray n)
   ⟨e,rfl,⟨_,e,rfl⟩,call_meets F.slot_list_mul ⟨_,e,rfl⟩ F.entry_list_mul (F.args_list_mul_2 _ _) (AutoListH.list___mul___list_int_3 l its.toArray n k t hfit hcap hlong) ⟨e,?_⟩⟩)
 rw[hnew]
 exact⟨.ref _,_,I.lnew (t':=s.toks) (r.rep k.toNat) (by rw[len_rep,Nat.mul_comm];exact hz),rfl,q _ I.fresh⟩
end
section
variable{prog:Program}{w:World}{A:Around}{E:Value→Shared→Prop}{s:Shared}
end
section
variable{X:Cx}
end
end L2
namespace Att
open PySem PySem.W PySem.Calls PyProof.Rows
theorem ints_of_wellAll{P:Params}{h:Heap}:∀(ns:List Int) (vs:List Value),WellAll P h vs (ns.map WData.int)→IntsAre vs ns:=by
 intro ns
 induction ns with
 |nil=>
  intro vs w
  rw[List.map_nil]at w
  cases w
  exact .nil
 |cons n ns ih=>
  intro vs w
  rw[List.map_cons]at w
  cases w with
  |cons a b=>
   cases a
   exact .cons _ _ (ih _ b)
theorem script_of{l:OpenLaw}{n:Nat}(hn:l.most=some n){P:Params}{h:Heap}{args:List WData}{vals:List Value}
  (hpre:l.row.toRowW.claim.pre args=true) (hwl:WellAll P h vals args):
  ∃a vs ns,vals=[Value.ref a]∧args=[WData.list (ns.map WData.int)]∧h.get? a=some {cls:= .type "list",data:= .seq vs.toArray}∧IntsAre vs ns∧ns.length≤n:=by
 have hsh:WShape.hasAll [] args [.list .int]=true:=(pre_splitW hpre).1
 have hc:l.pre.holds [] {args:=args}=true:=(pre_splitW hpre).2
 obtain⟨d,r,rfl,h1,h2⟩:=hasAllW_cons hsh
 obtain rfl:=hasAllW_nil h2
 obtain⟨xs,rfl,h3⟩:=hasW_list h1
 obtain⟨ns,rfl⟩:=items_int h3
 have hlen:ns.length≤n:=by
  unfold OpenLaw.pre at hc
  have h4:(WTm.not (.lt (.lit (.int (n:Int))) (.len (.arg 0)))).holds [] {args:=[.list (ns.map .int)]}=true:=by
   have h4:=(holds_andW hc).1
   rw[hn]at h4
   exact h4
  have h5:=condW_of h4 (w_not (w_lt w_lit (w_len_list (w_arg rfl))))
  rw[List.length_map]at h5
  refine Nat.le_of_not_lt fun q=> ?_
  have q':(n:Int)<((ns.length:Nat):Int):=by(first|lia|omega)
  first
   |(rw[decide_eq_true q']at h5;exact absurd h5 (by decide))
   |(simp at h5;(first|lia|omega))
 cases hwl with
 |cons w1 w2=>
  cases w2
  cases w1 with
  |list ho hall=>exact⟨_,_,ns,rfl,rfl,ho,ints_of_wellAll ns _ hall,hlen⟩
theorem post_true(l:OpenLaw)(args:List WData):l.row.toRowW.claim.post args (.bool true) args=true:=
 postW_of (r:=l.row.toRowW) (X:=(true==true))
  (show WShape.has [] (.bool true) .bool=true by first|rfl|decide|simp[WShape.has,WShape.arms,WShape.armsAll])
  (show(WTm.eq .res (.lit (.bool true))).value [] {args:=args,res:=some (.bool true),after:=args}=some (.bool (true==true))from w_eq_bool (w_res rfl) w_lit) rfl
theorem attach_call{l:OpenLaw}{n:Nat}{q:Program}{loose:List Str}{XP:(Str→Option Value)→Heap→Prop}{YP:World→Heap→Prop}{d:DefRec}
  (hn:l.most=some n) (hdf:d.params.defaults=[])
  (call:∀(w:World) (s₀ s₁:Shared) (mg mb:Str→Option Value) (fa:Addr) (o:Obj) (pm cd doc:Value) (a:Addr) (vs:List Value) (ns:List Int),
   Ground q loose [] XP w s₀ mg mb s₁.heap→YP w s₁.heap→
   s₁.heap.get? fa=some o→o.data= .func (docDef d.name d.params d.body d.scope pm cd doc)→s₁.heap.CodeRec cd d.name→mg d.name=some (.ref fa)→
   s₁.heap.get? a=some {cls:= .type "list",data:= .seq vs.toArray}→IntsAre vs ns→ns.length≤n→s₁.gens= #[]→
   codeAny (model l.prog w) callerA (.call (.ref fa) ⟨[.ref a],[]⟩) (fun r s'=>r= .ok (.ret (.bool true))∧OldK s₁.heap s'.heap∧s'.os=s₁.os∧AllBare s'.gens) s₁):
  WalkO q loose XP YP l.row.toRowW d [] (fun f vs=>PySem.call f vs):=by
 intro w s₀ s₁ mg mb G Y fa o pm cd doc dV kV ho hd hcd hD hmg hg args vals as hpre hlay hrd hwl hlo
 obtain rfl:dV= .none:=Dflts.none hD hdf
 obtain rfl:kV= .none:=Dflts.noKw hD
 obtain⟨a,vs,ns,rfl,rfl,hobj,hints,hlen⟩:=script_of hn hpre hwl
 refine enter_call (codeAny_mono (call w s₀ s₁ mg mb fa o pm cd doc a vs ns G Y ho (fd_plain hd) hcd hmg hobj hints hlen hg) fun r s' hq=> ?_)
 obtain⟨rfl,h2,h3,h4⟩:=hq
 exact⟨.inl ⟨.bool true,.bool true,[],rfl,fun _=>rfl,.bool true,post_true l _,fun _=>⟨List.Pairwise.nil,fun _ hm=>(nomatch hm)⟩⟩,h2,h3,h4⟩
section
variable{prog:Program}{w:World}{A:Around}{E:Value→Shared→Prop}{s:Shared}{K:Frag}
end
end Att
namespace L2
open PySem PySem.Spec PyProof.Rows
theorem vals_ints:∀{vs:List Value} {ns:List Int},IntsAre vs ns→Vals (ns.map V.int) vs
 |_,_,.nil=> .nil
 |_,_,.cons n t h=> .cons ⟨t,rfl⟩ (vals_ints h)
noncomputable def Only(H:Hp):Prop:=∀b,H b=none∨∃o xs,H b=some (.frz o (.lst xs))
theorem law_call{P:Program}{w:World}{K:PySem.W.Frag}{mg mb:Str→Option Value}{CX:CXT}{k:Nat}{fa a:Addr}{fd:FuncData}{x:Str}{sp:Sp}{s₁:Shared}{vs:List Value}{ns:List Int}
  (KX:K.In s₁.heap) (hns:s₁.heap.Ns mainGlobals mg) (hb:s₁.heap.Ns builtinsNs mb) (hbb:∀x:Str,x≠ "__name__" →mb x=bootBuiltins x) (hlim:s₁.heap.NoLimit) (hg:s₁.gens= #[])
  (ha:s₁.heap.get? a=some {cls:= .type "list",data:= .seq vs.toArray}) (hi:IntsAre vs ns) (hl:ns.length≤sizeLine) (hr:Room k callerA)
  (F:∀base:Heap,K.In base→base.Ns mainGlobals mg→FnOk P w K mg base CX k fa fd [x] sp) (hbind:∀(s:Shared) (u:Value),BindsTo s fd ⟨[u],[]⟩ [(x,u)])
  (hsp:∀H:Hp,Only H→SqL K H a (ns.map V.int)→sp [.ref a] H (fun v _=>v= .bl true) fun _ _ _=>False)
  (hCX:∀H e s',CX [] H s₁ (fun _ _ _=>False) e s'→False):
  codeAny (model P w) callerA (.call (.ref fa) ⟨[.ref a],[]⟩) (fun r s'=>r= .ok (.ret (.bool true))∧OldK s₁.heap s'.heap∧s'.os=s₁.os∧AllBare s'.gens) s₁:=by
 have rv:=vals_ints hi
 have lenV:=hi.length
 -- from an abstract heap in which nothing but the script may be tracked
 have core:∀H:Hp,Only H→SqL K H a (ns.map V.int)→HOk P w H s₁.heap→(∀b,H b≠none→b=a)→(H a≠none→K.lookup a=none)→
   codeAny (model P w) callerA (.call (.ref fa) ⟨[.ref a],[]⟩) (fun r s'=>r= .ok (.ret (.bool true))∧OldK s₁.heap s'.heap∧s'.os=s₁.os∧AllBare s'.gens) s₁:=by
  intro H hO hS hok hA hK
  have base_of:∀{b:Addr} {o:Obj},s₁.heap.get? b=some o→H b=none→(hidT s₁.heap H).get? b=some o:=fun e n=>hidT_get e n
  have noA:∀{b:Addr} {o:Obj} {es:Array DictEntry} {ep:Nat},s₁.heap.get? b=some o→o.data= .dict es ep→H b=none:=fun{b o es ep} e d=>by
   cases q:H b with
   |none=>rfl
   |some u=>
    have e':b=a:=hA b (by rw[q];simp)
    subst e'
    rw[ha]at e;cases e
    have d':Data.seq vs.toArray _=Data.dict es ep:=d
    cases d'
  have nsK:∀{b:Addr} {m:Str→Option Value},s₁.heap.Ns b m→(hidT s₁.heap H).Ns b m:=fun{b m} ⟨o,es,ep,e,d,r⟩=>⟨o,es,ep,base_of e (noA e d),d,r⟩
  have hKb:K.In (hidT s₁.heap H):=fun b o e=>base_of (KX b o e) (by
   cases q:H b with
   |none=>rfl
   |some u=>
    have e':b=a:=hA b (by rw[q];simp)
    subst e'
    rw[hK (by rw[q];simp)]at e;cases e)
  have hM:Mod K mg (hidT s₁.heap H):=⟨hKb,nsK hns,⟨mb,nsK hb,hbb⟩,let⟨mc,h1,h2⟩:=hlim;⟨mc,nsK h1,h2⟩⟩
  have e0:Env0 P w K mg (hidT s₁.heap H) callerA [] s₁ H:=⟨rfl,hM,fun b o e=>of_hidT e,Nat.le_of_eq (hidT_size _ _),trivial,fun b hb=>absurd (show b∈([]:List Addr)from hb) (by simp),hok,.of_eq hg⟩
  refine codeAny_mono ((F _ hKb (nsK hns)).run callerA [] s₁ H ⟨[.ref a],[]⟩ [.ref a] [.ref a] _ _ hr e0 (hbind s₁ (.ref a)) (.cons rfl .nil) (hsp H hO hS)) fun r s' h=> ?_
  cases r with
  |error e=>exact(hCX H e s' h).elim
  |ok fl=>
   cases fl with
   |next=>exact False.elim h
   |brk=>exact False.elim h
   |cont=>exact False.elim h
   |ret u=>
    obtain⟨v,H',os,bare,un,hok',r',q⟩:=h
    have q':v= .bl true:=q
    subst q'
    obtain rfl:u=Value.bool true:=r'
    refine⟨rfl,OldK.of_keep fun b o e=> ?_,os,bare⟩
    cases q:H b with
    |none=>exact un.keep b o e q (by intro z;exact absurd (show b∈([]:List Addr)from z) (by simp)) (by simp)
    |some u=>
     rcases hO b with z|⟨ob,xs,z⟩
     ·rw[q]at z;cases z
     ·have z2:=un.frzs b ob _ z
      obtain⟨e1,_⟩:=hok b _ z
      obtain⟨e2,_⟩:=hok' b _ z2
      rw[e]at e1;cases e1
      exact e2
 cases hk:K.lookup a with
 |some o=>
  -- the script is one of the module's own objects
  have e:=KX a o hk
  rw[ha]at e
  cases e
  refine core (fun _=>none) (fun _=> .inl rfl) (.inr ⟨_,vs.toArray,_,hk,rfl,rfl,rfl,by rw[List.size_toArray,lenV];exact hl,by simpa using rv⟩) (fun b u z=>by have z':(none:Option HO)=some u:=z;cases z') (fun b z=>absurd rfl z) fun z=>absurd rfl z
 |none=>
  refine core (fun b=>if b=a then some (.frz {cls:= .type "list",data:= .seq vs.toArray} (.lst (ns.map V.int)))else none) (fun b=> ?_) (.inl (.inr ⟨{cls:= .type "list",data:= .seq vs.toArray},if_pos rfl⟩)) (fun b u z=> ?_) (fun b z=> ?_) fun _=>hk
  ·by_cases hb:b=a
   ·exact .inr ⟨_,_,if_pos hb⟩
   ·exact .inl (if_neg hb)
  ·by_cases hb:b=a
   ·have z':=(if_pos hb).symm.trans z
    cases z'
    subst hb
    exact⟨ha,by rw[List.length_map];exact hl,vs,_,rv,ha⟩
   ·have z':=(if_neg hb).symm.trans z
    cases z'
  ·by_cases hb:b=a
   ·exact hb
   ·exact absurd (if_neg hb) z
end L2
namespace L2
open PySem PySem.Spec PyProof.Rows
theorem walk_of{l:PySem.W.OpenLaw}{n k:Nat}{q:Program}{loose:List Str}{XP:(Str→Option Value)→Heap→Prop}{YP:World→Heap→Prop}{d:DefRec}{K:Params→PySem.W.Frag}{CX:World→CXT}{sp:World→Sp}{x:Str}
  (hn:l.most=some n) (hn2:n≤sizeLine) (hdf:d.params.defaults=[]) (hr:Room k callerA)
  (hY:∀(w:World) (h:Heap),YP w h→(K w.params).In h)
  (F:∀(w:World) (mg:Str→Option Value) (fa:Addr) (h:Heap),(K w.params).In h→h.Ns mainGlobals mg→mg d.name=some (.ref fa)→
   ∃fd:FuncData,(∀(s:Shared) (u:Value),BindsTo s fd ⟨[u],[]⟩ [(x,u)])∧
    ∀base:Heap,(K w.params).In base→base.Ns mainGlobals mg→FnOk l.prog w (K w.params) mg base (CX w) k fa fd [x] (sp w))
  (hsp:∀(w:World) (H:Hp) (a:Addr) (ns:List Int),ns.length≤n→Only H→SqL (K w.params) H a (ns.map V.int)→sp w [.ref a] H (fun v _=>v= .bl true) fun _ _ _=>False)
  (hCX:∀(w:World) (H:Hp) (s:Shared) (e:Value) (s':Shared),CX w [] H s (fun _ _ _=>False) e s'→False):
  PySem.W.WalkO q loose XP YP l.row.toRowW d [] (fun f vs=>PySem.call f vs):=by
 refine Att.attach_call hn hdf fun w s₀ s₁ mg mb fa o pm cd doc a vs ns G Y ho hd hcd hmg hobj hints hlen hg=> ?_
 have KX:=hY w _ Y
 obtain⟨fd,hb,hF⟩:=F w mg fa _ KX G.T.g hmg
 exact law_call KX G.T.g G.T.b G.T.builtins G.T.nolimit hg hobj hints (Nat.le_trans hlen hn2) hr hF hb (fun H hO hS=>hsp w H a ns hlen hO hS) fun H e s'=>hCX w H s₁ e s'
end L2
/-THE LAST THEOREM (shape;LID,My.*are yours):
  My.Adr:a structure of the addresses that your layer names (classes,functions);My.Txt K t:a structure (Prop) of the equations over K;
  My.txt_mk:{K} {implicit addresses ..} (e1:nsIn K mainGlobals "law" =some (some (.ref f))) (e2:K.lookup f=some ⟨oc,od,.func (fnOf "law" "law" params body scope dV kV doc pm an cdv ct),sl⟩) (e3:codeIn K cdv "law" =true) .. :∃t,My.Txt K t
set_option maxRecDepth 100000 in
theorem PySem.Challenge.cw_LID_holds : PySem.Challenge.rw_LID.Holds := by
 w_on;o_law;k_head;(case hw=>w_witness2)
 k_fill
 refine L2.walk_of (l:=PySem.Challenge.rw_LID) (n:=63) (k:=40) (x:= "script") (CX:=fun w=> ..) (sp:=fun _=>My.sp_law) rfl (by decide) rfl ⟨rfl,by decide,by decide⟩ (fun w h Y=>PySem.W.kIn_of Y) ?F ?S ?C
 case F=>
  intro w mg fa h KX G hmg
  have T:∃t,My.Txt (L2.KOf KX) t:=by
   dsimp only [L2.KOf]                          -- K must stand as «<heap const> w.params» for k_is
   refine' My.txt_mk ?e1 ?e2 ?e3 ..
   (case e1 => PySem.W.k_is)                    -- in the order: a name -> its address -> its object -> its parts
   (case e2=>PySem.W.k_is)
   ..
  obtain⟨t,T⟩:=T
  have e0:=hmg.symm.trans (PySem.W.mg_of KX G T.law)
  cases e0                                       -- fa is the law's own address
  exact ⟨_, fun s u => .of_eq rfl, fun base kb nb => My.law_fn T kb nb⟩     -- if «.of_eq rfl» comes too early: refine' ⟨_, ?b, fun base kb nb => My.law_fn T kb nb⟩; exact fun s u => .of_eq rfl
 case S=>exact fun w H a ns hl hO hS=> ..
 case C=>exact ..
(the tactic k_is has no namespace:write k_is)-/
namespace L2
open PySem PySem.Spec PyProof.Rows
noncomputable def inClass(s:Stmt)(j:Nat):Stmt:=match s with
 | .ClassDef _ _ _ body _ _ _ _ _ _ _=>body.getD j (.Pass ⟨0,0,0,0⟩)
 |_=> .Pass ⟨0,0,0,0⟩
noncomputable def defArgs(s:Stmt):Arguments:=match s with
 | .FunctionDef _ a _ _ _ _ _ _ _ _=>a
 |_=>{posonlyargs:=[],args:=[],vararg:=none,kwonlyargs:=[],kw_defaults:=[],kwarg:=none,defaults:=[]}
noncomputable def defBody(s:Stmt):List Stmt:=match s with
 | .FunctionDef _ _ b _ _ _ _ _ _ _=>b
 |_=>[]
noncomputable def defScope(s:Stmt):Scope:=match s with
 | .FunctionDef _ _ _ _ _ _ sc _ _ _=>sc
 |_=>{kind:= .function,names:=[],isGenerator:=false,isCoroutine:=false}
noncomputable abbrev CX0:CXT:=fun _ _ _ _ _ _=>False
noncomputable abbrev E0:XK:=fun _ _ _=>False
theorem pass0{X:Cx}:Passes CX0 X E0:=fun _ _ _ _ _ _ _ h=>h.elim
structure Fun(K:PySem.W.Frag)(x qual:Str)(st:Stmt)(f:Addr)(fd:FuncData):Prop where
 ex:∃(oc:Value) (od:Option Addr) (kV doc pm:Value) (an:Option Addr) (cdv ct:Value) (osl:Array (Option Value)),
  fd=PySem.W.fnOf x qual (defArgs st) (defBody st) (defScope st) .none kV doc pm an cdv ct∧K.lookup f=some ⟨oc,od,.func fd,osl⟩∧PySem.W.codeIn K cdv qual=true
 kp:PySem.W.keepIn K (.ref f)=true
section
variable{P:Program}{w:World}{K:PySem.W.Frag}{mg:Str→Option Value}{base:Heap}
theorem Fun.ok{x qual:Str}{st:Stmt}{f:Addr}{fd:FuncData}{N ps:List Str}{k:Nat}{sp:Sp}(F:Fun K x qual st f fd)(S:FnScope N ps (defScope st))(len:∀vs H Q E,sp vs H Q E→vs.length=ps.length)
  (hbody:∀(cdv:Value) (A:Around) (outer:List Env) (s:Shared) (H:Hp) (vs:List V) (Q:VK) (E:XK),Room k (A.deeper (envOfC qual (defScope st) s.heap.objs.size f cdv))→sp vs H Q E→
   ∃t,PSs (cxOf CX0 P w K mg base N qual (defScope st) f cdv A outer s H E).nox (defBody st) t∧t {nx:=fun _ H'=>Q .non H',rt:=Q} (start N vs) H):FnOk P w K mg base CX0 (k+1) f fd ps sp:=by
 obtain⟨oc,od,kV,doc,pm,an,cdv,ct,osl,rfl,lk,hcd⟩:=F.ex
 refine fn_of lk hcd S len fun A outer s H vs Q E hr hsp=> ?_
 obtain⟨t,h,q⟩:=hbody cdv A outer s H vs Q E hr hsp
 exact⟨t,h.nox,q⟩
theorem Fun.binds{x qual:Str}{st:Stmt}{f:Addr}{fd:FuncData}{ps:List Str}(F:Fun K x qual st f fd)
  (h:∀(kV doc pm:Value) (an:Option Addr) (cdv ct:Value) (us:List Value),us.length=ps.length→bindArgs (PySem.W.fnOf x qual (defArgs st) (defBody st) (defScope st) .none kV doc pm an cdv ct) ⟨us,[]⟩=pure (ps.zip us)):Binds K fd ps []:=by
 obtain⟨oc,od,kV,doc,pm,an,cdv,ct,osl,rfl,lk,hcd⟩:=F.ex
 exact .all (h kV doc pm an cdv ct)
theorem fun_mk{x qual:Str}{st:Stmt}{f:Addr}{oc:Value}{od an:Option Addr}{osl:Array (Option Value)}{kV doc pm cdv ct:Value}(l:K.lookup f=some ⟨oc,od,.func (PySem.W.fnOf x qual (defArgs st) (defBody st) (defScope st) .none kV doc pm an cdv ct),osl⟩)
  (c:PySem.W.codeIn K cdv qual=true) (k:PySem.W.keepIn K (.ref f)=true):Fun K x qual st f (PySem.W.fnOf x qual (defArgs st) (defBody st) (defScope st) .none kV doc pm an cdv ct):=⟨⟨oc,od,kV,doc,pm,an,cdv,ct,osl,rfl,l,c⟩,k⟩
end
section
variable{X:Cx}
end
theorem iteF{A B:Prop}(h:B):if false=true then A else B:=by
 rw[if_neg Bool.false_ne_true]
 exact h
theorem iteT{A B:Prop}(h:A):if true=true then A else B:=by
 rw[if_pos rfl]
 exact h
end L2
namespace L2
open PySem PySem.Spec PyProof.Rows
theorem compLoop_own{prog:Program}{w:World}{A:Around}{R:Result→Shared→Prop}{s:Shared}{elt target iter:Expr}{ifs:List Expr}{scope:Scope}{pos:Pos}{it acc:Value}{env:Env}{N:Value→Shared→Prop}
  (hN:N=notedBy (model prog w) A env fun e s'=>R (.error e) s') (J:Nat→Shared→Prop)
  (turn:∀n s,J n s→wpAny (model prog w) A (pyNext it) (fun r s₁=>match r with
   |none=>R (.ok .next) s₁
   |some v=>wpAny (model prog w) A (letOwnedTupleGo target it v) (fun _ s₀=>wpAny (model prog w) A (assign target env v) (fun _ s₂=>
     wpAny (model prog w) A (forIn ifs true fun c r=>if r=true then do let ok ←isTrue c env (eval c env);pure (ForInStep.yield ok)else pure (ForInStep.yield r)) (fun ok s₃=>
      if ok=true then wpAny (model prog w) A (eval elt env) (fun x s₄=>
       wpAny (model prog w) A (call (.builtin "list.append") [acc,x]) (fun _ s₅=>∃m,m<n∧J m s₅) N s₄) N s₃
      else∃m,m<n∧J m s₃) N s₂) N s₀) N s₁) N s)
  (n:Nat) (h:J n s):
  codeAny (model prog w) A (.compLoop (.ListComp elt [⟨target,iter,ifs,0⟩] scope pos) 0 it acc env) R s:=by
 refine codeAny_loop rfl J (fun n s hI=> ?_) n h
 show wpAny _ A ((compTurn (.ListComp elt [⟨target,iter,ifs,0⟩] scope pos) 0 it acc env).onRaise (fun x=>do noteFrame x env;theTreesLotGoes x)) _ _ s
 refine wpAny_noted ?_
 rw[compTurn_list]
 subst hN
 refine wpAny_bind (wpAny_standAt (wpAny_bind (wpAny_mono (turn n s hI) (fun r s₁ h₁=> ?_) fun _ _ h'=>h')))
 cases r with
 |none=>exact wpAny_pure h₁
 |some v=>
  refine wpAny_bind (wpAny_mono h₁ (fun _ s₀ h₀=> ?_) fun _ _ h'=>h')
  refine wpAny_bind (wpAny_mono h₀ (fun _ s₂ h₂=>wpAny_bind (wpAny_mono h₂ (fun ok s₃ h₃=> ?_) fun _ _ h'=>h')) fun _ _ h'=>h')
  cases ok with
  |false=>exact wpAny_pure ⟨rfl,h₃⟩
  |true=>
   exact wpAny_bind (wpAny_bind (wpAny_mono h₃ (fun x s₄ h₄=>wpAny_bind (wpAny_mono h₄ (fun _ s₅ h₅=>wpAny_pure (wpAny_pure ⟨rfl,h₅⟩)) fun _ _ h'=>h')) fun _ _ h'=>h'))
noncomputable def clOf(cells:List (Str×Addr)):List (Str×NameKind)→List (Str×Addr)→List (Str×Addr)
 |[],acc=>acc
 |(n,k)::r,acc=>clOf cells r (if k= .free then(n,(cells.lookup n).getD 0)::acc else acc)
theorem closure_eq{env:Env}:∀(names:List (Str×NameKind)) (acc:List (Str×Addr)),(∀y∈names,y.2= .free→∃c,env.cells.lookup y.1=some c)→
  (forIn names acc (fun(y:Str×NameKind) (cs:List (Str×Addr))=>if(y.2== .free)=true then(do let c ←cellOf env y.1;pure (ForInStep.yield ((y.1,c)::cs)))else pure (ForInStep.yield cs)):Sem (List (Str×Addr)))=pure (clOf env.cells names acc)
 |[],acc,_=>rfl
 |(n,k)::r,acc,h=>by
  rw[List.forIn_cons]
  have hr:∀y∈r,y.2= .free→∃c,env.cells.lookup y.1=some c:=fun y hy=>h y (List.mem_cons_of_mem _ hy)
  by_cases hk:k= .free
  ·subst hk
   obtain⟨c,hc⟩:=h (n,.free) List.mem_cons_self rfl
   have e:cellOf env n=pure c:=by unfold cellOf;rw[hc]
   simp only[beq_self_eq_true,if_true,e,pure_bind]
   rw[closure_eq r _ hr]
   show _=pure (clOf env.cells r _)
   rw[if_pos rfl,hc]
   rfl
  ·have hb:(k==NameKind.free)=false:=by simpa using hk
   simp only[hb,Bool.false_eq_true,if_false,pure_bind]
   rw[closure_eq r _ hr]
   show _=pure (clOf env.cells r _)
   rw[if_neg hk]
theorem closureFor_cl{scope:Scope}{env:Env}(h:∀y∈scope.names,y.2= .free→∃c,env.cells.lookup y.1=some c):closureFor scope env=pure (clOf env.cells scope.names []):=by
 have q:=closure_eq scope.names [] h
 unfold closureFor
 simp only[bind_pure]
 exact q
theorem clOf_acc{cells:List (Str×Addr)}:∀(names:List (Str×NameKind)) (acc:List (Str×Addr)) (y:Str) (c:Addr),(∀z∈names,z.2= .free→∃c,cells.lookup z.1=some c)→(∀c,acc.lookup y=some c→cells.lookup y=some c)→(clOf cells names acc).lookup y=some c→cells.lookup y=some c
 |[],acc,y,c,_,ha,h=>ha c h
 |(n,k)::r,acc,y,c,hn,ha,h=>by
  refine clOf_acc r _ y c (fun z hz=>hn z (List.mem_cons_of_mem _ hz)) (fun c' hc'=> ?_) h
  by_cases hk:k= .free
  ·rw[if_pos hk]at hc'
   obtain⟨c0,e0⟩:=hn (n,k) List.mem_cons_self hk
   rw[List.lookup_cons]at hc'
   cases hx:y==n with
   |true=>
    have hy:y=n:=by simpa using hx
    subst hy
    rw[hx]at hc'
    have e0':cells.lookup y=some c0:=e0
    simp only[e0',Option.getD_some]at hc'
    rw[e0',hc']
   |false=>rw[hx]at hc';exact ha c' hc'
  ·rw[if_neg hk]at hc'
   exact ha c' hc'
theorem clOf_keep{cells:List (Str×Addr)}:∀(names:List (Str×NameKind)) (acc:List (Str×Addr)) (y:Str),(∃c,acc.lookup y=some c)→∃c,(clOf cells names acc).lookup y=some c
 |[],acc,y,h=>h
 |(n,k)::r,acc,y,h=>by
  refine clOf_keep r _ y ?_
  by_cases hk:k= .free
  ·rw[if_pos hk,List.lookup_cons]
   cases hx:y==n with
   |true=>exact⟨_,rfl⟩
   |false=>exact h
  ·rw[if_neg hk];exact h
theorem clOf_has{cells:List (Str×Addr)}:∀(names:List (Str×NameKind)) (acc:List (Str×Addr)) (y:Str),(y,NameKind.free)∈names→∃c,(clOf cells names acc).lookup y=some c
 |[],acc,y,h=>by simp at h
 |(n,k)::r,acc,y,h=>by
  rcases List.mem_cons.mp h with e|e
  ·have e1:n=y:=(Prod.mk.inj e).1.symm
   have e2:k= .free:=(Prod.mk.inj e).2.symm
   subst e1;subst e2
   refine clOf_keep r _ n ?_
   rw[if_pos rfl,List.lookup_cons]
   simp
  ·exact clOf_has r _ y e
structure CompScope(sc:Scope)(N:List Str)(scope:Scope)(M:List Str)(ix:List (Option Nat))(j:Nat)(x:Str):Prop where
 kind:scope.kind= .function
 names:∀y∈scope.names,y.2= .local→scope.names.lookup y.1=some .local
 nocell:∀y∈scope.names,y.2≠ .cell
 nd:M.Nodup
 tgt:M[j]? =some x
 loc:scope.names.lookup x=some .local
 own:ix[j]? =some none
 len:ix.length=M.length
 free:∀y∈scope.names,y.2= .free→sc.names.lookup y.1=some .cell∨sc.names.lookup y.1=some .free
 capt:∀(k:Nat) (y:Str) (i:Nat),M[k]? =some y→ix[k]? =some (some i)→N[i]? =some y∧(sc.names.lookup y=some .cell∨sc.names.lookup y=some .free)∧scope.names.lookup y=some .free
noncomputable def cap(ix:List (Option Nat))(σ:St):St:=ix.map fun o=>match o with
 |some i=>(σ[i]?).getD none
 |none=>none
noncomputable def cxComp(X:Cx)(M:List Str)(scope:Scope)(C:Addr)(s:Shared)(H:Hp)(fp:List Addr):Cx where
 prog:=X.prog
 w:=X.w
 K:=X.K
 mg:=X.mg
 base:=X.base
 A:=X.A
 N:=M
 s₀:=s
 H₀:=H
 env:=compEnvC scope (clOf X.env.cells scope.names []) C X.env
 outer:=X.stack
 stack:=X.stack
 ex:=fp
 fn:=fun _=>false
 calm:=X.calm
 pn:=[]
 xe:=fun _ _=>False
noncomputable def PF(X:Cx)(ifs:List Expr)(t:TT):Prop:=
 ∀(pins:List (Addr×Obj)) (s:Shared) (σ:St) (H:Hp) (Q:Bool→Hp→Prop),Inv X pins σ H s→t σ H Q→
  wpAny (model X.prog X.w) X.A (forIn ifs true fun c r=>if r=true then do let ok ←isTrue c X.env (eval c X.env);pure (ForInStep.yield ok)else pure (ForInStep.yield r)) (TP X pins σ Q) X.xe s
noncomputable def tYes:TT:=fun _ H Q=>Q true H
theorem pf_nil{X:Cx}:PF X [] tYes:=fun _ _ _ H _ I h=>wpAny_tests_nil ⟨H,I,h⟩
theorem pf_one{X:Cx}{c:Expr}{t:TT}(h:PT X c t):PF X [c] t:=fun pins s σ H Q I q=>wpAny_tests_one (h pins s σ H Q I q)
noncomputable def rlb(env:Env)(p:Str×NameKind):Str×NameKind:=if(p.2==NameKind.free&&env.scope.kind== .function&&env.kindOf p.1==some .cell)then(p.1,NameKind.cell)else(p.1,p.2)
theorem relabel_eq(scope:Scope)(env:Env):(relabel scope env).names=scope.names.map (rlb env):=rfl
theorem rlb_fst(env:Env)(p:Str×NameKind):(rlb env p).1=p.1:=by unfold rlb;split<;>rfl
theorem rlb_lookup{env:Env}:∀(names:List (Str×NameKind)) (x:Str),(names.map (rlb env)).lookup x=((names.lookup x).map fun k=>(rlb env (x,k)).2)
 |[],x=>rfl
 |(n,k)::r,x=>by
  have ih:=rlb_lookup (env:=env) r x
  have e1:=rlb_fst env (n,k)
  rw[List.map_cons]
  rw[show rlb env (n,k)=((rlb env (n,k)).1,(rlb env (n,k)).2)from rfl,e1,List.lookup_cons,List.lookup_cons]
  cases hx:x==n with
  |true=>
   have:x=n:=by simpa using hx
   subst this
   rfl
  |false=>exact ih
theorem rlb_free{env:Env}{x:Str}{k:NameKind}(h:(rlb env (x,k)).2= .cell∨(rlb env (x,k)).2= .free)(hk:k≠ .cell):k= .free:=by
 unfold rlb at h
 split at h
 ·rename_i hc
  have:=(Bool.and_eq_true_iff.mp (Bool.and_eq_true_iff.mp hc).1).1
  simpa using this
 ·rcases h with h|h
  ·exact absurd h hk
  ·exact h
theorem rlb_of_free{env:Env}{x:Str}:(rlb env (x,.free)).2= .cell∨(rlb env (x,.free)).2= .free:=by
 unfold rlb
 split
 ·exact .inl rfl
 ·exact .inr rfl
theorem lookup_relabel{env:Env}{names:List (Str×NameKind)}{x:Str}(h:(names.map (rlb env)).lookup x=some .cell∨(names.map (rlb env)).lookup x=some .free)(hc:∀y∈names,y.2≠ .cell):(x,NameKind.free)∈names:=by
 rw[rlb_lookup]at h
 cases q:names.lookup x with
 |none=>rw[q]at h;simp at h
 |some k=>
  rw[q]at h
  have hm:=PySem.mem_of_lookup q
  have hk:k≠ .cell:=hc _ hm
  have e:k= .free:=rlb_free (env:=env) (x:=x) (by rcases h with h|h;exact .inl (Option.some.inj h);exact .inr (Option.some.inj h)) hk
  rw[e]at hm
  exact hm
theorem cap_own{ix:List (Option Nat)}{j:Nat}(h:ix[j]? =some none)(σ:St):(cap ix σ)[j]? =some none:=by
 unfold cap
 rw[List.getElem?_map,h]
 rfl
noncomputable def CompGo(J:It)(ix:List (Option Nat))(j:Nat)(σ:St)(tf:TT)(te:TE)(Q:VK)(H1:Hp)(acc:Addr):Prop:=∃W:Nat→Nat→Hp→Prop,(∃m,W 0 m (upd H1 acc (.lst [])))∧∀i m H',W i m H'→
 (J.stop i H'∧Q (.ref acc) H')∨(J.go i H'∧∀x H2,J.yld i H' x H2→tf ((cap ix σ).set j (some x)) H2 fun b H3=>
  if b=true then te ((cap ix σ).set j (some x)) H3 fun y H4=>∃ys,H4 acc=some (.lst ys)∧ys.length<sizeLine∧∃m',m'<m∧W (i+1) m' (upd H4 acc (.lst (ys++[y])))
  else∃m',m'<m∧W (i+1) m' H3)
noncomputable def tComp(wi:TI)(ix:List (Option Nat))(j:Nat)(tf:TT)(te:TE):TE:=fun σ H Q=>wi σ H fun J H1=>∀acc,H1 acc=none→CompGo J ix j σ tf te Q H1 acc
section
variable{X:Cx}{scope:Scope}{M:List Str}{ix:List (Option Nat)}{j:Nat}{x:Str}
theorem comp_start{pins:List (Addr×Obj)}{σ:St}{H:Hp}{s:Shared}{fp:List Addr}{h1:Heap}(S:CompScope X.env.scope X.N scope M ix j x)(I:Inv X pins σ H s)
  (hf:∀b∈fp,FpOk X pins H b) (hft:∀b∈fp,b<s.heap.objs.size) (old:∀b o,s.heap.get? b=some o→h1.get? b=some o)
  (hD:h1.get? s.heap.objs.size=some {cls:= .type "list",data:= .seq ([]:List Value).toArray 0}) (hns:h1.Ns (s.heap.objs.size+1) fun _=>none):
  Inv (cxComp X M scope (s.heap.objs.size+1) s H fp) [] (cap ix σ) (upd H s.heap.objs.size (.lst [])) {s with heap:=h1}:=by
 have frees:∀y∈scope.names,y.2= .free→∃c,X.env.cells.lookup y.1=some c:=fun y hy e=>I.ok.has y.1 (S.free y hy e)
 have clin:∀y c,(clOf X.env.cells scope.names []).lookup y=some c→X.env.cells.lookup y=some c:=fun y c h=>clOf_acc scope.names [] y c frees (fun c hc=>by simp at hc) h
 have hfr:H s.heap.objs.size=none:=I.hok.fresh (Nat.le_refl _)
 have hclt:∀y c,(clOf X.env.cells scope.names []).lookup y=some c→c<s.heap.objs.size:=fun y c h=>by
  obtain⟨v,q⟩:=I.cell y c (clin y c h)
  exact q.lt
 refine⟨⟨I.ok.mod,S.kind,I.ok.glob,I.ok.blt,Nat.le_succ _,fun y z c e1 e2=>I.ok.inj y z c (clin y c e1) (clin z c e2),fun y hy=> ?_,fun y c e _=>absurd (show false=true from e) (by simp),I.ok.hd,I.ok.frames,.inl rfl,
   fun b hb=>⟨Nat.ne_of_lt (Nat.lt_succ_of_lt (hft b hb)),fun y c e=>(hf b hb).2.2.2.2.1 y c (clin y c e)⟩,I.bs,Nat.le_trans I.ok.bsz I.sz,fun b o e hb=> ?_,fun b hb z=> ?_,I.stack,I.stkFree⟩,
  rfl,I.bare,Un.laid old (Nat.le_refl _) hfr,⟨fun _=>none,hns,fun k y v e1 e2 e3=> ?_⟩,fun y c e=> ?_,?_,fun y c e=> ?_,fun p hp=>absurd (show p∈([]:List (Addr×Obj))from hp) (by simp),?_,?_⟩
 ·exact clOf_has scope.names [] y (lookup_relabel (env:=X.env) hy S.nocell)
 ·rcases(hf b hb).2.2.2.1 with z|z
  ·exact I.ok.noex b o e z
  ·exact absurd (Nat.lt_of_lt_of_le (Heap.lt_size e) (Nat.le_trans I.ok.bsz z)) (Nat.lt_irrefl _)
 ·exact(List.mem_cons.mp (I.stkSub b z)).elim (hf b hb).2.1 (hf b hb).2.2.1
 · -- a captured name
  have hix:∃i,ix[k]? =some (some i)∧σ[i]? =some (some v):=by
   unfold cap at e2
   rw[List.getElem?_map]at e2
   cases q:ix[k]? with
   |none=>rw[q]at e2;cases e2
   |some o=>
    cases o with
    |none=>rw[q]at e2;cases e2
    |some i=>
     rw[q]at e2
     refine⟨i,rfl,?_⟩
     have e2':some ((σ[i]?).getD none)=some (some v):=e2
     have e3':=Option.some.inj e2'
     cases q2:σ[i]? with
     |none=>rw[q2]at e3';cases e3'
     |some z=>rw[q2]at e3';exact congrArg some e3'
  obtain⟨i,hi,hv⟩:=hix
  obtain⟨c1,c2,c3⟩:=S.capt k y i e1 hi
  obtain⟨m,hn,hl⟩:=I.loc
  obtain⟨u,r,l⟩:=hl i y v c1 hv (.inr c2)
  refine⟨u,r,?_⟩
  rcases l with⟨l,_⟩|⟨_,c,hc,hcell⟩
  ·exfalso
   have l':X.env.scope.names.lookup y=some .local:=l
   rcases c2 with c2|c2<;>(rw[l']at c2;cases c2)
  ·have hmem:(y,NameKind.free)∈scope.names:=PySem.mem_of_lookup c3
   obtain⟨c',hc'⟩:=clOf_has (cells:=X.env.cells) scope.names [] y hmem
   have ecc:c'=c:=Option.some.inj ((clin y c' hc').symm.trans hc)
   subst ecc
   have hk:(relabel scope X.env).names.lookup y=some .cell∨(relabel scope X.env).names.lookup y=some .free:=by
    rw[relabel_eq,rlb_lookup,c3]
    rcases rlb_of_free (env:=X.env) (x:=y)with z|z
    ·exact .inl (congrArg some z)
    ·exact .inr (congrArg some z)
   obtain⟨oc,ho,hd⟩:=hcell
   exact .inr ⟨hk,c',hc',oc,old c' oc ho,hd⟩
 ·obtain⟨v,oc,ho,hd⟩:=I.cell y c (clin y c e)
  exact⟨v,oc,old c oc ho,hd⟩
 ·show upd H s.heap.objs.size (.lst []) (s.heap.objs.size+1)=none
  rw[upd_ne (Nat.succ_ne_self _)]
  exact I.hok.fresh (Nat.le_succ _)
 ·show upd H s.heap.objs.size (.lst []) c=none
  rw[upd_ne (Nat.ne_of_lt (hclt y c e))]
  exact I.freeC y c (clin y c e)
 ·exact I.hok.laid old (Nat.le_refl _) ⟨Nat.zero_le _,[],0,.nil,hD⟩
 ·show(cap ix σ).length=M.length
  unfold cap
  rw[List.length_map,S.len]
theorem comp_end{pins:List (Addr×Obj)}{σ σ':St}{H H':Hp}{s s':Shared}{fp:List Addr}{C:Addr}(I:Inv X pins σ H s)(hC:s.heap.objs.size≤C)(hf:∀b∈fp,FpOk X pins H b)
  (I':Inv (cxComp X M scope C s H fp) [] σ' H' s') {h':Heap} (hb:Heap.SameBut C s'.heap h'):Inv X pins σ H' {s' with heap:=h'}:=by
 have ne:∀b o,s.heap.get? b=some o→b≠C:=fun b o e=>Nat.ne_of_lt (Nat.lt_of_lt_of_le (Heap.lt_size e) hC)
 have k:∀b o,b≠C→s'.heap.get? b=some o→h'.get? b=some o:=fun b o hn e=>hb.extBut b o hn e
 have u:Un (frs X.stack) fp H H' s.heap s'.heap:=I'.base
 have hHC:H' C=none:=I'.free
 have u2:Un (frs X.stack) fp H H' s.heap h':=by
  refine⟨fun b o e n h1 h2=>k b o (ne b o e) (u.keep b o e n h1 h2),fun b o e n h1 h2=> ?_,fun b o e n h1=>u.free b o e n h1,fun b o e h1=> ?_,u.tups,u.frzs,u.tbls⟩
  ·obtain⟨sl,q⟩:=u.slot b o e n h1 h2
   exact⟨sl,k b _ (ne b o e) q⟩
  ·obtain⟨o',q⟩:=u.there b o e h1
   exact⟨o',k b o' (ne b o e) q⟩
 have hok:HOk X.prog X.w H' h':=fun b o e=>(I'.hok b o e).stay (fun c v hc q=>k c v (fun z=>by
  subst z
  rcases hc with z|z
  ·rw[←z,hHC]at e;cases e
  ·rw[hHC]at z;cases z) q) (fun _ q=>q) fun _ _ q=>q
 exact I.call' (s':={s' with heap:=h'}) I'.os u2 hok I'.bare fun b hb=>⟨(hf b hb).2.2.2.1,(hf b hb).2.1,(hf b hb).2.2.2.2.1,(hf b hb).2.2.2.2.2⟩
theorem set_weak{c:St}{j:Nat}{v:V}(h:c[j]? =some none):∀(i:Nat) (z:V),c[i]? =some (some z)→(c.set j (some v))[i]? =some (some z):=fun i z e=>by
 by_cases hij:j=i
 ·subst hij;rw[h]at e;cases e
 ·rw[List.getElem?_set_ne hij];exact e
theorem comp_block{elt iter:Expr}{px:Pos}{ifs:List Expr}{pos:Pos}{tf:TT}{te:TE}{pins:List (Addr×Obj)}{σ:St}{H:Hp}{s:Shared}{fp:List Addr}{it:Addr}{tn:Nat→Heap→Prop}{J:It}{h1:Heap}{tk:Nat}{Q:VK}{R:Result→Shared→Prop}
  (S:CompScope X.env.scope X.N scope M ix j x) (hc:X.calm=true) (I:Inv X pins σ H s)
  (hF:PF (cxComp X M scope (s.heap.objs.size+1) s H fp) ifs tf) (hE:PE (cxComp X M scope (s.heap.objs.size+1) s H fp) elt te)
  (T:Turn X.prog X.w X.K (.Name x px) J fp it tn) (st:tn 0 s.heap) (hf:∀b∈fp,FpOk X pins H b)
  (I0:Inv (cxComp X M scope (s.heap.objs.size+1) s H fp) [] (cap ix σ) (upd H s.heap.objs.size (.lst [])) {s with heap:=h1,toks:=tk}) (old:∀b o,s.heap.get? b=some o→h1.get? b=some o)
  (q:CompGo J ix j σ tf te Q H s.heap.objs.size)
  (hR:∀H' s',Inv (cxComp X M scope (s.heap.objs.size+1) s H fp) [] (cap ix σ) H' s'→Q (.ref s.heap.objs.size) H'→R (.ok .next) s'):
  codeAny (model X.prog X.w) X.A (.compLoop (.ListComp elt [⟨.Name x px,iter,ifs,0⟩] scope pos) 0 (.ref it) (.ref s.heap.objs.size) (compEnvC scope (clOf X.env.cells scope.names []) (s.heap.objs.size+1) X.env)) R {s with heap:=h1,toks:=tk}:=by
 obtain⟨W,⟨m0,w0⟩,turn⟩:=q
 have hD:s.heap.objs.size∉fp:=fun z=>by
  obtain⟨o,e,_⟩:=T.obj 0 s.heap st _ z
  exact absurd (Heap.lt_size e) (Nat.lt_irrefl _)
 have hlt:∀b∈fp,b<s.heap.objs.size:=fun b hb=>by
  obtain⟨o,e,_⟩:=T.obj 0 s.heap st b hb
  exact Heap.lt_size e
 have stat:∀{H':Hp},(∀b∈fp,H' b=none)→∀b∈fp,FpOk (cxComp X M scope (s.heap.objs.size+1) s H fp) [] H' b:=fun hn b hb=>
  ⟨hn b hb,Nat.ne_of_lt (Nat.lt_succ_of_lt (hlt b hb)),I0.ok.exfs b hb,.inl hb,(I0.ok.exf b hb).2,fun p hp=>absurd (show p∈([]:List (Addr×Obj))from hp) (by simp)⟩
 have own:=cap_own S.own σ
 refine compLoop_own rfl (fun n s'=>∃i H',Inv (cxComp X M scope (s.heap.objs.size+1) s H fp) [] (cap ix σ) H' s'∧tn i s'.heap∧(∀b∈fp,H' b=none)∧W i n H') ?_ m0
  ⟨0,_,I0,T.keep 0 _ _ st fun b _ o e=>old b o e,fun b hb=>by rw[upd_ne (Nat.ne_of_lt (hlt b hb))];exact(hf b hb).1,w0⟩
 rintro n s3 ⟨i,H3,I3,st3,fr3,w3⟩
 rcases turn i n H3 w3 with⟨stop,qn⟩|⟨go,step⟩
 ·refine wpAny_mono (T.done (cxComp X M scope (s.heap.objs.size+1) s H fp) rfl rfl rfl hc i [] s3 (cap ix σ) H3 (fun _ _=>False) I3 (stat fr3) st3 stop) (fun r s4 hPl=> ?_) (fun _ _ z=>z.elim)
  obtain⟨hr,I4⟩:=hPl
  subst hr
  exact hR H3 s4 I4 qn
 ·refine wpAny_mono (T.item (cxComp X M scope (s.heap.objs.size+1) s H fp) rfl rfl rfl hc i [] s3 (cap ix σ) H3 (fun _ _=>False) I3 (stat fr3) st3 go) (fun r s4 hPl=> ?_) (fun _ _ z=>z.elim)
  obtain⟨u,hr,h4⟩:=hPl
  subst hr
  refine wpAny_mono h4 (fun _ s5 hPl=> ?_) (fun _ _ z=>z.elim)
  obtain⟨y,H5,I5,r5,y5,st5,fr5⟩:=hPl
  have I5':=I5.pinned (stat fr5) (T.obj _ _ st5)
  have pg:PG (cxComp X M scope (s.heap.objs.size+1) s H fp) (.Name x px) (gName j):=
   pg_name S.nd S.tgt (.inl (by show(relabel scope X.env).names.lookup x=some .local;exact lookup_relabel_local S.loc)) (.inr (by show(relabel scope X.env).names.lookup x=some .local;exact lookup_relabel_local S.loc))
  refine wpAny_mono (pg _ s5 (cap ix σ) H5 y u (fun σ2 H2=>σ2=(cap ix σ).set j (some y)∧H2=H5) I5' r5 ⟨rfl,rfl⟩) (fun _ s6 hPl=> ?_) (fun _ _ z=>z.elim)
  obtain⟨σ6,H6,I6,e6,eh6⟩:=hPl
  subst e6;subst eh6
  have again:∀{H7:Hp} {s7:Shared},Inv (cxComp X M scope (s.heap.objs.size+1) s H fp) ([]++pinsAt fp s5.heap) ((cap ix σ).set j (some y)) H7 s7→(∃m',m'<n∧W (i+1) m' H7)→
    ∃m,m<n∧∃i H',Inv (cxComp X M scope (s.heap.objs.size+1) s H fp) [] (cap ix σ) H' s7∧tn i s7.heap∧(∀b∈fp,H' b=none)∧W i m H':=fun{H7 s7} I7 ⟨m',hm,w7⟩=>by
   have Iw:Inv (cxComp X M scope (s.heap.objs.size+1) s H fp) [] (cap ix σ) H7 s7:=(Inv.unpinned (pins:=[]) I7).weak (by simp) (set_weak own)
   refine⟨m',hm,i+1,H7,Iw,T.keep _ _ _ st5 fun b hb o e=>(I7.pin (b,o) (List.mem_append_right _ (List.mem_append_right _ (mem_pinsAt hb e)))).1,fun b hb=> ?_,w7⟩
   obtain⟨o,e,d⟩:=T.obj _ _ st5 b hb
   exact(I7.pin (b,o) (List.mem_append_right _ (List.mem_append_right _ (mem_pinsAt hb e)))).2.1
  refine wpAny_mono (hF _ s6 _ _ _ I6 (step y _ y5)) (fun b s7 hPl=> ?_) (fun _ _ z=>z.elim)
  obtain⟨H7,I7,q7⟩:=hPl
  cases b with
  |false=>
   simp only[Bool.false_eq_true,if_false]at q7⊢
   exact again I7 q7
  |true=>
   simp only[if_true]at q7⊢
   refine wpAny_mono (hE _ s7 _ H7 _ I7 q7) (fun v s8 hPl=> ?_) (fun _ _ z=>z.elim)
   obtain⟨z,H8,I8,r8,ys,hy,hz,q8⟩:=hPl
   refine wpAny_mono (mt_append (X:=cxComp X M scope (s.heap.objs.size+1) s H fp) _ s8 _ H8 (.ref s.heap.objs.size) [z] (.ref s.heap.objs.size) [v] (fun _ H'=>H'=upd H8 s.heap.objs.size (.lst (ys++[z]))) I8 rfl (.cons r8 .nil) ⟨s.heap.objs.size,ys,z,rfl,rfl,hy,hz,rfl⟩) (fun w s9 hPl=> ?_) (fun _ _ z=>z.elim)
   obtain⟨_,H9,I9,_,e9⟩:=hPl
   subst e9
   exact again I9 q8
theorem pe_comp{elt iter:Expr}{px:Pos}{ifs:List Expr}{pos:Pos}{wi:TI}{tf:TT}{te:TE}(S:CompScope X.env.scope X.N scope M ix j x)(hc:X.calm=true)(hi:PI X (.Name x px) iter wi)
  (hb:∀C s H fp,PF (cxComp X M scope C s H fp) ifs tf∧PE (cxComp X M scope C s H fp) elt te) (hs:∀x,foldedSetIterable iter X.env x=pure x:=by intro _;rfl):
  PE X (.ListComp elt [⟨.Name x px,iter,ifs,0⟩] scope pos) (tComp wi ix j tf te):=by
 intro pins s σ H Q I h
 rw[eval_ListComp]
 refine wpAny_comprehension_free (use:=none) rfl hs (closureFor_cl fun y hy e=>I.ok.has y.1 (S.free y hy e)) S.kind S.names (wpAny_mono (hi pins s σ H _ I h) (fun xv s₁ h₁=>wpAny_mono h₁ (fun it s₂ h₂=> ?_) fun _ _ e=>e) fun _ _ e=>e)
 obtain⟨it,fp,tn,J,H2,rfl,I2,T,st2,f2,q⟩:=h₂
 refine wpAny_newObj_type (wpAny_newFunctionEnv S.nocell (by intro y hy;simp at hy) (fun h₁ hns₁ hsb₁=> ?_) S.kind)
 dsimp only at hns₁ hsb₁⊢
 have hC:(s₂.heap.push {cls:= .type "list",dict:=none,data:= .seq ([]:List Value).toArray}).objs.size=s₂.heap.objs.size+1:=Heap.size_push ..
 rw[hC]at hns₁ hsb₁⊢
 have below:∀b,b<s₂.heap.objs.size→b≠s₂.heap.objs.size+1:=fun b hb=>Nat.ne_of_lt (Nat.lt_succ_of_lt hb)
 have old:∀b o,s₂.heap.get? b=some o→h₁.get? b=some o:=fun b o e=>hsb₁.extBut b o (below b (Heap.lt_size e)) (Heap.get?_push_of_some _ (Heap.get?_push_of_some _ e))
 have hD:h₁.get? s₂.heap.objs.size=some {cls:= .type "list",data:= .seq ([]:List Value).toArray 0}:=hsb₁.extBut _ _ (Nat.ne_of_lt (Nat.lt_succ_self _)) (Heap.get?_push_of_some _ (Heap.get?_push_size _ rfl))
 have ns:h₁.Ns (s₂.heap.objs.size+1) fun _=>none:=hns₁
 have hft:∀b∈fp,b<s₂.heap.objs.size:=fun b hb=>by
  obtain⟨o,e,_⟩:=T.obj 0 s₂.heap st2 b hb
  exact Heap.lt_size e
 have I0:=(comp_start (h1:=h₁) S I2 f2 hft old hD ns).tok s₂.toks
 have hfr:H2 s₂.heap.objs.size=none:=I2.hok.fresh (Nat.le_refl _)
 have loop:codeAny (model X.prog X.w) X.A (.compLoop (.ListComp elt [⟨.Name x px,iter,ifs,0⟩] scope pos) 0 (.ref it) (.ref s₂.heap.objs.size) (compEnvC scope (clOf X.env.cells scope.names []) (s₂.heap.objs.size+1) X.env))
   (compPost (model X.prog X.w) X.A X.xe none (EP X pins σ Q) (.ref s₂.heap.objs.size) (s₂.heap.objs.size+1)) {s₂ with heap:=h₁,toks:=s₂.toks}:=by
  refine comp_block (Q:=Q) S hc I2 (hb _ _ _ _).1 (hb _ _ _ _).2 T st2 f2 I0 old (q _ hfr) fun H' s' I' qq=> ?_
  obtain⟨m,hn,_⟩:=I'.loc
  exact⟨m,hn,fun h' hb'=>⟨.ref s₂.heap.objs.size,H',comp_end I2 (Nat.le_succ _) f2 I' hb',rfl,qq⟩⟩
 exact codeAny_compStart_list loop (T.self _ 0 _ _ _ (T.keep 0 _ _ st2 fun b _ o e=>old b o e) loop)
end
end L2
namespace L2
open PySem PySem.Spec PyProof.Rows
section
variable{X:Cx}
noncomputable def Its(z:Str):It:=⟨fun i _=>i<z.cps.size,fun i H x H'=>H'=H∧∃c,z.cps[i]? =some c∧x= .str ⟨#[c]⟩,fun i _=>z.cps.size≤i⟩
theorem turn_str{P:Program}{w:World}{K:PySem.W.Frag}{x:Str}{px:Pos}(it:Addr)(z:Str)(t:Tok)(ty:String)(hty:ty= "str_ascii_iterator" ∨ty= "str_iterator"):
  Turn P w K (.Name x px) (Its z) [it] it (fun i h=>h.IsStrIter it ty z t i∧i≤z.cps.size) where
 mem:=by simp
 obj:=fun i h st b hb=>by
  have e:b=it:=by simpa using hb
  subst e
  obtain⟨⟨o,e,c,d⟩,_⟩:=st
  exact⟨o,e,fun v z=>by rw[d]at z;cases z⟩
 keep:=fun i h h' st k=>by
  obtain⟨⟨o,e,c,d⟩,z⟩:=st
  exact⟨⟨o,k it (by simp) o e,c,d⟩,z⟩
 item:=by
  intro X hP hw hK hc i pins s σ H E I hf st hg
  subst hP hw hK
  obtain⟨f0,f1,f2,f3,f4,f5⟩:=hf it (by simp)
  have hi:i<z.cps.size:=hg
  have fin:∀h':Heap,h'.IsStrIter it ty z t (i+1)→Heap.SameBut it s.heap h'→∃u,some (Value.str ⟨#[z.cps[i]]⟩ s.toks)=some u∧
    wpAny (model X.prog X.w) X.A (letOwnedTupleGo (.Name x px) (.ref it) u) (fun _ s2=>∃x H',Inv X pins σ H' s2∧RelV x u∧(Its z).yld i H x H'∧(s2.heap.IsStrIter it ty z t (i+1)∧i+1≤z.cps.size)∧∀b∈[it],H' b=none) E {s with heap:=h',toks:=s.toks+1}:=fun h' st' sb=>by
   have I1:Inv X pins σ H {s with heap:=h',toks:=s.toks+1}:=I.turned (fun b o hb e=>sb.extBut b o hb e) f0 f1 f3 f4 f5
   exact⟨_,rfl,wpAny_pure ⟨.str ⟨#[z.cps[i]]⟩,H,I1,⟨_,rfl⟩,⟨rfl,_,by simp[hi],rfl⟩,⟨st',hi⟩,fun b hb=>(hf b hb).1⟩⟩
  rcases hty with rfl|rfl
  ·exact wpAny_pyNext_ascii_item st.1 (c:=z.cps[i]) (by simp[hi]) fin
  ·exact wpAny_pyNext_wide_item st.1 (c:=z.cps[i]) (by simp[hi]) fin
 done:=by
  intro X hP hw hK hc i pins s σ H E I hf st hg
  subst hP hw hK
  obtain⟨f0,f1,f2,f3,f4,f5⟩:=hf it (by simp)
  have hi:z.cps.size≤i:=hg
  rcases hty with rfl|rfl
  ·exact wpAny_pyNext_ascii_end (I.ok.hd hc) st.1 (by simpa using hi) fun h' eb=>⟨rfl,I.turned (t':=s.toks) (fun b o hb e=>eb b o hb e) f0 f1 f3 f4 f5⟩
  ·exact wpAny_pyNext_wide_end (I.ok.hd hc) st.1 (by simpa using hi) fun h' eb=>⟨rfl,I.turned (t':=s.toks) (fun b o hb e=>eb b o hb e) f0 f1 f3 f4 f5⟩
 self:=fun _ _ _ _ _ st h=>by
  rcases hty with rfl|rfl
  ·exact wpAny_pyIter_striter_ascii st.1 h
  ·exact wpAny_pyIter_striter_wide st.1 h
noncomputable def rSlS:V→Option Int→Option Int→Hp→VK→Prop:=fun x lo hi H Q=>∃z,x= .str z∧z.length≤sizeLine∧Q (.str (Txt.slice z lo hi)) H
theorem sl_str:SlR X rSlS:=by
 intro pins s σ H x v vl vu lo hi sl Q I rx hs pl pu h
 obtain⟨z,rfl,hz,q⟩:=h
 obtain⟨t,rfl⟩:=rx
 obtain⟨l,el1,el2⟩:∃l:Option (Int×Tok),vl=partValue l∧l.map (·.1)=lo:=by
  cases pl with
  |none=>exact⟨none,rfl,rfl⟩
  |int i u=>exact⟨some (i,u),rfl,rfl⟩
 obtain⟨u,eu1,eu2⟩:∃u:Option (Int×Tok),vu=partValue u∧u.map (·.1)=hi:=by
  cases pu with
  |none=>exact⟨none,rfl,rfl⟩
  |int i u=>exact⟨some (i,u),rfl,rfl⟩
 subst el1 eu1 el2 eu2
 refine⟨"str",_,F.slot_str_getitem.lookup,typeIs_str _ _ _,?_⟩
 refine wpAny_getItem_str_slice (l:=l) (u:=u) (st:=none) hs rfl ?_
 exact post_val_or_str ⟨Nat.le_trans (Txt.slice_le z _ _) hz,fun t' k=>⟨.str (Txt.slice z (l.map (·.1)) (u.map (·.1))),H,I.tok k,⟨_,rfl⟩,q⟩⟩
theorem strsAre_of:∀{ys:List Str} {us:List Value},Vals (ys.map V.str) us→StrsAre us ys
 |[],us,h=>by
  cases us with
  |nil=>exact .nil
  |cons _ _=>cases h
 |y::ys,us,h=>by
  cases us with
  |nil=>cases h
  |cons u us=>
   cases h with
   |cons r t=>
    obtain⟨k,rfl⟩:=(show∃k,u=Value.str y k from r)
    exact .cons y k (strsAre_of t)
noncomputable def rJoin(K:PySem.W.Frag):V→List V→Hp→VK→Prop:=fun x vs H Q=>∃z p ys,x= .str z∧vs=[.ref p]∧SqL K H p (ys.map V.str)∧(ys.map (·.length)).sum+ys.length*z.length≤16777216∧Q (.str (Txt.join z ys)) H
theorem mt_join:MtR X "str.join" (rJoin X.K):=by
 intro pins s σ H x xs v us Q I rx rs h
 obtain⟨z,p,ys,rfl,rfl,hq,hz,q⟩:=h
 obtain⟨t,rfl⟩:=rx
 obtain⟨u,rfl,ru⟩:=rs.one
 cases ru
 obtain⟨its,r,pl,_⟩:=I.list hq
 exact join_list pl.isList (by simpa using strsAre_of r) hz fun t' k=>⟨.str (Txt.join z ys),H,I.tok k,⟨_,rfl⟩,q⟩
noncomputable def rCatS(K:PySem.W.Frag):R2:=fun x y H Q=>∃l b xs zs,x= .ref l∧y= .ref b∧SqL K H l xs∧SqL K H b zs∧xs.length+zs.length≤sizeLine∧∀p,H p=none→Q (.ref p) (upd H p (.lst (xs++zs)))
theorem op_catS:OpR X (binaryOp .Add) (rCatS X.K):=by
 intro pins s σ H x y v u Q I rx ry h
 obtain⟨l,b,xs,zs,rfl,rfl,hH,hB,hz,q⟩:=h
 cases rx
 cases ry
 obtain⟨its,r,pl,_⟩:=I.list hH
 obtain⟨its2,r2,pl2,_⟩:=I.list hB
 have l1:=r.length
 have l2:=r2.length
 obtain⟨⟨cls,dd,data,sl⟩,n,ho,hc,hd0,hd⟩:=pl
 obtain⟨⟨cls2,dd2,data2,sl2⟩,n2,ho2,hc2,hd02,hd2⟩:=pl2
 simp only at hc hd hc2 hd2
 subst hc hd hc2 hd2
 refine concat_meets ⟨_,ho,rfl⟩ ⟨_,ho2,rfl⟩ noFill_list_add seq_list_add PySem.F.slot_list_add PySem.F.entry_list_add (PySem.F.args_list_add_2 _ _)
  (list_addW l b its.toArray its2.toArray n n2 dd dd2 sl sl2 (by rw[List.size_toArray,List.size_toArray];(first|lia|omega))) ⟨ho,ho2,?_⟩
 have ea:its.toArray++its2.toArray=(its++its2).toArray:=by simp
 rw[ea]
 exact⟨.ref _,_,I.lnew (t':=s.toks) (r.append r2) (by rw[List.length_append];(first|lia|omega)),rfl,q _ I.fresh⟩
theorem op_le_str:OpR X (compareOp .LtE) (fun x y H Q=>∃i j,x= .str i∧y= .str j∧Q (.bl (!(decide (j.cps.toList<i.cps.toList)))) H):=by
 intro pins s σ H x y v u Q I rx ry h
 obtain⟨i,j,rfl,rfl,q⟩:=h
 obtain⟨t,rfl⟩:=rx
 obtain⟨t',rfl⟩:=ry
 exact P.le_str (fin_bl I q rfl)
noncomputable def CDivB(i j:Int):Prop:=0<j∧j≤10^30
theorem op_fdivB:OpR X (binaryOp .FloorDiv) (rI CDivB fun i j=> .int (i/j)):=opI fun i j _ _ _ _ _ hc q=>by
 have h0:j≠0:=by have:=hc.1;(first|lia|omega)
 refine floordiv_int h0 ?_ (.inl (PyProof.noPylong_of_log2 ?_))
 ·rw[Int.fdiv_eq_ediv_of_nonneg _ (Int.le_of_lt hc.1)];exact q
 ·have h1:j.natAbs≠0:=by(first|lia|omega)
  have h2:j.natAbs<2^100:=by
   have h3:=hc.2
   have h4:=hc.1
   have e:(10:Int)^30<2^100:=by decide
   have h5:((j.natAbs:Nat):Int)=j:=by(first|lia|omega)
   (first|lia|omega)
  have:=(Nat.log2_lt h1).mpr h2
  (first|lia|omega)
end
end L2
namespace L2
open PySem PySem.Spec PyProof.Rows
section
variable{P:Program}{w:World}{H:Hp}{h h':Heap}{a:Addr}{o:HO}
theorem ObjOk.stands(x:ObjOk P w H h a o):∃u,h.get? a=some u:=by
 cases o with
 |lst xs=>obtain⟨_,_,_,_,e⟩:=x;exact⟨_,e⟩
 |tup xs=>obtain⟨_,_,_,p⟩:=x;obtain⟨u,e,_⟩:=p;exact⟨u,e⟩
 |dK kvs=>obtain⟨_,_,_,_,u,_,_,e,_⟩:=x;exact⟨u,e⟩
 |dT kvs=>obtain⟨_,_,_,_,u,_,_,e,_⟩:=x;exact⟨u,e⟩
 |set S n=>obtain⟨u,_,_,_,e,_⟩:=x;exact⟨u,e⟩
 |ins C dx fs=>obtain⟨_,_,_,e,_⟩:=x;exact⟨_,e⟩
 |own y=>exact x
 |xd fs=>obtain⟨_,⟨u,_,_,e,_⟩,_⟩:=x;exact⟨u,e⟩
 |rng lo hi=>obtain⟨_,_,_,e⟩:=x;exact⟨_,e⟩
 |frz ob u=>obtain⟨e,_⟩:=x;exact⟨ob,e⟩
 |tbl ps=>exact⟨_,x⟩
 |met f y=>exact⟨_,x⟩
 |ext φ=>exact x.2.1
theorem HOk.none_of(x:HOk P w H h)(e:h.get? a=none):H a=none:=by
 cases q:H a with
 |none=>rfl
 |some u=>
  obtain⟨o,z⟩:=(x a u q).stands
  rw[e]at z;cases z
theorem HOk.laidN(x:HOk P w H h)(k:∀b u,h.get? b=some u→h'.get? b=some u)(hn:H a=none)(new:ObjOk P w (upd H a o) h' a o):HOk P w (upd H a o) h':=fun b u e=>by
 by_cases hb:b=a
 ·subst hb;rw[upd_same]at e;cases e;exact new
 ·rw[upd_ne hb]at e
  exact(x b u e).stay (fun c v _ q=>k c v q) (fun c q=>by rw[upd_ne (ne_of_none q hn)];exact q) fun c xs q=>by rw[upd_ne (ne_of_none q hn)];exact q
theorem Un.laidN{fs ex:List Addr}(k:∀b u,h.get? b=some u→h'.get? b=some u)(hp:h.get? a=none)(hn:H a=none):Un fs ex H (upd H a o) h h' where
 keep:=fun b u q _ _ _=>k b u q
 slot:=fun b u q _ _ _=>⟨u.slots,k b u q⟩
 free:=fun b u q n _=>by rw[upd_ne (fun z=>by subst z;rw[hp]at q;cases q)];exact n
 there:=fun b u q _=>⟨u,k b u q⟩
 tups:=fun b xs q=>by rw[upd_ne (ne_of_none q hn)];exact q
 frzs:=fun b u xs q=>by rw[upd_ne (ne_of_none q hn)];exact q
 tbls:=fun b ps q=>⟨#[],by rw[upd_ne (ne_of_none q hn),q];simp⟩
end
section
variable{X:Cx}
noncomputable def XAt(e C:Addr)(h:Heap):Prop:=∃ob,h.get? e=some ob∧ob.cls= .ref C
noncomputable def excO(e C:Addr):HO:= .ext (XAt e C)
theorem XAt.stay{e C:Addr}:∀h1 h2:Heap,XAt e C h1→(∀o,h1.get? e=some o→h2.get? e=some o)→XAt e C h2:=fun _ _ ⟨ob,h1,h2⟩ k=>⟨ob,k ob h1,h2⟩
noncomputable abbrev bmV:List Value:=[.type "ValueError",.type "Exception",.type "BaseException",.type "object"]
theorem exc_parts{K:PySem.W.Frag}{h:Heap}{C:Addr}{bmB:List Value}{newId:String}(XK:K.In h)(q:PySem.W.excIn K C bmB newId=true):
  ∃bm ns nm qn bs hd sn sub ab col dd k0 k1 k2 k3 k5,∃mN:Str→Option Value,h.get? C=some (excClassObj nm qn C ns bs bm hd sn sub ab col dd k0 k1 k2 k3 k5 newId)∧h.Ns ns mN∧mN "__init__" =none∧OwnTail h bmB bm:=by
 unfold PySem.W.excIn at q
 split at q
 ·rename_i dd cd sl ho
  split at q
  ·rename_i C' bm k0 k1 k2 k3 n k5 hm hs
   simp only[Bool.and_eq_true,beq_iff_eq,Bool.not_eq_true']at q
   obtain⟨⟨⟨⟨⟨e1,e2⟩,hdel⟩,ht⟩,hok⟩,hni⟩:=q
   subst e1 e2
   obtain⟨nm,bs,mro,ns,qn,hd,sn,sub,ab,col,del⟩:=cd
   dsimp only at hm hdel hok hni
   subst hm hdel
   have hsl:sl= #[k0,k1,k2,k3,some (.builtin n),k5]:=by
    obtain⟨l⟩:=sl
    have hs':l=[k0,k1,k2,k3,some (.builtin n),k5]:=hs
    rw[hs']
   subst hsl
   exact⟨bm,ns,nm,qn,bs,hd,sn,sub,ab,col,dd,k0,k1,k2,k3,k5,_,XK _ _ ho,.of_isNs (PySem.W.isNs_of_in XK hok),PySem.W.nsMap_none_of_in XK hok hni,PySem.W.tail_of_in XK ht⟩
  ·cases q
 ·cases q
theorem xat_type{M:Model}{e C:Addr}{h:Heap}(p:XAt e C h):PySem.W.Looks M h (typeOf (.ref e)) (.ref C):=by
 obtain⟨ob,h1,h2⟩:=p
 exact h2▸(PySem.W.Looks.ld h1).andThen .now
open Builtin Builtin.ObjectAttr Builtin.Getset_descriptor in
theorem cls_get{K:PySem.W.Frag}{prog:Program}{w:World}{A:Around}{R:Result→Shared→Prop}{s:Shared}{e C:Addr}{tp:Value}(XK:K.In s.heap)(p:XAt e C s.heap)(hm:PySem.W.mroIn K C (.type "object")=some true)
  (z:R (.ok (.ret (.ref C))) s):codeAny (model prog w) A (.call (.builtin "getset_descriptor.__get__") ⟨[.builtin "object.__class__",.ref e,tp],[]⟩) R s:=by
 obtain⟨h0,g0,d0,t0,o0⟩:=s
 have T0:=xat_type (M:=model prog w) p
 have T1:=PySem.W.looks_mroIn (M:=model prog w) XK hm
 refine codeAny_call_builtin PySem.W.KF.slot_gs.plain PySem.W.KF.entry_gs (PySem.W.KF.slot_gs.check _ _ _ _ _ _ _ _ PySem.W.KF.type_class (PySem.W.KF.args_gs _ _ _) ?_)
 unfold Builtin.«getset_descriptor.__get__»
 unfold descrGet
 rw[PySem.W.dga_obj]
 refine wpAny_bind (wpAny_pure ?_)
 unfold descrGetter;unfold descrCheckInstance
 unfold descrNameAndClass;unfold isInstance
 simp only[PySem.W.KF.owner_class]
 repeat lk
 refine⟨Code.quiet_builtin _ (by decide+kernel),codeAny_builtin PySem.W.KF.entry_class ?_⟩
 unfold Builtin.«object.__class__»;unfold shownTypeOf
 repeat lk
 exact z
theorem exc_class{K:PySem.W.Frag}{prog:Program}{w:World}{A:Around}{E:Value→Shared→Prop}{Q:Option Value→Shared→Prop}{s:Shared}{e C:Addr}
  (pg:PySem.W.findIn K (.ref C) "__getattribute__" =some (some (.builtin "BaseException.__getattribute__"))) (pt:PySem.W.findIn K (.ref C) "__getattr__" =some none)
  (hf:∀M:Model,PySem.W.Looks M s.heap (Builtin.ObjectAttr.find (.ref e) (.ref C) "__class__") (.bind (.builtin "getset_descriptor.__get__") (.builtin "object.__class__")))
  (hm:PySem.W.mroIn K C (.type "object")=some true) (hb:PySem.W.mroIn K C (.type "BaseException")=some true)
  (XK:K.In s.heap) (p:XAt e C s.heap) (k:Q (some (.ref C)) {s with toks:=s.toks+1}):wpAny (model prog w) A (getAttr? (.ref e) "__class__") Q E s:=by
 obtain⟨h,g,d,t,os⟩:=s
 have L0:=xat_type (M:=model prog w) p
 have L1:=PySem.W.looks_findIn (M:=model prog w) XK pg
 have L2:=PySem.W.looks_findIn (M:=model prog w) XK pt
 have L3:=hf (model prog w)
 have L4:=PySem.W.looks_mroIn (M:=model prog w) XK hb
 have hx2:(Value.builtin "BaseException.__getattribute__" ==Value.builtin "object.__getattribute__")=false:=by decide+kernel
 have f3:=F.excAttr_ValueError.ga.bind (.ref e)
 unfold getAttr? getAttrBy? getAttrBy
 refine wpAny_bind (wpAny_mkText (wpAny_bind (wpAny_attempt (wpAny_holding (wpAny_bind (L0.at (wpAny_bind (L1.at ?_))))))))
 show wpAny _ _ (if(onTheHeap (.ref C)&&Value.builtin "BaseException.__getattribute__" ==Value.builtin "object.__getattribute__")=true then _ else _) _ _ _
 rw[hx2,Bool.and_false,if_neg Bool.false_ne_true]
 unfold getAttrByItsOwn
 refine wpAny_bind ?_
 show wpAny _ _ (typeLookup (.ref C) "__getattr__") _ _ _
 refine L2.at ?_
 refine wpAny_bind (wpAny_attempt (wpAny_holding ?_))
 show wpAny _ _ (boundAndCalled _ _ _) _ _ _
 unfold boundAndCalled
 rw[f3]
 refine wpAny_bind (wpAny_pure ?_)
 refine wpAny_call (codeAny_call_builtin F.excAttr_ValueError.ga.plain F.entry_bexc_ga ?_)
 have hk:builtinKind "BaseException.__getattribute__" =some .slot:=by decide+kernel
 have hsplit:splitId "BaseException.__getattribute__" =some ("BaseException", "__getattribute__"):=by decide+kernel
 have ha:=F.args_bexc_ga (.ref e) (.str "__class__" t)
 simp only[checkBuiltinCall,hk,hsplit]
 refine wpAny_bind ?_
 unfold isInstance
 refine wpAny_bind (L0.at (L4.at ?_))
 rw[if_neg (by decide)]
 refine wpAny_of_eq ha ?_
 show wpAny _ _ (Builtin.«object.__getattribute__» ⟨[.ref e,.str "__class__" t],[]⟩) _ _ _
 unfold Builtin.«object.__getattribute__»
 refine wpAny_bind (wpAny_of_eq (a:=(Value.ref e,[Value.str "__class__" t])) rfl ?_)
 refine wpAny_bind (wpAny_pure ?_)
 refine wpAny_bind (L0.at (wpAny_bind (L3.at ?_)))
 show wpAny _ _ (holding [Value.builtin "object.__class__"] (call (.builtin "getset_descriptor.__get__") [.builtin "object.__class__",.ref e,.ref C])>>=ret) _ _ _
 refine wpAny_bind (wpAny_holding (wpAny_call (cls_get XK p hm ?_)))
 exact wpAny_pure (PySem.W.handed_on rfl (wpAny_pure k))
structure ExcK(K:PySem.W.Frag)(C:Addr):Prop where
 pg:PySem.W.findIn K (.ref C) "__getattribute__" =some (some (.builtin "BaseException.__getattribute__"))
 pt:PySem.W.findIn K (.ref C) "__getattr__" =some none
 hb:PySem.W.mroIn K C (.type "BaseException")=some true
 ci:(PySem.W.clsIn K C).isSome=true
 ha:PySem.W.findIn K (.ref C) "__class__" =some (some (.builtin "object.__class__"))
 hn:PySem.W.specialIn K (.builtin "object.__class__") "__get__" =some (some (.builtin "getset_descriptor.__get__"))
 htk:PySem.W.takesIn K (.builtin "object.__class__")=some true
 hm:PySem.W.mroIn K C (.type "object")=some true
theorem kitx_exc{K:PySem.W.Frag}{e C:Addr}(Z:ExcK K C):PySem.W.KitX K (.ref e) (.ref C) (XAt e C) where
 ty:=fun _ _ _ p=>xat_type p
 it:=fun _ _ XK _=>by
  obtain⟨cd,hc⟩:=Option.isSome_iff_exists.mp Z.ci
  unfold PySem.W.clsIn at hc
  split at hc
  ·rename_i ho
   intro A' Q' E' s' k q
   unfold isType loadHead
   exact wpAny_bind (wpAny_loadPart (k _ _ (XK _ _ ho)) (wpAny_pure q))
  ·cases hc
 ne:=fun h tp dd its n sl XK htp=>by
  obtain⟨cd,hc⟩:=Option.isSome_iff_exists.mp Z.ci
  refine Bool.eq_false_iff.mpr fun q=> ?_
  have ee:C=tp:=Value.ref.inj (beq_iff_eq.mp q)
  subst ee
  unfold PySem.W.clsIn at hc
  split at hc
  ·rename_i ho
   have z:=(XK _ _ ho).symm.trans htp
   cases z
  ·cases hc
 ca:=fun{prog w A E Q s} XK p k=>exc_class Z.pg Z.pt (fun M=>(PySem.W.looks_findIn XK Z.ha).andThen ((PySem.W.looks_specialIn XK Z.hn).andThen ((show PySem.W.Looks M s.heap (Builtin.ObjectAttr.dataDescriptor? (some (.builtin "object.__class__")) (some (.builtin "getset_descriptor.__get__"))) (some (_,_))from(PySem.W.looks_takesIn XK Z.htk).andThen .now).andThen (PySem.W.Looks.tag .now)))) Z.hm Z.hb XK p k
noncomputable def vVal:V→Option Value
 | .ref a=>some (.ref a)
 | .ty n=>some (.type n)
 |_=>none
theorem call_isinstX:CallR X (.builtin "isinstance") (fun xs H Q=>∃e C c cv b,xs=[.ref e,c]∧H e=some (excO e C)∧ExcK X.K C∧vVal c=some cv∧PySem.W.kitOne X.K (.ref C) cv=some b∧Q (.bl b) H):=by
 intro pins s σ H xs us Q I rs h
 obtain⟨e,C,c,cv,b,rfl,he,Z,hv,hk,q⟩:=h
 obtain⟨u,v,rfl,ru,rv⟩:=rs.two
 cases ru
 have ev:v=cv:=by
  cases c<;>first
   |(cases hv;exact rv)
   |(exact absurd hv (by simp[vVal]))
 subst ev
 have p:XAt e C s.heap:=(I.hok e _ he).1
 exact PySem.W.kia_one (kitx_exc Z) I.kIn p hk (fun z=>nomatch z) fun tk=>⟨.bl b,H,I.tok tk,rfl,q⟩
end
end L2
namespace L2
open PySem PySem.Spec PyProof.Rows
noncomputable def compOkB(sc:Scope)(N:List Str)(scope:Scope)(M:List Str)(ix:List (Option Nat))(j:Nat)(x:Str):Bool:=
 scope.kind== .function
 &&scope.names.all (fun y=>if y.2== .local then scope.names.lookup y.1==some .local else true)
 &&scope.names.all (fun y=>y.2 != .cell)
 &&decide M.Nodup
 &&M[j]? ==some x
 &&scope.names.lookup x==some .local
 &&ix[j]? ==some none
 &&ix.length==M.length
 &&scope.names.all (fun y=>if y.2== .free then(sc.names.lookup y.1==some .cell||sc.names.lookup y.1==some .free)else true)
 &&(List.range M.length).all (fun k=>match M[k]?,ix[k]? with
  |some y,some (some i)=>N[i]? ==some y&&(sc.names.lookup y==some .cell||sc.names.lookup y==some .free)&&scope.names.lookup y==some .free
  |_,_=>true)
theorem compS{sc:Scope}{N:List Str}{scope:Scope}{M:List Str}{ix:List (Option Nat)}{j:Nat}{x:Str}(h:compOkB sc N scope M ix j x=true):CompScope sc N scope M ix j x:=by
 unfold compOkB at h
 simp only[Bool.and_eq_true]at h
 obtain⟨⟨⟨⟨⟨⟨⟨⟨⟨h1,h2⟩,h3⟩,h4⟩,h5⟩,h6⟩,h7⟩,h8⟩,h9⟩,h10⟩:=h
 refine⟨beq_iff_eq.mp h1,fun y hy e=> ?_,fun y hy e=> ?_,of_decide_eq_true h4,beq_iff_eq.mp h5,beq_iff_eq.mp h6,beq_iff_eq.mp h7,beq_iff_eq.mp h8,fun y hy e=> ?_,fun k y i e1 e2=> ?_⟩
 ·have q:=List.all_eq_true.mp h2 y hy
  rw[e]at q
  exact beq_iff_eq.mp q
 ·have q:=List.all_eq_true.mp h3 y hy
  rw[e]at q
  cases q
 ·have q:=List.all_eq_true.mp h9 y hy
  rw[e]at q
  rcases Bool.or_eq_true_iff.mp q with z|z
  ·exact .inl (beq_iff_eq.mp z)
  ·exact .inr (beq_iff_eq.mp z)
 ·have hk:k<M.length:=(List.getElem?_eq_some_iff.mp e1).1
  have q:=List.all_eq_true.mp h10 k (List.mem_range.mpr hk)
  rw[e1,e2]at q
  simp only[Bool.and_eq_true,Bool.or_eq_true]at q
  obtain⟨⟨q1,q2⟩,q3⟩:=q
  refine⟨beq_iff_eq.mp q1,?_,beq_iff_eq.mp q3⟩
  rcases q2 with z|z
  ·exact .inl (beq_iff_eq.mp z)
  ·exact .inr (beq_iff_eq.mp z)
end L2
namespace L2
open PySem PySem.Spec PyProof.Rows
section
variable{X:Cx}{a b c e:Expr}{es:List Expr}{ta tb tc te:TE}{t:TA}{pos p:Pos}{x:Str}
end
end L2
namespace L2
open PySem PySem.Spec PyProof.Rows
section
variable{X:Cx}{scope:Scope}{M:List Str}{ix:List (Option Nat)}{j:Nat}{x:Str}
theorem ps_comp{elt iter:Expr}{px py pos spos:Pos}{ifs:List Expr}{wi:TI}{tf:TT}{te:TE}{i:Nat}{y:Str}(hN:X.N.Nodup)(hi:X.N[i]? =some y)(hy:X.env.scope.names.lookup y=some .local)
  (S:CompScope X.env.scope X.N scope M ix j x) (hc:X.calm=true) (hit:PI X (.Name x px) iter wi)
  (hb:∀C s H fp,PF (cxComp X M scope C s H fp) ifs tf∧PE (cxComp X M scope C s H fp) elt te)
  (hsw:swapsWith (.ListComp elt [⟨.Name x px,iter,ifs,0⟩] scope pos) (some (.Name y py)) spos.line X.env=pure true:=by rfl) (hs:∀x,foldedSetIterable iter X.env x=pure x:=by intro _;rfl):
  PS X (.Assign [.Name y py] (.ListComp elt [⟨.Name x px,iter,ifs,0⟩] scope pos) spos) (tAsg (tComp wi ix j tf te) (gName i)):=by
 intro pins s σ H D I h
 rw[exec_Assign_Name_used _ _ _ _ hsw]
 refine wpAny_bind (wpAny_standAt (wpAny_bind ?_))
 show wpAny _ X.A (do let _ ←comprehension (.ListComp elt [⟨.Name x px,iter,ifs,0⟩] scope pos) scope X.env _ (newList []) false (eval iter X.env) (some (assign (.Name y py) X.env))) _ _ s
 refine wpAny_bind (wpAny_mono (wpAny_comprehension_free (use:=some (assign (.Name y py) X.env)) (Q:=fun _ s'=>SP X pins D .next s') rfl hs (closureFor_cl fun y hy e=>I.ok.has y.1 (S.free y hy e)) S.kind S.names
  (wpAny_mono (hit pins s σ H _ I h) (fun xv s₁ h₁=>wpAny_mono h₁ (fun it s₂ h₂=> ?_) fun _ _ e=>e) fun _ _ e=>e)) (fun _ s' hq=>wpAny_pure (wpAny_pure hq)) fun _ _ e=>e)
 obtain⟨it,fp,tn,J,H2,rfl,I2,T,st2,f2,q⟩:=h₂
 refine wpAny_newObj_type (wpAny_newFunctionEnv S.nocell (by intro y hy;simp at hy) (fun h₁ hns₁ hsb₁=> ?_) S.kind)
 dsimp only at hns₁ hsb₁⊢
 have hC:(s₂.heap.push {cls:= .type "list",dict:=none,data:= .seq ([]:List Value).toArray}).objs.size=s₂.heap.objs.size+1:=Heap.size_push ..
 rw[hC]at hns₁ hsb₁⊢
 have below:∀b,b<s₂.heap.objs.size→b≠s₂.heap.objs.size+1:=fun b hb=>Nat.ne_of_lt (Nat.lt_succ_of_lt hb)
 have old:∀b o,s₂.heap.get? b=some o→h₁.get? b=some o:=fun b o e=>hsb₁.extBut b o (below b (Heap.lt_size e)) (Heap.get?_push_of_some _ (Heap.get?_push_of_some _ e))
 have hD:h₁.get? s₂.heap.objs.size=some {cls:= .type "list",data:= .seq ([]:List Value).toArray 0}:=hsb₁.extBut _ _ (Nat.ne_of_lt (Nat.lt_succ_self _)) (Heap.get?_push_of_some _ (Heap.get?_push_size _ rfl))
 have hft:∀b∈fp,b<s₂.heap.objs.size:=fun b hb=>by
  obtain⟨o,e,_⟩:=T.obj 0 s₂.heap st2 b hb
  exact Heap.lt_size e
 have I0:=(comp_start (h1:=h₁) S I2 f2 hft old hD hns₁).tok s₂.toks
 have hfr:H2 s₂.heap.objs.size=none:=I2.hok.fresh (Nat.le_refl _)
 have loop:codeAny (model X.prog X.w) X.A (.compLoop (.ListComp elt [⟨.Name x px,iter,ifs,0⟩] scope pos) 0 (.ref it) (.ref s₂.heap.objs.size) (compEnvC scope (clOf X.env.cells scope.names []) (s₂.heap.objs.size+1) X.env))
   (compPost (model X.prog X.w) X.A X.xe (some (assign (.Name y py) X.env)) (fun _ s'=>SP X pins D .next s') (.ref s₂.heap.objs.size) (s₂.heap.objs.size+1)) {s₂ with heap:=h₁,toks:=s₂.toks}:=by
  refine comp_block (Q:=fun v H'=>gName i v σ H' D.nx) S hc I2 (hb _ _ _ _).1 (hb _ _ _ _).2 T st2 f2 I0 old (q _ hfr) fun H' s' I' qq=> ?_
  show wpAny _ X.A (assign (.Name y py) X.env (.ref s₂.heap.objs.size)) _ _ s'
  have J1:Inv X pins σ H' s':=comp_end (h':=s'.heap) I2 (Nat.le_succ _) f2 I' (.refl ..)
  obtain⟨m,hn,_⟩:=I'.loc
  obtain⟨oC,es,ep,hoC,hd,hrest⟩:=id hn
  have nL:s₂.heap.objs.size+1≠X.env.locals:=Nat.ne_of_gt (Nat.lt_succ_of_lt I2.lt)
  have nF:s₂.heap.objs.size+1∉X.fs:=I2.nofs (Nat.le_succ _)
  have hHC:H' (s₂.heap.objs.size+1)=none:=I'.free
  have J2:Inv X (pins++[(s₂.heap.objs.size+1,oC)]) σ H' s':=J1.pins_of fun p hp=>(List.mem_append.mp hp).elim (fun z=>J1.pin p (List.mem_append_right _ z)) fun z=>by
   have e:p=(s₂.heap.objs.size+1,oC):=List.mem_singleton.mp z
   subst e
   exact⟨hoC,hHC,nL,nF,fun v z=>by rw[hd]at z;cases z⟩
  refine wpAny_assign_Name (store_ok (v:= .ref s₂.heap.objs.size) J2 hN hi (.inl hy) rfl (fun s'' J3=> ?_) (.inr hy))
  have hoC2:s''.heap.get? (s₂.heap.objs.size+1)=some oC:=(J3.pin (s₂.heap.objs.size+1,oC) (List.mem_append_right _ (List.mem_append_right _ (List.mem_singleton.mpr rfl)))).1
  refine⟨m,⟨oC,es,ep,hoC2,hd,hrest⟩,fun h' hb'=> ?_⟩
  have J4:Inv X pins (σ.set i (some (.ref s₂.heap.objs.size))) H' s'':=J3.unpinned
  refine⟨_,H',J4.turned (t':=s''.toks) (it:=s₂.heap.objs.size+1) (fun b o hne e=>hb'.extBut b o hne e) hHC nL (.inr (Nat.le_trans I2.sz (Nat.le_succ _))) (fun z c e1 e2=> ?_) (fun p hp e2=> ?_),qq⟩
  ·obtain⟨v,qc⟩:=I2.cell z c e1
   have:=qc.lt
   rw[e2]at this
   exact absurd (Nat.lt_of_succ_lt this) (Nat.lt_irrefl _)
  ·have:=Heap.lt_size (I2.pin p hp).1
   rw[e2]at this
   exact absurd (Nat.lt_of_succ_lt this) (Nat.lt_irrefl _)
 exact codeAny_compStart_list loop (T.self _ 0 _ _ _ (T.keep 0 _ _ st2 fun b _ o e=>old b o e) loop)
end
end L2
namespace HT
open PySem PyProof.Rows
section
variable{prog:Program}{w:World}{A:Around}{E:Value→Shared→Prop}{s:Shared}
end
end HT
namespace L2
open PySem PySem.Spec PyProof.Rows
section
variable{X:Cx}
end
end L2
namespace PySem
open Sem (wp)
open Builtin Builtin.List Builtin.Tuple
namespace AutoSeq1
set_option maxRecDepth 8000 in
theorem extend_tup(l:Addr)(items:Array Value)(n:Nat)(b:Addr)(items2:Array Value)(n2:Nat)(dd:Option Addr)(sl:Array (Option Value))(c0:¬(!items.isEmpty&&Builtin.List.listTooLong (items.size+items2.size))=true)(c1:items.size≤sizeLine)(c2:items.size+items2.size≤sizeLine+1):
  Meets (Builtin.«list.extend» ⟨[.ref l,.ref b],[]⟩) (fun _ R s=>s.heap.get? l=some {cls:= .type "list",dict:=none,data:= .seq items n,slots:= #[]}∧s.heap.get? b=some ⟨.type "tuple",dd,.seq items2 n2,sl⟩∧R (.ok (.ret Value.none)) {s with heap:=s.heap.update l (Obj.mapSeq fun x=>x++items2)}):=
 .of_wp fun prog w A R s h=>by
  obtain⟨hp,g,d,tk,os⟩:=s
  obtain⟨hl,hb,h⟩:=h
  have f1:=idx_int
  have f2:=sub_tuple_tuple
  have f3:=sub_list_list
  have f4:=sub_tuple_list
  have f5:=sub_list_tuple
  have big:(items++items2).size≤sizeLine+1:=by rw[Array.size_append];exact c2
  wp_walk using(wpAny_updateSeq hl rfl (hz:=c1) (_hz':=big)),wpAny_loadPart' hl,wpAny_loadPart' hb
  exact⟨_,rfl,h⟩
end AutoSeq1
end PySem
namespace L2
open PySem PySem.Spec PyProof.Rows
section
variable{X:Cx}
noncomputable def rExtendT(K:PySem.W.Frag):V→List V→Hp→VK→Prop:=fun x vs H Q=>∃l b xs zs,x= .ref l∧vs=[.ref b]∧H l=some (.lst xs)∧SqT K H b zs∧xs.length+zs.length≤sizeLine∧Q .non (upd H l (.lst (xs++zs)))
theorem mt_extendT:MtM X "list.extend" (rExtendT X.K):=by
 intro pins s σ H x vs v us Q I rx rv h
 obtain⟨l,b,xs,zs,rfl,rfl,hH,hB,hz,q⟩:=h
 cases rx
 obtain⟨u,rfl,ru⟩:=rv.one
 cases ru
 obtain⟨z,its,n,r,hl,e⟩:=I.lstM hH
 obtain⟨its2,r2,tp,hz2⟩:=I.tuple hB
 have hl2:=r2.length
 obtain⟨⟨cls,dd,data,sl⟩,ho,hc,n2,hd⟩:=tp
 simp only at hc hd
 subst hc hd
 have hsz:its.toArray.size+its2.toArray.size≤sizeLine:=by rw[List.size_toArray,List.size_toArray];(first|lia|omega)
 have hlong:¬(!its.toArray.isEmpty&&Builtin.List.listTooLong (its.toArray.size+its2.toArray.size))=true:=by
  rw[notLongL hsz,Bool.and_false]
  exact Bool.false_ne_true
 refine call_meets F.slot_list_extend ⟨_,e,rfl⟩ F.entry_list_extend (F.args_list_extend_2 _ _) (AutoSeq1.extend_tup l its.toArray n b its2.toArray n2 dd sl hlong (by rw[List.size_toArray];(first|lia|omega)) (by(first|lia|omega))) ⟨e,ho,?_⟩
 refine⟨.non,_,I.lset (t':=s.toks) (its':=its++its2) hH e (by simp) (r.append r2) ?_,rfl,q⟩
 rw[List.length_append]
 (first|lia|omega)
end
end L2
namespace L2
open PySem PySem.Spec PyProof.Rows
section
variable{κ:Type}[DecidableEq κ]
end
theorem kV_is{P:Program}{w:World}{k:Key}{u:Value}(r:RelV (kV k) u):(mixKind P w).is k u=true:=by
 cases k with
 |inl i=>obtain⟨t,e⟩:=(show∃t,u=Value.int i t from r);subst e;exact mixKind_int P w i t
 |inr x=>obtain⟨t,e⟩:=(show∃t,u=Value.str x t from r);subst e;exact mixKind_str P w x t
theorem items_are{P:Program}{w:World}:∀{ks:List Key} {us:List Value},Vals (ks.map kV) us→ItemsAre (mixKind P w) ks us
 |[],_,r=>by rw[List.map_nil]at r;cases r;exact .nil
 |k::ks,_,r=>by
  rw[List.map_cons]at r
  cases r with
  |cons h t=>exact .cons (kV_is h) (items_are t)
section
variable{P:Program}{w:World}{H:Hp}{h:Heap}{a:Addr}
end
section
variable{X:Cx}{pins:List (Addr×Obj)}{σ:St}{H:Hp}{s:Shared}{a:Addr}{y v:V}{u r:Value}{o:Option V}{A:Around}{E:Value→Shared→Prop}
theorem Inv.big(I:Inv X pins σ H s):sysModules<s.heap.objs.size:=by
 have h:mainGlobals<s.heap.objs.size:=(I.mod.glob.keeps I.bk).lt
 exact Nat.lt_trans (by decide) h
theorem d_write{h':Heap}{t':Nat}{ob:HO}(I:Inv X pins σ H s)(mu:Mut (H a))(hs:Heap.SameBut a s.heap h')(he:∃q,h'.get? a=some q)(new:ObjOk X.prog X.w (upd H a ob) h' a ob):
  Inv X pins σ (upd H a ob) {s with heap:=h',toks:=t'}:=
 I.write (x:=a) (e:=a) mu (.inl rfl) (fun b q hb z=>(hs.2 b hb).trans z) he new
end
section
variable{X:Cx}{pins:List (Addr×Obj)}{σ:St}{H:Hp}{s:Shared}{a:Addr}{kvs:List (Key×V)}{k:Key}{u:Value}{A:Around}{E:Value→Shared→Prop}
end
section
variable{X:Cx}{o i e value:Expr}{pos pos' tpos:Pos}{td ty tv:TE}
end
section
variable{X:Cx}{pos:Pos}
end
structure M2(X:Cx)(o:Expr)(m:Str)(apos:Pos)(e f:Expr)(cpos:Pos):Prop where
 base:attributeBase o m X.env (eval o X.env)=eval o X.env
 few:((backTo cpos (starEach [e,f] X.env)).all (fun x=> !x.1)&&(backToKw cpos (keywordEach [] X.env)).all (fun x=>x.1.isSome)
  &&decide (([e,f]:List Expr).length+([]:List Keyword).length+(if([]:List Keyword).isEmpty then 0 else 1)<30))=true
 line:(apos.endLine==cpos.line)=true
 trees:backTo cpos (starEach [e,f] X.env)=[(false,eval e X.env),(false,eval f X.env)]
section
variable{X:Cx}{pins:List (Addr×Obj)}{σ:St}{H:Hp}{s:Shared}{a:Addr}{y d:V}{u r:Value}{o:Option V}{A:Around}{E:Value→Shared→Prop}
end
section
variable{X:Cx}{o e f:Expr}{apos cpos:Pos}{td ty tx:TE}
end
section
variable{X:Cx}{pins:List (Addr×Obj)}{σ:St}{H:Hp}{s:Shared}{a:Addr}{kvs:List (Key×V)}{A:Around}{E:Value→Shared→Prop}
end
section
variable{X:Cx}{pins:List (Addr×Obj)}{σ:St}{H:Hp}{s:Shared}{a:Addr}{y:V}{u:Value}{A:Around}{E:Value→Shared→Prop}
end
end L2
namespace L2
open PySem
section
variable{X:Cx}
end
section
variable{κ:Type}[DecidableEq κ]
end
end L2
namespace L2
open PySem PyProof.Rows
noncomputable abbrev NK:=List Int×Str
noncomputable abbrev mkK(k:List Int):List Key:=k.map Sum.inl
theorem mkK_inj{x y:List Int}(h:mkK x=mkK y):x=y:=List.map_inj_right (fun _ _ e=>Sum.inl.inj e)|>.mp h
section
variable{prog:Program}{w:World}
noncomputable def isNK(h:Heap)(k:NK)(a:Addr):Prop:=∃(o:Obj) (n:Nat) (b:Addr) (v:Value),h.get? a=some o∧o.cls= .type "tuple" ∧o.data= .seq #[.ref b,v] n∧(tupleKind (mixKind prog w)).is h (mkK k.1) b∧(mixKind prog w).is (.inr k.2) v=true
noncomputable def hashNK(prog:Program)(w:World)(k:NK):Int:=reduceHash (Builtin.Tuple.tupleHashOf #[(tupleKind (mixKind prog w)).hash (mkK k.1),(mixKind prog w).hash (.inr k.2)].toList)
variable{A:Around}{E:Value→Shared→Prop}{s:Shared}
theorem nk_ty{k:NK}{a:Addr}(x:isNK (prog:=prog) (w:=w) s.heap k a):s.TypeIs (.ref a) "tuple" :=by
 obtain⟨o,n,b,v,h1,h2,_⟩:=x
 exact⟨o,h1,h2⟩
theorem nk_hash{k:NK}{a:Addr}{Q:Int→Shared→Prop}(hu:A.units+1<cLine)(x:isNK (prog:=prog) (w:=w) s.heap k a)
  (q:Q (hashNK prog w k) {s with toks:=s.toks+((mkK k.1).length+1+1+1)}):wpAny (model prog w) A (pyHash (.ref a)) Q E s:=by
 have ty:=nk_ty x
 obtain⟨o,n,b,v,h1,h2,h3,h4,h5⟩:=x
 unfold pyHash
 first|unfold pyHashByItsType|skip
 first|refine wpAny_bind (wpAny_cRoomFor_or (.inr (by(first|lia|omega))) ?_)|skip
 refine wpAny_bind (wpAny_specialOf ty PySem.F.slot_tuple_hash.lookup ?_)
 show wpAny _ _ (if(some (Value.builtin "tuple.__hash__")==some Value.none)=true then _ else _) Q E s
 rw[if_neg (by rw[beq_builtin_none];exact Bool.false_ne_true)]
 refine wpAny_bind (wpAny_specialOf ty PySem.F.slot_tuple_hash.lookup ?_)
 show wpAny _ _ (callSpecialIfBoundUnlessNone? (.ref a) "__hash__" _>>=_) Q E s
 refine wpAny_bind (wpAny_callSpecialIfBoundUnlessNone?_slot ty PySem.F.slot_tuple_hash (wpAny_call_entry PySem.F.slot_tuple_hash ty PySem.F.entry_tuple_hash ?_ (PySem.F.args_tuple_hash_1 _)))
 show wpAny _ _ (Builtin.Tuple.tupleItemsOf (.ref a)>>=_) _ _ s
 refine wpAny_bind (wpAny_tupleItemsOf h1 h3 ?_)
 simp only[List.forIn_toArray,List.forIn_cons,List.forIn_nil,bind_assoc,pure_bind]
 refine wpAny_bind ((tupleKind (mixKind prog w)).pyHash hu h4 ?_)
 refine wpAny_bind ((mixKind prog w).pyHash h5 ?_)
 refine wpAny_ret_mkInt ?_
 show wpAny _ _ (if(decide (-(2:Int)^63≤Builtin.Tuple.tupleHashOf _)&&decide (Builtin.Tuple.tupleHashOf _<2^63))=true then _ else _) Q E _
 unfold hashNK reduceHash at q
 by_cases hr:(decide (-(2:Int)^63≤Builtin.Tuple.tupleHashOf #[(tupleKind (mixKind prog w)).hash (mkK k.1),(mixKind prog w).hash (.inr k.2)].toList)&&decide (Builtin.Tuple.tupleHashOf #[(tupleKind (mixKind prog w)).hash (mkK k.1),(mixKind prog w).hash (.inr k.2)].toList<2^63))=true
 ·rw[if_pos hr]at q
  exact(if_pos hr).symm▸wpAny_pure q
 ·rw[if_neg hr]at q
  exact(if_neg hr).symm▸wpAny_bind (wpAny_rule (wpAny_pure q))
theorem nk_eqT{x y:NK}{a b:Addr}{R:Fin→Shared→Prop}(hu:A.units<cLine)(hx:isNK (prog:=prog) (w:=w) s.heap x a)(hy:isNK (prog:=prog) (w:=w) s.heap y b)(q:R (.done (.ret (.bool (decide (x=y))))) s):
  wpAny (model prog w) A (Builtin.«tuple.__eq__» ⟨[.ref a,.ref b],[]⟩) R E s:=by
 have ty:=nk_ty hy
 obtain⟨o,n,c,v,h1,h2,h3,h4,h5⟩:=hx
 obtain⟨o',n',c',v',g1,g2,g3,g4,g5⟩:=hy
 show wpAny _ _ (isInstance (.ref b) (.type "tuple")>>=_) _ _ s
 refine wpAny_bind (wpAny_isInstance ty isSubtype_tuple_tuple ?_)
 simp only[Bool.not_true,Bool.false_eq_true,if_false]
 refine wpAny_bind (wpAny_tupleItemsOf h1 h3 ?_)
 refine wpAny_bind (wpAny_tupleItemsOf g1 g3 ?_)
 show wpAny _ _ (forIn [(Value.ref c,Value.ref c'),(v,v')] _ _>>=_) _ _ s
 simp only[List.forIn_cons,List.forIn_nil,bind_assoc,pure_bind]
 refine wpAny_bind ((tupleKind (mixKind prog w)).eqBool hu h4 g4 ?_)
 have fl:x≠y→R (.done (.ret (.bool false))) s:=fun ne=>by rw[decide_eq_false ne]at q;exact q
 by_cases e1:x.1=y.1
 ·rw[decide_eq_true (congrArg mkK e1)]
  simp only[Bool.not_true,Bool.false_eq_true,if_false,pure_bind]
  refine wpAny_bind (wpAny_bind ((mixKind prog w).eqBool h5 g5 ?_))
  by_cases e2:x.2=y.2
  ·rw[decide_eq_true (congrArg Sum.inr e2)]
   simp only[Bool.not_true,Bool.false_eq_true,if_false,pure_bind]
   rw[decide_eq_true (Prod.ext e1 e2)]at q
   exact wpAny_pure (wpAny_pure q)
  ·rw[decide_eq_false (fun h=>e2 (Sum.inr.inj h))]
   simp only[Bool.not_false,if_true,pure_bind,bind_assoc]
   exact wpAny_bind (wpAny_pure (wpAny_pure (wpAny_pure (fl fun h=>e2 (congrArg Prod.snd h)))))
 ·rw[decide_eq_false (fun h=>e1 (mkK_inj h))]
  simp only[Bool.not_false,if_true,pure_bind,bind_assoc]
  exact wpAny_bind (wpAny_pure (wpAny_pure (fl fun h=>e1 (congrArg Prod.fst h))))
theorem nk_inj{h:Heap}{x y:NK}{a:Addr}(hx:isNK (prog:=prog) (w:=w) h x a)(hy:isNK (prog:=prog) (w:=w) h y a):x=y:=by
 obtain⟨o,n,c,v,h1,h2,h3,h4,h5⟩:=hx
 obtain⟨o',n',c',v',g1,g2,g3,g4,g5⟩:=hy
 obtain rfl:o=o':=Option.some.inj (h1.symm.trans g1)
 rw[h3]at g3
 injection g3 with e1 _
 have e2:=congrArg Array.toList e1
 simp only[List.cons.injEq,Value.ref.injEq,and_true]at e2
 obtain⟨rfl,rfl⟩:=e2
 exact Prod.ext (mkK_inj ((tupleKind (mixKind prog w)).inj h4 g4)) (Sum.inr.inj ((mixKind prog w).inj _ _ _ h5 g5))
theorem nk_eq{x y:NK}{a b:Addr}{Q:Bool→Shared→Prop}(hu:A.units+1<cLine)(hx:isNK (prog:=prog) (w:=w) s.heap x a)(hy:isNK (prog:=prog) (w:=w) s.heap y b)(q:Q (decide (x=y)) s):
  wpAny (model prog w) A (eqBool (.ref a) (.ref b)) Q E s:=by
 unfold eqBool
 try with_reducible refine wpAny_holding ?_
 show wpAny _ _ (if(Value.ref a==Value.ref b)=true then _ else _) Q E s
 split
 ·rename_i hab
  have e:a=b:=by have:=eq_of_beq hab;injection this
  subst e
  obtain rfl:=nk_inj hx hy
  exact wpAny_bind (wpAny_rule (wpAny_pure (by simpa using q)))
 ·exact wpAny_bind (wpAny_richCompare_same_room (op:= .Eq) (nk_ty hx) (nk_ty hy) PySem.F.slot_tuple_eq
   (wpAny_call_entry PySem.F.slot_tuple_eq (nk_ty hx) PySem.F.entry_tuple_eq (nk_eqT (by show A.units+1<cLine;(first|lia|omega)) hx hy ⟨_,rfl,(fun e=>nomatch e),wpAny_truthy_bool q⟩) (PySem.F.args_tuple_eq_2 _ _)) (by(first|lia|omega)))
theorem nk_keeps{h h':Heap}{k:NK}{a d:Addr}{o:Obj}{es ep}(x:isNK (prog:=prog) (w:=w) h k a)(ho:h.get? d=some o)(hd:o.data= .dict es ep)(hs:Heap.SameBut d h h'):isNK (prog:=prog) (w:=w) h' k a:=by
 obtain⟨o1,n,c,v,h1,h2,h3,h4,h5⟩:=x
 have hne:a≠d:=by
  rintro rfl
  obtain rfl:o1=o:=Option.some.inj (h1.symm.trans ho)
  rw[hd]at h3;exact nomatch h3
 exact⟨o1,n,c,v,(hs.2 a hne).trans h1,h2,h3,(tupleKind (mixKind prog w)).keeps h4 ho hd hs,h5⟩
theorem nk_qT{ks:List Key}{a:Addr}{Q:Bool→Shared→Prop}(hk:(tupleKind (mixKind prog w)).is s.heap ks a)(q:Q true s):wpAny (model prog w) A (eqIsQuiet 7 (.ref a)) Q E s:=by
 have ty:=IsTupleKey.typeIs (knd:=mixKind prog w) hk
 obtain⟨o,its,n,h1,h2,h3,h4⟩:=hk
 unfold eqIsQuiet
 refine wpAny_bind (wpAny_specialOf ty PySem.F.slot_tuple_eq.lookup ?_)
 show wpAny _ _ (isInstance (.ref a) (.type "tuple")>>=_) _ _ s
 refine wpAny_bind (wpAny_isInstance ty isSubtype_tuple_tuple ?_)
 simp only[Bool.not_true,Bool.false_eq_true,if_false]
 refine wpAny_bind (wpAny_seqItems h1 h3 ?_)
 refine wpAny_bind ?_
 show wpAny _ _ (forIn its _ _) _ _ s
 rw[←Array.forIn_toList]
 have all:=h4.byValue
 refine wpAny_forIn_list _ (fun l r s'=>r.1=none∧s'=s∧∀v∈l,carriedByValue v=true) _ ?_ ?_ _ _ ⟨rfl,rfl,all⟩
 ·rintro v l r s' ⟨hr,rfl,h⟩
  rw[eqIsQuiet_byValue _ (h v (by simp))]
  refine wpAny_bind (wpAny_pure ?_)
  exact wpAny_pure ⟨rfl,rfl,fun u hu=>h u (by simp[hu])⟩
 ·rintro⟨r1,r2⟩ s' ⟨hr,rfl,_⟩
  cases hr
  exact wpAny_pure q
theorem nk_quiet{k:NK}{a:Addr}{Q:Bool→Shared→Prop}(x:isNK (prog:=prog) (w:=w) s.heap k a)(q:Q true s):wpAny (model prog w) A (eqIsQuiet 8 (.ref a)) Q E s:=by
 have ty:=nk_ty x
 obtain⟨o,n,c,v,h1,h2,h3,h4,h5⟩:=x
 unfold eqIsQuiet
 refine wpAny_bind (wpAny_specialOf ty PySem.F.slot_tuple_eq.lookup ?_)
 show wpAny _ _ (isInstance (.ref a) (.type "tuple")>>=_) _ _ s
 refine wpAny_bind (wpAny_isInstance ty isSubtype_tuple_tuple ?_)
 simp only[Bool.not_true,Bool.false_eq_true,if_false]
 refine wpAny_bind (wpAny_seqItems h1 h3 ?_)
 refine wpAny_bind ?_
 show wpAny _ _ (forIn #[Value.ref c,v] _ _) _ _ s
 rw[←Array.forIn_toList]
 show wpAny _ _ (forIn [Value.ref c,v] _ _) _ _ s
 simp only[List.forIn_cons,List.forIn_nil,bind_assoc,pure_bind]
 refine wpAny_bind (nk_qT h4 ?_)
 simp only[Bool.not_true,Bool.false_eq_true,if_false,pure_bind]
 rw[eqIsQuiet_byValue _ ((mixKind prog w).byValue _ _ h5)]
 simp only[Bool.not_true,Bool.false_eq_true,if_false,pure_bind]
 exact wpAny_pure (wpAny_pure q)
noncomputable def nKind(prog:Program)(w:World):HeapKind prog w NK where
 is:=isNK (prog:=prog) (w:=w)
 hash:=hashNK prog w
 draws:=fun k=>(mkK k.1).length+1+1+1
 room:=fun A=>A.units+1<cLine
 inj:=fun hx hy=>nk_inj hx hy
 keeps:=fun x ho hd hs=>nk_keeps x ho hd hs
 pyHash:=fun hu hk h=>nk_hash hu hk h
 eqBool:=fun hu hx hy h=>nk_eq hu hx hy h
 quiet:=fun hk h=>nk_quiet hk h
end
end L2
namespace L2
open PySem PyProof.Rows
noncomputable def phN(a:Addr)(hf:NK→Int)(xs:List (NK×Addr×Value)):Heap→Prop:=fun h=>(a==sysModules)=false∧xs.length≤sizeLine∧(xs.map (·.1)).Nodup∧
 ∃o es ep,h.get? a=some o∧o.ExactDict∧o.data= .dict es ep∧es.toList=xs.map fun x=>⟨hf x.1,.ref x.2.1,x.2.2⟩
noncomputable abbrev nD(a:Addr)(hf:NK→Int)(xs:List (NK×Addr×Value)):HO:= .ext (phN a hf xs)
noncomputable def KeyAt(K:PySem.W.Frag)(H:Hp)(b:Addr)(k:NK):Prop:=∃c,SqT K H b [.ref c,.str k.2]∧SqT K H c (k.1.map V.int)
theorem phN_st{a:Addr}{hf:NK→Int}{xs:List (NK×Addr×Value)}{h1 h2:Heap}(p:phN a hf xs h1)(k:∀o,h1.get? a=some o→h2.get? a=some o):phN a hf xs h2:=by
 obtain⟨a1,a2,a3,o,es,ep,g,r⟩:=p
 exact⟨a1,a2,a3,o,es,ep,k _ g,r⟩
theorem nD_ok{P:Program}{w:World}{H:Hp}{h:Heap}{a:Addr}{hf:NK→Int}{xs:List (NK×Addr×Value)}(p:phN a hf xs h):ObjOk P w H h a (nD a hf xs):=by
 have p':=p
 obtain⟨_,_,_,o,_,_,g,_⟩:=p'
 exact⟨p,⟨o,g⟩,fun h1 h2 q k=>phN_st q k⟩
section
variable{X:Cx}{pins:List (Addr×Obj)}{σ:St}{H:Hp}{s:Shared}{a b:Addr}{k:NK}{xs:List (NK×Addr×Value)}{A:Around}{E:Value→Shared→Prop}
theorem nk_of(I:Inv X pins σ H s)(h:KeyAt X.K H b k):isNK (prog:=X.prog) (w:=X.w) s.heap k b:=by
 obtain⟨c,h1,h2⟩:=h
 obtain⟨i1,r1,⟨o,g1,g2,n,g3⟩,_⟩:=I.tuple h1
 obtain⟨i2,r2,⟨o',e1,e2,n',e3⟩,_⟩:=I.tuple h2
 cases r1 with
 |cons q1 r1=>
  cases r1 with
  |cons q2 r1=>
   cases r1
   obtain rfl:=q1
   obtain⟨t,rfl⟩:=q2
   refine⟨o,n,c,_,g1,g2,g3,⟨o',_,n',e1,e2,e3,?_⟩,mixKind_str _ _ _ _⟩
   have r3:Vals ((mkK k.1).map kV) i2:=by rw[List.map_map];exact r2
   simpa using items_are r3
theorem dN_of(I:Inv X pins σ H s)(e:H a=some (nD a (hashNK X.prog X.w) xs))(hk:∀q∈xs,KeyAt X.K H q.2.1 q.1):(a==sysModules)=false∧xs.length≤sizeLine∧s.heap.DictOfH (nKind X.prog X.w) a xs:=by
 obtain⟨⟨a1,a2,a3,o,es,ep,g1,g2,g3,g4⟩,_⟩:=(show ObjOk X.prog X.w H s.heap a (nD a _ xs)from I.hok a _ e)
 exact⟨a1,a2,o,es,ep,g1,g2,g3,g4,fun x hx=>nk_of I (hk x hx),a3⟩
theorem d_setN{v:V}{u r:Value}{Q:Unit→Shared→Prop}(hu:A.units+2<cLine)(I:Inv X pins σ H s)(e:H a=some (nD a (hashNK X.prog X.w) xs))(hk:∀q∈xs,KeyAt X.K H q.2.1 q.1)(hb:KeyAt X.K H b k)(hl:xs.length<sizeLine)
  (h:∀s',Inv X pins σ (upd H a (nD a (hashNK X.prog X.w) (storedH xs k b r))) s'→Q () s'):wpAny (model X.prog X.w) A (setItem (.ref a) (.ref b) r) Q E s:=by
 obtain⟨a1,a2,dd⟩:=dN_of I e hk
 refine wpAny_setItem_heap (hsz:=a2) (show A.in1.units+1<cLine by show A.units+1+1<cLine;(first|lia|omega)) (nk_of I hb) dd fun h' dd' hs=>h _ ?_
 obtain⟨o,es,ep,g1,g2,g3,g4,_,g5⟩:=dd'
 refine d_write I (by rw[e];exact True.intro) hs ⟨o,g1⟩ (nD_ok ⟨a1,?_,g5,o,es,ep,g1,g2,g3,g4⟩)
 unfold storedH
 split<;>simp<;>(first|lia|omega)
theorem nD_at(I:Inv X pins σ H s)(e:H a=some (nD a (hashNK X.prog X.w) xs)):s.TypeIs (.ref a) "dict" ∧(∀b,Value.ref a= .ref b→∃ob,s.heap.get? b=some ob∧ob.dict=none)∧(a==sysModules)=false:=by
 obtain⟨⟨a1,a2,a3,o,es,ep,g1,g2,g3,g4⟩,_⟩:=(show ObjOk X.prog X.w H s.heap a (nD a _ xs)from I.hok a _ e)
 refine⟨⟨o,g1,g2.1⟩,fun b q=> ?_,a1⟩
 cases q
 exact⟨o,g1,g2.2.1⟩
theorem d_getN{r:Value}{Q:Value→Shared→Prop}(hu:A.units+2<cLine)(I:Inv X pins σ H s)(e:H a=some (nD a (hashNK X.prog X.w) xs))(hk:∀q∈xs,KeyAt X.K H q.2.1 q.1)(hb:KeyAt X.K H b k)
  (h:∀s',Inv X pins σ H s'→Q (((atKey xs k).map (·.2)).getD r) s'):wpAny (model X.prog X.w) A (call (.builtin "dict.get") [.ref a,.ref b,r]) Q E s:=by
 obtain⟨a1,a2,dd⟩:=dN_of I e hk
 exact call_meetsIn PySem.F.slot_dict_get dd.typeIs PySem.F.entry_dict_get (PySem.F.args_dict_get_3 _ _ _) (meetsH_dict_get_default (nKind X.prog X.w) a b a1 r) ⟨(show A.in1.units+1<cLine by show A.units+1+1<cLine;(first|lia|omega)),k,xs,nk_of I hb,dd,h _ (I.tok _)⟩
end
noncomputable def tDNewN(hf:NK→Int):TE:=fun _ H Q=>∀p,H p=none→Q (.ref p) (upd H p (nD p hf []))
noncomputable def tGetN(K:PySem.W.Frag)(hf:NK→Int)(td ty tx:TE):TE:=fun σ H Q=>td σ H fun x H1=>∃a xs,x= .ref a∧H1 a=some (nD a hf xs)∧ty σ H1 fun y H2=>tx σ H2 fun z H3=>∃xs b k,H3 a=some (nD a hf xs)∧(∀q∈xs,KeyAt K H3 q.2.1 q.1)∧y= .ref b∧KeyAt K H3 b k∧
 match atKey xs k with
 |some p=>∃v,RelV v p.2∧Q v H3
 |none=>Q z H3
section
variable{X:Cx}{o e f:Expr}{apos cpos pos:Pos}{td ty tx:TE}
theorem pe_dnewN:PE X (.Dict [] [] pos) (tDNewN (hashNK X.prog X.w)):=fun pins s σ H Q I h=>
 wpAny_Dict_empty ⟨.ref s.heap.objs.size,_,I.laid (a:=s.heap.objs.size) (o:=nD s.heap.objs.size _ []) (t':=s.toks) (fun _ _ q=>Heap.get?_push_of_some _ q) (Nat.le_refl _)
  (nD_ok ⟨beq_eq_false_iff_ne.mpr (Ne.symm (Nat.ne_of_lt I.big)),Nat.zero_le _,List.nodup_nil,_,#[],0,Heap.get?_push_size _ rfl,⟨rfl,rfl,rfl⟩,rfl,rfl⟩),rfl,h _ (I.hok.fresh (Nat.le_refl _))⟩
theorem pe_getN(hu:X.A.units+2<cLine)(ho:PE X o td)(he:PE X e ty)(hf:PE X f tx)(m:M2 X o "get" apos e f cpos):PE X (.Call (.Attribute o "get" apos) [e,f] [] cpos) (tGetN X.K (hashNK X.prog X.w) td ty tx):=by
 intro pins s σ H Q I h
 refine wpAny_Call_method m.base m.few m.line PySem.F.plainAttrs_dict PySem.F.slot_dict_get PySem.F.type_dict_get (thn (ho pins s σ H _ I h) fun u s1 hPl=> ?_)
 obtain⟨x,H1,I1,rx,a,xs,ex,d,q1⟩:=hPl
 subst ex
 obtain rfl:u=Value.ref a:=rx
 obtain⟨t1,t2,_⟩:=nD_at I1 d
 refine⟨t1,t2,?_⟩
 rw[m.trees]
 refine Calls.callWith_builtin rfl (Calls.evalArgs_plain (Calls.spliced_cons (thn (he pins s1 σ H1 _ I1 q1) fun iv s2 ⟨y,H2,I2,ry,q2⟩=>
  Calls.spliced_cons (thn (hf pins s2 σ H2 _ I2 q2) fun fv s3 ⟨z,H3,I3,rz,xs,b,k,e3,hk,ey,hb,q3⟩=>Calls.spliced_nil ?_))))
 subst ey
 obtain rfl:iv=Value.ref b:=ry
 refine d_getN hu I3 e3 hk hb fun s4 I4=> ?_
 split at q3
 ·rename_i p hp
  obtain⟨v,rv,q3⟩:=q3
  rw[hp]
  exact⟨v,H3,I4,rv,q3⟩
 ·rename_i hp
  rw[hp]
  exact⟨z,H3,I4,rz,q3⟩
end
end L2
namespace L3
open PySem L2
inductive PV where
 |non|bl (b:Bool)|int (i:Int)|str (x:Str)|tup (xs:List PV)|ref (a:Addr)|ty (n:String)|ro (xs:List PV)
inductive MO where
 |lst (xs:List PV)|rl (xs:List PV)|dK (kvs:List (Key×PV))|rng (lo hi:Int)|ins (C dx:Addr) (fs:List (Str×PV))|exc (C:Addr)|rd (kvs:List (Key×PV))|dN (hf:NK→Int) (kvs:List (NK×PV))
noncomputable abbrev Gp:=Addr→Option MO
noncomputable def up(G:Gp)(a:Addr)(o:MO):Gp:=fun b=>if b=a then some o else G b
theorem up_same{G:Gp}{a:Addr}{o:MO}:up G a o a=some o:=by unfold up;rw[if_pos rfl]
theorem up_ne{G:Gp}{a b:Addr}{o:MO}(h:b≠a):up G a o b=G b:=by unfold up;rw[if_neg h]
theorem up_up{G:Gp}{a:Addr}{o u:MO}:up (up G a o) a u=up G a u:=by
 funext b;unfold up;split<;>rfl
theorem up_self{G:Gp}{a:Addr}{o:MO}(h:G a=some o):up G a o=G:=by
 funext b;unfold up;split
 ·rename_i e;rw[e,h]
 ·rfl
noncomputable def FzL(K:PySem.W.Frag)(H:Hp)(a:Addr)(xs:List V):Prop:=
 (∃o,H a=some (.frz o (.lst xs)))∨∃(o:Obj) (its:Array Value) (n:Nat),K.lookup a=some o∧o.cls= .type "list" ∧o.dict=none∧o.data= .seq its n∧its.size≤sizeLine∧Vals xs its.toList
theorem FzL.sq{K:PySem.W.Frag}{H:Hp}{a:Addr}{xs:List V}(h:FzL K H a xs):SqL K H a xs:=by
 rcases h with⟨o,h⟩|h
 ·exact .inl (.inr ⟨o,h⟩)
 ·exact .inr h
mutual
noncomputable def Dv(K:PySem.W.Frag)(H:Hp):PV→V→Prop
 | .non,v=>v= .non
 | .bl b,v=>v= .bl b
 | .int i,v=>v= .int i
 | .str x,v=>v= .str x
 | .tup ps,v=>∃a vs,v= .ref a∧SqT K H a vs∧Dvs K H ps vs
 | .ref a,v=>v= .ref a
 | .ty n,v=>v= .ty n
 | .ro ps,v=>∃a vs,v= .ref a∧FzL K H a vs∧Dvs K H ps vs
noncomputable def Dvs(K:PySem.W.Frag)(H:Hp):List PV→List V→Prop
 |[],vs=>vs=[]
 |p::ps,vs=>∃v r,vs=v::r∧Dv K H p v∧Dvs K H ps r
end
noncomputable def Keep(K:PySem.W.Frag)(H H':Hp):Prop:=(∀a xs,SqT K H a xs→SqT K H' a xs)∧∀a o u,H a=some (.frz o u)→H' a=some (.frz o u)
section
variable{K:PySem.W.Frag}{H H' H1 H2:Hp}
theorem Keep.refl:Keep K H H:=⟨fun _ _ h=>h,fun _ _ _ h=>h⟩
theorem Keep.trans(a:Keep K H H1)(b:Keep K H1 H2):Keep K H H2:=⟨fun c xs h=>b.1 c xs (a.1 c xs h),fun c o u h=>b.2 c o u (a.2 c o u h)⟩
theorem keep_mut{p:Addr}{o:HO}(h:∀xs,¬Rd H p (.tup xs))(hf:∀o u,H p≠some (.frz o u)):Keep K H (upd H p o):=⟨fun a xs q=>by
 rcases q with q|q
 ·have ne:a≠p:=fun z=>by subst z;exact h xs q
  refine .inl ?_
  rcases q with q|⟨o',q⟩
  ·exact .inl (by rw[upd_ne ne];exact q)
  ·exact .inr ⟨o',by rw[upd_ne ne];exact q⟩
 ·exact .inr q,fun a o' u q=>by
 have ne:a≠p:=fun z=>by subst z;exact hf o' u q
 rw[upd_ne ne];exact q⟩
theorem FzL.keep{a:Addr}{xs:List V}(k:Keep K H H')(h:FzL K H a xs):FzL K H' a xs:=by
 rcases h with⟨o,h⟩|h
 ·exact .inl ⟨o,k.2 _ _ _ h⟩
 ·exact .inr h
theorem keep_new{p:Addr}{o:HO}(h:H p=none):Keep K H (upd H p o):=keep_mut (fun xs q=>by
 rcases q with q|⟨o',q⟩<;>(rw[h]at q;cases q)) fun o u q=>by rw[h]at q;cases q
theorem keep_lst{p:Addr}{o:HO}{ys:List V}(h:H p=some (.lst ys)):Keep K H (upd H p o):=keep_mut (fun xs q=>by
 rcases q with q|⟨o',q⟩<;>(rw[h]at q;cases q)) fun o u q=>by rw[h]at q;cases q
mutual
theorem Dv.keep(k:Keep K H H'):∀(p:PV) {v:V},Dv K H p v→Dv K H' p v
 | .non,_,h=>h
 | .bl _,_,h=>h
 | .int _,_,h=>h
 | .str _,_,h=>h
 | .tup ps,_,h=>by
  obtain⟨a,vs,e,q,r⟩:=h
  exact⟨a,vs,e,k.1 a vs q,Dvs.keep k ps r⟩
 | .ref _,_,h=>h
 | .ty _,_,h=>h
 | .ro ps,_,h=>by
  obtain⟨a,vs,e,q,r⟩:=h
  exact⟨a,vs,e,q.keep k,Dvs.keep k ps r⟩
theorem Dvs.keep(k:Keep K H H'):∀(ps:List PV) {vs:List V},Dvs K H ps vs→Dvs K H' ps vs
 |[],_,h=>h
 |p::ps,_,h=>by
  obtain⟨v,r,e,q,z⟩:=h
  exact⟨v,r,e,Dv.keep k p q,Dvs.keep k ps z⟩
end
theorem Dvs.length:∀{ps:List PV} {vs:List V},Dvs K H ps vs→vs.length=ps.length
 |[],_,h=>by rw[show _=[]from h];rfl
 |p::ps,_,h=>by
  obtain⟨v,r,rfl,_,z⟩:=h
  rw[List.length_cons,List.length_cons,Dvs.length z]
theorem Dvs.get:∀{ps:List PV} {vs:List V} {i:Nat} {v:V},Dvs K H ps vs→vs[i]? =some v→∃p,ps[i]? =some p∧Dv K H p v
 |[],_,i,v,h,e=>by rw[show _=[]from h]at e;simp at e
 |p::ps,_,0,v,h,e=>by
  obtain⟨v',r,rfl,q,z⟩:=h
  have:v'=v:=by simpa using e
  subst this
  exact⟨p,rfl,q⟩
 |p::ps,_,i+1,v,h,e=>by
  obtain⟨v',r,rfl,q,z⟩:=h
  obtain⟨p',e1,q1⟩:=Dvs.get (i:=i) z (by simpa using e)
  exact⟨p',by simpa using e1,q1⟩
theorem Dvs.at:∀{ps:List PV} {vs:List V} {i:Nat} {p:PV},Dvs K H ps vs→ps[i]? =some p→∃v,vs[i]? =some v∧Dv K H p v:=fun{ps vs i p} h e=>by
 have hl:=h.length
 have hi:i<vs.length:=by rw[hl];exact(List.getElem?_eq_some_iff.mp e).1
 obtain⟨p',e',q⟩:=h.get (List.getElem?_eq_getElem hi)
 rw[e]at e';cases e'
 exact⟨_,List.getElem?_eq_getElem hi,q⟩
theorem Dvs.append:∀{ps qs:List PV} {vs us:List V},Dvs K H ps vs→Dvs K H qs us→Dvs K H (ps++qs) (vs++us)
 |[],_,_,_,h,g=>by rw[show _=[]from h];exact g
 |p::ps,_,_,_,h,g=>by
  obtain⟨v,r,rfl,q,z⟩:=h
  exact⟨v,r++_,rfl,q,Dvs.append z g⟩
theorem Dvs.nil:Dvs K H [] []:=rfl
theorem Dvs.cons{p:PV}{ps:List PV}{v:V}{vs:List V}(a:Dv K H p v)(b:Dvs K H ps vs):Dvs K H (p::ps) (v::vs):=⟨v,vs,rfl,a,b⟩
theorem Dvs.take:∀{ps:List PV} {vs:List V} (n:Nat),Dvs K H ps vs→Dvs K H (ps.take n) (vs.take n)
 |_,_,0,_=>rfl
 |[],_,n+1,h=>by rw[show _=[]from h];rfl
 |p::ps,_,n+1,h=>by
  obtain⟨v,r,rfl,q,z⟩:=h
  exact⟨v,_,rfl,q,Dvs.take n z⟩
theorem Dvs.drop:∀{ps:List PV} {vs:List V} (n:Nat),Dvs K H ps vs→Dvs K H (ps.drop n) (vs.drop n)
 |_,_,0,h=>h
 |[],_,n+1,h=>by rw[show _=[]from h];rfl
 |p::ps,_,n+1,h=>by
  obtain⟨v,r,rfl,q,z⟩:=h
  exact Dvs.drop n z
theorem Dvs.set{p:PV}{v:V}(a:Dv K H p v):∀{ps:List PV} {vs:List V} (i:Nat),Dvs K H ps vs→Dvs K H (ps.set i p) (vs.set i v)
 |[],_,_,h=>by rw[show _=[]from h];rfl
 |q::ps,_,0,h=>by
  obtain⟨v',r,rfl,_,z⟩:=h
  exact⟨v,r,rfl,a,z⟩
 |q::ps,_,i+1,h=>by
  obtain⟨v',r,rfl,b,z⟩:=h
  exact⟨v',_,rfl,b,Dvs.set a i z⟩
end
noncomputable def DKv(K:PySem.W.Frag)(H:Hp):List (Key×PV)→List (Key×V)→Prop
 |[],vs=>vs=[]
 |(k,p)::ps,vs=>∃v r,vs=(k,v)::r∧Dv K H p v∧DKv K H ps r
noncomputable def DFv(K:PySem.W.Frag)(H:Hp):List (Str×PV)→List (Str×V)→Prop
 |[],vs=>vs=[]
 |(k,p)::ps,vs=>∃v r,vs=(k,v)::r∧Dv K H p v∧DFv K H ps r
noncomputable def NKv(K:PySem.W.Frag)(H:Hp):List (NK×PV)→List (NK×Addr×Value)→Prop
 |[],xs=>xs=[]
 |(k,p)::ps,xs=>∃b v u r,xs=(k,b,u)::r∧KeyAt K H b k∧Dv K H p v∧RelV v u∧NKv K H ps r
noncomputable def RepO(K:PySem.W.Frag)(H:Hp)(a:Addr):MO→Prop
 | .lst ps=>∃vs,H a=some (.lst vs)∧Dvs K H ps vs
 | .rl ps=>∃vs,Rd H a (.lst vs)∧Dvs K H ps vs
 | .dK kvs=>∃vs,H a=some (.dK vs)∧DKv K H kvs vs
 | .rng lo hi=>H a=some (.rng lo hi)
 | .ins C dx fs=>∃vs,H a=some (.ins C dx vs)∧DFv K H fs vs
 | .exc C=>H a=some (excO a C)
 | .rd kvs=>∃vs,Rd H a (.dK vs)∧DKv K H kvs vs
 | .dN hf kvs=>∃xs,H a=some (nD a hf xs)∧NKv K H kvs xs
noncomputable def Rep(K:PySem.W.Frag)(H:Hp)(G:Gp):Prop:=∀a o,G a=some o→RepO K H a o
section
variable{K:PySem.W.Frag}{H H':Hp}{G G':Gp}{p:Addr}
theorem DKv.keep(k:Keep K H H'):∀(ps:List (Key×PV)) {vs:List (Key×V)},DKv K H ps vs→DKv K H' ps vs
 |[],_,h=>h
 |(x,p)::ps,_,h=>by
  obtain⟨v,r,e,q,z⟩:=h
  exact⟨v,r,e,Dv.keep k p q,DKv.keep k ps z⟩
theorem DFv.keep(k:Keep K H H'):∀(ps:List (Str×PV)) {vs:List (Str×V)},DFv K H ps vs→DFv K H' ps vs
 |[],_,h=>h
 |(x,p)::ps,_,h=>by
  obtain⟨v,r,e,q,z⟩:=h
  exact⟨v,r,e,Dv.keep k p q,DFv.keep k ps z⟩
theorem NKv.keep(k:Keep K H H'):∀(ps:List (NK×PV)) {xs:List (NK×Addr×Value)},NKv K H ps xs→NKv K H' ps xs
 |[],_,h=>h
 |(x,p)::ps,_,h=>by
  obtain⟨b,v,u,r,e,⟨c,h1,h2⟩,q,rv,z⟩:=h
  exact⟨b,v,u,r,e,⟨c,k.1 _ _ h1,k.1 _ _ h2⟩,Dv.keep k p q,rv,NKv.keep k ps z⟩
theorem RepO.some{o:MO}(h:RepO K H p o):∃u,H p=some u:=by
 cases o with
 |lst ps=>obtain⟨vs,e,_⟩:=h;exact⟨_,e⟩
 |rl ps=>
  obtain⟨vs,e,_⟩:=h
  rcases e with e|⟨o,e⟩
  ·exact⟨_,e⟩
  ·exact⟨_,e⟩
 |dK ps=>obtain⟨vs,e,_⟩:=h;exact⟨_,e⟩
 |rng lo hi=>exact⟨_,h⟩
 |ins C dx fs=>obtain⟨vs,e,_⟩:=h;exact⟨_,e⟩
 |exc C=>exact⟨_,h⟩
 |rd ps=>
  obtain⟨vs,e,_⟩:=h
  rcases e with e|⟨o,e⟩
  ·exact⟨_,e⟩
  ·exact⟨_,e⟩
 |dN hf ps=>obtain⟨xs,e,_⟩:=h;exact⟨_,e⟩
theorem Rep.none(r:Rep K H G)(h:H p=none):G p=none:=by
 cases e:G p with
 |none=>rfl
 |some o=>
  obtain⟨u,z⟩:=(r p o e).some
  rw[h]at z;cases z
theorem RepO.upd{a:Addr}{o:MO}{ho:HO}(k:Keep K H (upd H p ho))(ne:a≠p)(h:RepO K H a o):RepO K (L2.upd H p ho) a o:=by
 cases o with
 |lst ps=>obtain⟨vs,e,d⟩:=h;exact⟨vs,by rw[upd_ne ne];exact e,d.keep k⟩
 |rl ps=>
  obtain⟨vs,e,d⟩:=h
  refine⟨vs,?_,d.keep k⟩
  rcases e with e|⟨o,e⟩
  ·exact .inl (by rw[upd_ne ne];exact e)
  ·exact .inr ⟨o,by rw[upd_ne ne];exact e⟩
 |dK ps=>obtain⟨vs,e,d⟩:=h;exact⟨vs,by rw[upd_ne ne];exact e,d.keep k⟩
 |rng lo hi=>show L2.upd H p ho a=_;rw[upd_ne ne];exact h
 |ins C dx fs=>obtain⟨vs,e,d⟩:=h;exact⟨vs,by rw[upd_ne ne];exact e,DFv.keep k _ d⟩
 |exc C=>show L2.upd H p ho a=_;rw[upd_ne ne];exact h
 |rd ps=>
  obtain⟨vs,e,d⟩:=h
  refine⟨vs,?_,d.keep k⟩
  rcases e with e|⟨o,e⟩
  ·exact .inl (by rw[upd_ne ne];exact e)
  ·exact .inr ⟨o,by rw[upd_ne ne];exact e⟩
 |dN hf ps=>obtain⟨xs,e,d⟩:=h;exact⟨xs,by rw[upd_ne ne];exact e,d.keep k⟩
theorem Rep.upd{ho:HO}(r:Rep K H G)(k:Keep K H (upd H p ho))(hG:∀a o,G' a=some o→a≠p→G a=some o)(hp:∀o,G' p=some o→RepO K (L2.upd H p ho) p o):Rep K (L2.upd H p ho) G':=fun a o e=>by
 by_cases hb:a=p
 ·subst hb;exact hp o e
 ·exact(r a o (hG a o e hb)).upd k hb
theorem Rep.tup{vs:List V}(r:Rep K H G)(h:H p=Option.none):Rep K (L2.upd H p (.tup vs)) G:=r.upd (keep_new h) (fun _ _ e _=>e) fun o e=>by rw[r.none h]at e;cases e
theorem Rep.new{vs:List V}{ps:List PV}(r:Rep K H G)(h:H p=Option.none)(d:Dvs K H ps vs):Rep K (L2.upd H p (.lst vs)) (up G p (.lst ps)):=by
 refine r.upd (keep_new h) (fun a o e ne=>by rw[up_ne ne]at e;exact e) fun o e=> ?_
 rw[up_same]at e;cases e
 exact⟨vs,upd_same,d.keep (keep_new h)⟩
theorem Rep.put{vs vs0:List V}{ps:List PV}(r:Rep K H G)(h:H p=Option.some (.lst vs0))(d:Dvs K H ps vs):Rep K (L2.upd H p (.lst vs)) (up G p (.lst ps)):=by
 refine r.upd (keep_lst h) (fun a o e ne=>by rw[up_ne ne]at e;exact e) fun o e=> ?_
 rw[up_same]at e;cases e
 exact⟨vs,upd_same,d.keep (keep_lst h)⟩
theorem Rep.sub(r:Rep K H G)(h:∀a o,G' a=Option.some o→G a=Option.some o):Rep K H G':=fun a o e=>r a o (h a o e)
theorem Rep.lst{ps:List PV}{a:Addr}(r:Rep K H G)(h:G a=Option.some (.lst ps)):∃vs,H a=Option.some (.lst vs)∧Dvs K H ps vs:=r a _ h
end
noncomputable abbrev St2:=List (Option PV)
noncomputable abbrev K2:=PV→Gp→Prop
noncomputable abbrev E2:=St2→Gp→K2→Prop
noncomputable abbrev T2:=St2→Gp→(Bool→Gp→Prop)→Prop
noncomputable abbrev A2:=St2→Gp→(List PV→Gp→Prop)→Prop
structure D2 where
 nx:St2→Gp→Prop
 rt:K2
 bk:St2→Gp→Prop:=fun _ _=>False
 ct:St2→Gp→Prop:=fun _ _=>False
noncomputable abbrev S2:=D2→St2→Gp→Prop
@[reducible] noncomputable def gt:St2→Nat→Option PV
 |[],_=>none
 |x::_,0=>x
 |_::r,n+1=>gt r n
@[reducible] noncomputable def st:St2→Nat→Option PV→St2
 |[],_,_=>[]
 |_::r,0,v=>v::r
 |x::r,n+1,v=>x::st r n v
theorem gt_eq:∀(τ:St2) (i:Nat),gt τ i=(τ[i]?).getD none
 |[],i=>by simp[gt]
 |x::_,0=>by simp[gt]
 |_::r,n+1=>by simp[gt,gt_eq r n]
theorem gt_some{τ:St2}{i:Nat}{p:PV}(h:gt τ i=some p):τ[i]? =some (some p):=by
 rw[gt_eq]at h
 cases e:τ[i]? with
 |none=>rw[e]at h;cases h
 |some z=>rw[e]at h;exact congrArg some h
theorem st_set:∀(τ:St2) (i:Nat) (v:Option PV),st τ i v=τ.set i v
 |[],_,_=>rfl
 |_::_,0,_=>rfl
 |x::r,n+1,v=>by simp[st,st_set r n v]
noncomputable def RSt(K:PySem.W.Frag)(H:Hp)(σ:St)(τ:St2):Prop:=τ.length=σ.length∧∀(i:Nat) p,τ[i]? =some (some p)→∃v,σ[i]? =some (some v)∧Dv K H p v
theorem RSt.keep{K:PySem.W.Frag}{H H':Hp}{σ:St}{τ:St2}(r:RSt K H σ τ)(k:Keep K H H'):RSt K H' σ τ:=⟨r.1,fun i p e=>let⟨v,a,b⟩:=r.2 i p e;⟨v,a,b.keep k⟩⟩
theorem RSt.set0{K:PySem.W.Frag}{H:Hp}{σ:St}{τ:St2}{p:PV}{v:V}(r:RSt K H σ τ)(d:Dv K H p v)(i:Nat):RSt K H (σ.set i (some v)) (τ.set i (some p)):=by
 refine⟨by simp[r.1],fun j q e=> ?_⟩
 by_cases hj:i=j
 ·subst hj
  have hi:i<τ.length:=by
   have:=(List.getElem?_eq_some_iff.mp e).1
   simpa using this
  rw[List.getElem?_set_self hi]at e
  cases e
  exact⟨v,by rw[List.getElem?_set_self (by rw[←r.1];exact hi)],d⟩
 ·rw[List.getElem?_set_ne hj]at e⊢
  exact r.2 j q e
theorem RSt.set{K:PySem.W.Frag}{H:Hp}{σ:St}{τ:St2}{p:PV}{v:V}(r:RSt K H σ τ)(d:Dv K H p v)(i:Nat):RSt K H (σ.set i (some v)) (st τ i (some p)):=by
 rw[st_set];exact r.set0 d i
noncomputable def Cl(K:PySem.W.Frag)(H:Hp)(Q2:K2)(Q:VK):Prop:=∀p G v H',Q2 p G→Dv K H' p v→Rep K H' G→Keep K H H'→Q v H'
noncomputable def ClT(K:PySem.W.Frag)(H:Hp)(Q2:Bool→Gp→Prop)(Q:Bool→Hp→Prop):Prop:=∀b G H',Q2 b G→Rep K H' G→Keep K H H'→Q b H'
noncomputable def ClS(K:PySem.W.Frag)(H:Hp)(Q2:St2→Gp→Prop)(Q:St→Hp→Prop):Prop:=∀τ G σ H',Q2 τ G→RSt K H' σ τ→Rep K H' G→Keep K H H'→Q σ H'
theorem Cl.keep{K:PySem.W.Frag}{H H':Hp}{Q2:K2}{Q:VK}(c:Cl K H Q2 Q)(k:Keep K H H'):Cl K H' Q2 Q:=fun p G v H2 q d r k2=>c p G v H2 q d r (k.trans k2)
theorem ClT.keep{K:PySem.W.Frag}{H H':Hp}{Q2:Bool→Gp→Prop}{Q:Bool→Hp→Prop}(c:ClT K H Q2 Q)(k:Keep K H H'):ClT K H' Q2 Q:=fun p G H2 q r k2=>c p G H2 q r (k.trans k2)
theorem ClS.keep{K:PySem.W.Frag}{H H':Hp}{Q2:St2→Gp→Prop}{Q:St→Hp→Prop}(c:ClS K H Q2 Q)(k:Keep K H H'):ClS K H' Q2 Q:=fun p G v H2 q d r k2=>c p G v H2 q d r (k.trans k2)
noncomputable def lowE(K:PySem.W.Frag)(t:E2):TE:=fun σ H Q=>∃τ G Q2,RSt K H σ τ∧Rep K H G∧t τ G Q2∧Cl K H Q2 Q
noncomputable def lowT(K:PySem.W.Frag)(t:T2):TT:=fun σ H Q=>∃τ G Q2,RSt K H σ τ∧Rep K H G∧t τ G Q2∧ClT K H Q2 Q
noncomputable def lowA(K:PySem.W.Frag)(t:A2):TA:=fun σ H Q=>∃τ G Q2,RSt K H σ τ∧Rep K H G∧t τ G Q2∧∀ps G' vs H',Q2 ps G'→Dvs K H' ps vs→Rep K H' G'→Keep K H H'→Q vs H'
structure ClD(K:PySem.W.Frag)(H:Hp)(D2:D2)(D:Ends):Prop where
 nx:ClS K H D2.nx D.nx
 rt:Cl K H D2.rt D.rt
 bk:ClS K H D2.bk D.bk
 ct:ClS K H D2.ct D.ct
theorem ClD.keep{K:PySem.W.Frag}{H H':Hp}{Q2:L3.D2}{Q:Ends}(c:ClD K H Q2 Q)(k:Keep K H H'):ClD K H' Q2 Q:=⟨c.nx.keep k,c.rt.keep k,c.bk.keep k,c.ct.keep k⟩
noncomputable def lowS(K:PySem.W.Frag)(t:S2):TS:=fun D σ H=>∃τ G D2,RSt K H σ τ∧Rep K H G∧t D2 τ G∧ClD K H D2 D
structure JE(X:Cx)(e:Expr)(t:E2):Prop where
 h:PE X e (lowE X.K t)
structure JT(X:Cx)(e:Expr)(t:T2):Prop where
 h:PT X e (lowT X.K t)
structure JW(X:Cx)(e:Expr)(t:T2):Prop where
 h:PW X e (lowT X.K t)
structure JA(X:Cx)(es:List Expr)(t:A2):Prop where
 h:PA X es (lowA X.K t)
structure JS(X:Cx)(st:Stmt)(t:S2):Prop where
 h:PS X st (lowS X.K t)
structure JB(X:Cx)(st:List Stmt)(t:S2):Prop where
 h:PSs X st (lowS X.K t)
section
variable{X:Cx}{e:Expr}
theorem JE.of{t:E2}{u:TE}(h:PE X e u)(w:∀σ H Q,lowE X.K t σ H Q→u σ H Q):JE X e t:=⟨fun pins s σ H Q I q=>h pins s σ H Q I (w σ H Q q)⟩
theorem JT.of{t:T2}{u:TT}(h:PT X e u)(w:∀σ H Q,lowT X.K t σ H Q→u σ H Q):JT X e t:=⟨fun pins s σ H Q I q=>h pins s σ H Q I (w σ H Q q)⟩
theorem JW.of{t:T2}{u:TT}(h:PW X e u)(w:∀σ H Q,lowT X.K t σ H Q→u σ H Q):JW X e t:=⟨fun wh pins s σ H Q I q=>h wh pins s σ H Q I (w σ H Q q)⟩
theorem JA.of{es:List Expr}{t:A2}{u:TA}(h:PA X es u)(w:∀σ H Q,lowA X.K t σ H Q→u σ H Q):JA X es t:=⟨fun pos pins s σ H Q I q=>h pos pins s σ H Q I (w σ H Q q)⟩
theorem JS.of{st:Stmt}{t:S2}{u:TS}(h:PS X st u)(w:∀D σ H,lowS X.K t D σ H→u D σ H):JS X st t:=⟨fun pins s σ H D I q=>h pins s σ H D I (w D σ H q)⟩
theorem JB.of{st:List Stmt}{t:S2}{u:TS}(h:PSs X st u)(w:∀D σ H,lowS X.K t D σ H→u D σ H):JB X st t:=⟨fun pins s σ H D I q=>h pins s σ H D I (w D σ H q)⟩
end
noncomputable def way2(b:Bool)(A B:Prop):Prop:=match b with
 |true=>A
 |false=>B
theorem ifT{c:Bool}{A B:Prop}(e:c=true)(h:A):way2 c A B:=by subst e;exact h
theorem ifF{c:Bool}{A B:Prop}(e:c=false)(h:B):way2 c A B:=by subst e;exact h
theorem ifB{c:Bool}{A B:Prop}(h:c=true→A)(h2:c=false→B):way2 c A B:=by cases c with|true=>exact h rfl|false=>exact h2 rfl
noncomputable abbrev eV(i:Nat):E2:=fun τ G Q=>match gt τ i with
 |some p=>Q p G
 |none=>False
noncomputable abbrev eC(p:PV):E2:=fun _ G Q=>Q p G
noncomputable abbrev aNil:A2:=fun _ G Q=>Q [] G
noncomputable abbrev aCons(t:E2)(u:A2):A2:=fun τ G Q=>t τ G fun p G1=>u τ G1 fun ps G2=>Q (p::ps) G2
noncomputable abbrev eTup(t:A2):E2:=fun τ G Q=>t τ G fun ps G1=>ps.length≤1000∧Q (.tup ps) G1
noncomputable abbrev eLst(t:A2):E2:=fun τ G Q=>t τ G fun ps G1=>ps.length≤1000∧∀p,G1 p=none→Q (.ref p) (up G1 p (.lst ps))
noncomputable abbrev B2:=PV→PV→Gp→K2→Prop
noncomputable def lowB(K:PySem.W.Frag)(r:B2):R2:=fun x y H Q=>∃p q G Q2,Dv K H p x∧Dv K H q y∧Rep K H G∧r p q G Q2∧Cl K H Q2 Q
noncomputable abbrev eOp(r:B2)(ta tb:E2):E2:=fun τ G Q=>ta τ G fun x G1=>tb τ G1 fun y G2=>r x y G2 Q
noncomputable abbrev U2:=PV→Gp→K2→Prop
noncomputable def lowU(K:PySem.W.Frag)(r:U2):V→Hp→VK→Prop:=fun x H Q=>∃p G Q2,Dv K H p x∧Rep K H G∧r p G Q2∧Cl K H Q2 Q
noncomputable abbrev eUn(r:U2)(ta:E2):E2:=fun τ G Q=>ta τ G fun x G1=>r x G1 Q
noncomputable abbrev C2:=List PV→Gp→K2→Prop
noncomputable def lowC(K:PySem.W.Frag)(r:C2):List V→Hp→VK→Prop:=fun xs H Q=>∃ps G Q2,Dvs K H ps xs∧Rep K H G∧r ps G Q2∧Cl K H Q2 Q
noncomputable abbrev eCl(r:C2)(t:A2):E2:=fun τ G Q=>t τ G fun ps G1=>r ps G1 Q
noncomputable abbrev M2:=PV→List PV→Gp→K2→Prop
noncomputable def lowM(K:PySem.W.Frag)(r:M2):V→List V→Hp→VK→Prop:=fun x xs H Q=>∃p ps G Q2,Dv K H p x∧Dvs K H ps xs∧Rep K H G∧r p ps G Q2∧Cl K H Q2 Q
noncomputable abbrev tBl(t:E2):T2:=fun τ G Q=>t τ G fun x G1=>match x with
 | .bl b=>Q b G1
 |_=>False
noncomputable abbrev tNo(t:T2):T2:=fun τ G Q=>t τ G fun b G1=>Q (!b) G1
noncomputable abbrev tOr2(t u:T2):T2:=fun τ G Q=>t τ G fun b G1=>way2 b (Q true G1) (u τ G1 Q)
noncomputable abbrev tAnd2(t u:T2):T2:=fun τ G Q=>t τ G fun b G1=>way2 b (u τ G1 Q) (Q false G1)
noncomputable abbrev eAnd2(t u:E2):E2:=fun τ G Q=>t τ G fun x G1=>match x with
 | .bl b=>way2 b (u τ G1 Q) (Q (.bl false) G1)
 |_=>False
noncomputable abbrev eIf2(c:T2)(t u:E2):E2:=fun τ G Q=>c τ G fun b G1=>way2 b (t τ G1 Q) (u τ G1 Q)
section
variable{X:Cx}{a b c e:Expr}{es:List Expr}{ta tb:E2}{t:A2}{tA tB:T2}{pos p:Pos}{x:Str}
theorem jv(i:Nat)(hN:X.N[i]? =some x:=by rfl)(hv:Vis X.env.scope x:=by first|exact Or.inl rfl|exact Or.inr (Or.inl rfl)|exact Or.inr (Or.inr rfl))(hd:(x==("__debug__" :Str))=false:=by decide)
  (hcd:(x==("__classdict__" :Str))=false:=by decide):JE X (.Name x pos) (eV i):= .of (pe_var hN hv hd hcd) fun σ H Q ⟨τ,G,Q2,rs,rp,h,cl⟩=>by
 unfold eV at h
 split at h
 ·rename_i p e
  obtain⟨v,ev,d⟩:=rs.2 i p (gt_some e)
  exact⟨v,ev,cl _ _ _ _ h d rp .refl⟩
 ·exact h.elim
theorem JE.const{p:PV}{v:V}(h:PE X e (tC v))(d:∀H,Dv X.K H p v):JE X e (eC p):= .of h fun σ H Q hPl=>by obtain⟨τ,G,Q2,rs,rp,q,cl⟩:=hPl;exact cl _ _ _ _ q (d H) rp .refl
theorem j_int{i:Int}{j:Nat}:JE X (.Constant (.int i) j pos) (eC (.int i)):= .const pe_int fun _=>rfl
theorem j_bl{v:Bool}{j:Nat}:JE X (.Constant (.bool v) j pos) (eC (.bl v)):= .const pe_bl fun _=>rfl
theorem j_non{j:Nat}:JE X (.Constant .none j pos) (eC .non):= .const pe_non fun _=>rfl
theorem j_str{z:Str}{j:Nat}:JE X (.Constant (.str z) j pos) (eC (.str z)):= .const pe_str fun _=>rfl
theorem j_glob{v:V}{q:PV}{u:Value}(hm:X.mg x=some u)(r:RelV v u)(d:∀H,Dv X.K H q v)(hg:Gl X x:=by rfl)(hd:(x==("__debug__" :Str))=false:=by decide):JE X (.Name x pos) (eC q):= .const (pe_glob hg hm r hd) d
theorem j_ty{T:String}(hm:X.mg x=none)(hv:bootBuiltins x=some (.type T))(hg:Gl X x:=by rfl)(hn:x≠ "__name__" :=by decide)(hd:(x==("__debug__" :Str))=false:=by decide):JE X (.Name x pos) (eC (.ty T)):=
 .const (pe_bltn (v:= .ty T) hg hm hv rfl hn hd) fun _=>rfl
theorem ja_nil:JA X [] aNil:= .of pa_nil fun σ H Q hPl=>by obtain⟨τ,G,Q2,rs,rp,q,cl⟩:=hPl;exact cl _ _ _ _ q .nil rp .refl
theorem ja_cons(ha:JE X e ta)(hr:JA X es t)(hs:starEach (e::es) X.env=(false,eval e X.env)::starEach es X.env:=by rfl):JA X (e::es) (aCons ta t):= .of (pa_cons ha.h hr.h hs) fun σ H Q hPl=>by
 obtain⟨τ,G,Q2,rs,rp,q,cl⟩:=hPl
 refine⟨τ,G,_,rs,rp,q,fun p G1 v H1 q1 d1 r1 k1=> ?_⟩
 exact⟨τ,G1,_,rs.keep k1,r1,q1,fun ps G2 vs H2 q2 d2 r2 k2=>cl _ _ _ _ q2 (.cons (d1.keep k2) d2) r2 (k1.trans k2)⟩
theorem j_tup{x1:Nat}(h:JA X es t):JE X (.Tuple es x1 pos) (eTup t):= .of (pe_tup h.h) fun σ H Q hPl=>by
 obtain⟨τ,G,Q2,rs,rp,q,cl⟩:=hPl
 refine⟨τ,G,_,rs,rp,q,fun ps G1 vs H1 q1 d1 r1 k1=> ?_⟩
 obtain⟨hl,q1⟩:=q1
 refine⟨by rw[d1.length];exact Nat.le_trans hl (by decide),fun a ha=> ?_⟩
 have kn:Keep X.K H1 (upd H1 a (.tup vs)):=keep_new ha
 exact cl _ _ _ _ q1 ⟨a,vs,rfl,.of upd_same,d1.keep kn⟩ (r1.tup ha) (k1.trans kn)
theorem j_lst(h:JA X es t):JE X (.List es pos) (eLst t):= .of (pe_lst h.h) fun σ H Q hPl=>by
 obtain⟨τ,G,Q2,rs,rp,q,cl⟩:=hPl
 refine⟨τ,G,_,rs,rp,q,fun ps G1 vs H1 q1 d1 r1 k1=> ?_⟩
 obtain⟨hl,q1⟩:=q1
 refine⟨by rw[d1.length];exact Nat.le_trans hl (by decide),fun a ha=> ?_⟩
 have kn:Keep X.K H1 (upd H1 a (.lst vs)):=keep_new ha
 exact cl _ _ _ _ (q1 a (r1.none ha)) rfl (r1.new ha d1) (k1.trans kn)
theorem low_op{r:B2}{σ:St}{H:Hp}{Q:VK}(q:lowE X.K (eOp r ta tb) σ H Q):tOp (lowB X.K r) (lowE X.K ta) (lowE X.K tb) σ H Q:=by
 obtain⟨τ,G,Q2,rs,rp,q,cl⟩:=q
 refine⟨τ,G,_,rs,rp,q,fun p G1 v H1 q1 d1 r1 k1=>⟨τ,G1,_,rs.keep k1,r1,q1,fun p2 G2 v2 H2 q2 d2 r2 k2=> ?_⟩⟩
 exact⟨p,p2,G2,Q2,d1.keep k2,d2,r2,q2,cl.keep (k1.trans k2)⟩
theorem j_op{op:Operator}{r:B2}(ho:OpR X (binaryOp op) (lowB X.K r))(ha:JE X a ta)(hb:JE X b tb):JE X (.BinOp a op b pos) (eOp r ta tb):= .of (pe_op ho ha.h hb.h) fun σ H Q q=>low_op q
theorem j_cmp{op:CmpOp}{r:B2}(ho:OpR X (compareOp op) (lowB X.K r))(ha:JE X a ta)(hb:JE X b tb)(hm:behindInMarks op b=false):JE X (.Compare a [op] [b] pos) (eOp r ta tb):= .of (pe_cmpR ho ha.h hb.h hm) fun σ H Q q=>low_op q
theorem low_tBl{u:TE}(w:∀σ H Q,lowE X.K ta σ H Q→u σ H Q){σ:St}{H:Hp}{Q:Bool→Hp→Prop}(q:lowT X.K (tBl ta) σ H Q):tTest u σ H Q:=by
 obtain⟨τ,G,Q2,rs,rp,q,cl⟩:=q
 refine w _ _ _ ⟨τ,G,_,rs,rp,q,fun p G1 v H1 q1 d1 r1 k1=> ?_⟩
 cases p with
 |bl b=>
  obtain rfl:v= .bl b:=d1
  exact⟨b,rfl,cl _ _ _ q1 r1 k1⟩
 |_=>exact False.elim q1
theorem jt_cmp{op:CmpOp}{r:B2}(ho:OpR X (compareOp op) (lowB X.K r))(ha:JE X a ta)(hb:JE X b tb)(hm:behindInMarks op b=false):JT X (.Compare a [op] [b] pos) (tBl (eOp r ta tb)):= .of (pt_cmpR ho ha.h hb.h hm) fun σ H Q q=>low_tBl (fun _ _ _ z=>low_op z) q
theorem jt_val(h:JE X e ta)(he:∀whole,isTrue e X.env whole=(do let v ←whole;standAt e.pos;holding [v] (truthy v)):=by intro _;rfl):JT X e (tBl ta):= .of (pt_val h.h he) fun σ H Q q=>low_tBl (fun _ _ _ z=>z) q
theorem jt_not(ha:JT X a tA):JT X (.UnaryOp .Not a pos) (tNo tA):= .of (pt_not ha.h) fun σ H Q hPl=>by obtain⟨τ,G,Q2,rs,rp,q,cl⟩:=hPl;exact⟨τ,G,_,rs,rp,q,fun b G1 H1 q1 r1 k1=>cl _ _ _ q1 r1 k1⟩
theorem jw_or1(ha:JT X a tA):JW X (.BoolOp .Or [a] pos) tA:=⟨pw_or1 ha.h⟩
theorem jw_and1(ha:JT X a tA):JW X (.BoolOp .And [a] pos) tA:=⟨pw_and1 ha.h⟩
theorem jw_or{rest:List Expr}(ha:JT X a tA)(hb:JW X (.BoolOp .Or (b::rest) pos) tB):JW X (.BoolOp .Or (a::b::rest) pos) (tOr2 tA tB):= .of (pw_or ha.h hb.h) fun σ H Q hPl=>by
 obtain⟨τ,G,Q2,rs,rp,q,cl⟩:=hPl
 refine⟨τ,G,_,rs,rp,q,fun b G1 H1 q1 r1 k1=> ?_⟩
 cases b with
 |true=>exact iteT (cl _ _ _ q1 r1 k1)
 |false=>exact iteF ⟨τ,G1,Q2,rs.keep k1,r1,q1,cl.keep k1⟩
theorem jw_and{rest:List Expr}(ha:JT X a tA)(hb:JW X (.BoolOp .And (b::rest) pos) tB):JW X (.BoolOp .And (a::b::rest) pos) (tAnd2 tA tB):= .of (pw_and ha.h hb.h) fun σ H Q hPl=>by
 obtain⟨τ,G,Q2,rs,rp,q,cl⟩:=hPl
 refine⟨τ,G,_,rs,rp,q,fun b G1 H1 q1 r1 k1=> ?_⟩
 cases b with
 |true=>exact iteT ⟨τ,G1,Q2,rs.keep k1,r1,q1,cl.keep k1⟩
 |false=>exact iteF (cl _ _ _ q1 r1 k1)
theorem JW.jt(h:JW X e tA):JT X e tA:=⟨h.h.pt⟩
theorem j_one{op:BoolOp}(h:JE X a ta):JE X (.BoolOp op [a] pos) ta:=⟨pe_one h.h⟩
theorem j_and{rest:List Expr}(ha:JE X a ta)(hb:JE X (.BoolOp .And (b::rest) pos) tb):JE X (.BoolOp .And (a::b::rest) pos) (eAnd2 ta tb):= .of (pe_and ha.h hb.h) fun σ H Q hPl=>by
 obtain⟨τ,G,Q2,rs,rp,q,cl⟩:=hPl
 refine⟨τ,G,_,rs,rp,q,fun p G1 v H1 q1 d1 r1 k1=> ?_⟩
 cases p with
 |bl b=>
  obtain rfl:v= .bl b:=d1
  refine⟨b,rfl,?_⟩
  cases b with
  |true=>exact iteT ⟨τ,G1,Q2,rs.keep k1,r1,q1,cl.keep k1⟩
  |false=>exact iteF (cl _ _ _ _ q1 rfl r1 k1)
 |_=>exact False.elim q1
theorem j_ifE(hc:JT X c tA)(ha:JE X a ta)(hb:JE X b tb):JE X (.IfExp c a b pos) (eIf2 tA ta tb):= .of (pe_ifExp hc.h ha.h hb.h) fun σ H Q hPl=>by
 obtain⟨τ,G,Q2,rs,rp,q,cl⟩:=hPl
 refine⟨τ,G,_,rs,rp,q,fun b G1 H1 q1 r1 k1=> ?_⟩
 cases b with
 |true=>exact iteT ⟨τ,G1,Q2,rs.keep k1,r1,q1,cl.keep k1⟩
 |false=>exact iteF ⟨τ,G1,Q2,rs.keep k1,r1,q1,cl.keep k1⟩
theorem j_un{op:UnaryOp}{r:U2}(ho:UnR X (unaryOp op) (lowU X.K r))(ha:JE X a ta):JE X (.UnaryOp op a pos) (eUn r ta):= .of (pe_un ho ha.h) fun σ H Q hPl=>by
 obtain⟨τ,G,Q2,rs,rp,q,cl⟩:=hPl
 exact⟨τ,G,_,rs,rp,q,fun p G1 v H1 q1 d1 r1 k1=>⟨p,G1,Q2,d1,r1,q1,cl.keep k1⟩⟩
theorem j_ix{r:B2}(hr:IxR X (lowB X.K r))(ha:JE X a ta)(hb:JE X b tb)(hs:PlainIx b):JE X (.Subscript a b pos) (eOp r ta tb):= .of (pe_ix hr ha.h hb.h hs) fun σ H Q q=>low_op q
theorem low_cl{r:C2}{σ:St}{H:Hp}{Q:VK}(q:lowE X.K (eCl r t) σ H Q):tCB (lowC X.K r) (lowA X.K t) σ H Q:=by
 obtain⟨τ,G,Q2,rs,rp,q,cl⟩:=q
 exact⟨τ,G,_,rs,rp,q,fun ps G1 vs H1 q1 d1 r1 k1=>⟨ps,G1,Q2,d1,r1,q1,cl.keep k1⟩⟩
theorem j_callB{id:String}{r:C2}(hc:CallR X (.builtin id) (lowC X.K r))(hm:X.mg x=none)(hv:bootBuiltins x=some (.builtin id))(ha:JA X (e::es) t)(hg:Gl X x:=by rfl)(hn:x≠ "__name__" :=by decide)(hdb:(x==("__debug__" :Str))=false:=by decide)
  (he:starEach (e::es) X.env=(false,eval e X.env)::starEach es X.env:=by rfl) (hpl:(backTo pos (starEach es X.env)).any (·.1)=false:=by rfl):JE X (.Call (.Name x p) (e::es) [] pos) (eCl r t):= .of (pe_callB hc hg hm hv ha.h hn hdb he hpl) fun σ H Q q=>low_cl q
theorem j_callTy{T:String}{r:C2}(hc:CallR X (.type T) (lowC X.K r))(hm:X.mg x=none)(hv:bootBuiltins x=some (.type T))(ha:JA X (e::es) t)(hg:Gl X x:=by rfl)(hn:x≠ "__name__" :=by decide)(hdb:(x==("__debug__" :Str))=false:=by decide)
  (he:starEach (e::es) X.env=(false,eval e X.env)::starEach es X.env:=by rfl) (hpl:(backTo pos (starEach es X.env)).any (·.1)=false:=by rfl):JE X (.Call (.Name x p) (e::es) [] pos) (eCl r t):= .of (pe_callTy hc hg hm hv ha.h hn hdb he hpl) fun σ H Q q=>low_cl q
end
end L3
namespace L3
open PySem L2
noncomputable abbrev sNext:S2:=fun D τ G=>D.nx τ G
noncomputable abbrev sSeq(t u:S2):S2:=fun D τ G=>t {D with nx:=u D} τ G
noncomputable abbrev sRet(t:E2):S2:=fun D τ G=>t τ G D.rt
noncomputable abbrev sDrop(t:E2):S2:=fun D τ G=>t τ G fun _ G1=>D.nx τ G1
noncomputable abbrev sIf(c:T2)(t u:S2):S2:=fun D τ G=>c τ G fun b G1=>way2 b (t D τ G1) (u D τ G1)
noncomputable abbrev TG2:=PV→St2→Gp→(St2→Gp→Prop)→Prop
noncomputable def lowG(K:PySem.W.Frag)(g:TG2):TG:=fun v σ H Q=>∃p τ G Q2,Dv K H p v∧RSt K H σ τ∧Rep K H G∧g p τ G Q2∧ClS K H Q2 Q
structure JG(X:Cx)(tg:Expr)(g:TG2):Prop where
 h:PG X tg (lowG X.K g)
theorem JG.of{X:Cx}{tg:Expr}{g:TG2}{u:TG}(h:PG X tg u)(w:∀v σ H Q,lowG X.K g v σ H Q→u v σ H Q):JG X tg g:=⟨fun pins s σ H v z Q I r q=>h pins s σ H v z Q I r (w v σ H Q q)⟩
noncomputable abbrev gN(i:Nat):TG2:=fun p τ G Q=>Q (st τ i (some p)) G
noncomputable abbrev gN2(i j:Nat):TG2:=fun p τ G Q=>match p with
 | .tup [x,y]=>Q (st (st τ i (some x)) j (some y)) G
 |_=>False
noncomputable abbrev sAsg(t:E2)(g:TG2):S2:=fun D τ G=>t τ G fun p G1=>g p τ G1 D.nx
section
variable{X:Cx}{a b c e tg:Expr}{es:List Expr}{ta tb:E2}{t:A2}{tA tB:T2}{pos p:Pos}{x:Str}{st:Stmt}{rest sa sb:List Stmt}{u v:S2}{g:TG2}
theorem jg_name{i:Nat}(hN:X.N.Nodup)(hi:X.N[i]? =some x)(hx:Loc X.env.scope x)(hf:X.fn x=true∨X.env.scope.names.lookup x=some .local:=by first|exact .inl rfl|exact .inr rfl|assumption):JG X (.Name x pos) (gN i):=
 .of (pg_name hN hi hx hf) fun v σ H Q hPl=>by obtain⟨p,τ,G,Q2,d,rs,rp,q,cl⟩:=hPl;exact cl _ _ _ _ q (rs.set d i) rp .refl
theorem jg_name2{i j:Nat}{y:Str}{p1 p2:Pos}{k:Nat}(hc:X.calm=true)(hN:X.N.Nodup)(hi:X.N[i]? =some x)(hx:Loc X.env.scope x)(hj:X.N[j]? =some y)(hy:Loc X.env.scope y)
  (hf:X.fn x=true∨X.env.scope.names.lookup x=some .local:=by first|exact .inl rfl|exact .inr rfl|assumption) (hf2:X.fn y=true∨X.env.scope.names.lookup y=some .local:=by first|exact .inl rfl|exact .inr rfl|assumption):
  JG X (.Tuple [.Name x p1,.Name y p2] k pos) (gN2 i j):=
 .of (pg_tup (n:=2) hc (pgs_cons (pg_name hN hi hx hf) (pgs_cons (pg_name hN hj hy hf2) pgs_nil)) (by rfl) (by rfl)) fun v σ H Q hPl=>by
  obtain⟨p,τ,G,Q2,d,rs,rp,q,cl⟩:=hPl
  unfold gN2 at q
  split at q
  ·rename_i p1 p2
   obtain⟨a,vs,rfl,sq,dv⟩:=d
   obtain⟨v1,r1,rfl,d1,dv⟩:=dv
   obtain⟨v2,r2,rfl,d2,dv⟩:=dv
   obtain rfl:r2=[]:=dv
   exact⟨a,[v1,v2],rfl,sq,rfl,v1,[v2],rfl,v2,[],rfl,rfl,cl _ _ _ _ q ((rs.set d1 i).set d2 j) rp .refl⟩
  ·exact q.elim
theorem js_asg(he:JE X e ta)(hg:JG X tg g)(hs:swapsWithSole [tg] e pos.line X.env=pure false:=by rfl)(hw:swappedStores [tg] e X.env=pure none:=by rfl)
  (h1:(assignEach [tg] X.env).map (·.2)=[assign tg X.env]:=by rfl):JS X (.Assign [tg] e pos) (sAsg ta g):= .of (ps_asg he.h hg.h hs hw h1) fun D σ H ⟨τ,G,D2,rs,rp,q,cl⟩=>by
 exact⟨τ,G,_,rs,rp,q,fun p G1 v H1 q1 d1 r1 k1=>⟨p,τ,G1,D2.nx,d1,rs.keep k1,r1,q1,cl.nx.keep k1⟩⟩
theorem js_set{i:Nat}{pos':Pos}(he:JE X e ta)(hN:X.N.Nodup)(hi:X.N[i]? =some x)(hx:Loc X.env.scope x)(hs:swapsWith e (some (.Name x pos')) pos.line X.env=pure false:=by rfl)
  (hf:X.fn x=true∨X.env.scope.names.lookup x=some .local:=by first|exact .inl rfl|exact .inr rfl|assumption):JS X (.Assign [.Name x pos'] e pos) (sAsg ta (gN i)):= .of (ps_set hN hi hx he.h hs hf) fun D σ H ⟨τ,G,D2,rs,rp,q,cl⟩=>by
 exact⟨τ,G,_,rs,rp,q,fun p G1 v H1 q1 d1 r1 k1=>cl.nx _ _ _ _ q1 ((rs.keep k1).set d1 i) r1 k1⟩
theorem js_expr(he:JE X e ta)(hs:swapsWith e none pos.line X.env=pure false:=by rfl):JS X (.Expr e pos) (sDrop ta):= .of (ps_expr he.h hs) fun D σ H hPl=>by
 obtain⟨τ,G,D2,rs,rp,q,cl⟩:=hPl
 exact⟨τ,G,_,rs,rp,q,fun p G1 v H1 q1 d1 r1 k1=>cl.nx _ _ _ _ q1 (rs.keep k1) r1 k1⟩
theorem js_ret(he:JE X e ta):JS X (.Return (some e) pos) (sRet ta):= .of (ps_ret he.h) fun D σ H hPl=>by obtain⟨τ,G,D2,rs,rp,q,cl⟩:=hPl;exact⟨τ,G,_,rs,rp,q,cl.rt⟩
theorem js_if(hc:JT X c tA)(ha:JB X sa u)(hb:JB X sb v):JS X (.If c sa sb pos) (sIf tA u v):= .of (ps_if hc.h ha.h hb.h) fun D σ H hPl=>by
 obtain⟨τ,G,D2,rs,rp,q,cl⟩:=hPl
 refine⟨τ,G,_,rs,rp,q,fun b G1 H1 q1 r1 k1=> ?_⟩
 cases b with
 |true=>exact iteT ⟨τ,G1,D2,rs.keep k1,r1,q1,cl.keep k1⟩
 |false=>exact iteF ⟨τ,G1,D2,rs.keep k1,r1,q1,cl.keep k1⟩
theorem js_pass:JS X (.Pass pos) sNext:= .of ps_pass fun D σ H hPl=>by obtain⟨τ,G,D2,rs,rp,q,cl⟩:=hPl;exact cl.nx _ _ _ _ q rs rp .refl
theorem jb_nil:JB X [] sNext:= .of pss_nil fun D σ H hPl=>by obtain⟨τ,G,D2,rs,rp,q,cl⟩:=hPl;exact cl.nx _ _ _ _ q rs rp .refl
theorem jb_one(h:JS X st u):JB X [st] u:=⟨pss_one h.h⟩
theorem jb_cons{s2:Stmt}(h:JS X st u)(h2:JB X (s2::rest) v):JB X (st::s2::rest) (sSeq u v):= .of (pss_cons h.h h2.h) fun D σ H hPl=>by
 obtain⟨τ,G,D2,rs,rp,q,cl⟩:=hPl
 refine⟨τ,G,{D2 with nx:=v D2},rs,rp,q,⟨fun τ1 G1 σ1 H1 q1 rs1 r1 k1=> ?_,cl.rt,cl.bk,cl.ct⟩⟩
 exact⟨τ1,G1,D2,rs1,r1,q1,cl.keep k1⟩
end
noncomputable abbrev Set2:=PV→PV→PV→Gp→(Gp→Prop)→Prop
noncomputable def lowSet(K:PySem.W.Frag)(r:Set2):TSet:=fun o i v H Q=>∃po pi pv G Q2,Dv K H po o∧Dv K H pi i∧Dv K H pv v∧Rep K H G∧r po pi pv G Q2∧∀G' H',Q2 G'→Rep K H' G'→Keep K H H'→Q H'
noncomputable def setL:Set2:=fun o i v G Q=>match o,i with
 | .ref a,.int k=>match G a with
  |some (.lst ps)=>match ixN ps.length k with
   |some j=>Q (up G a (.lst (ps.set j v)))
   |none=>False
  |_=>False
 |_,_=>False
noncomputable abbrev gSub2(to ti:E2)(r:Set2):TG2:=fun p τ G Q=>to τ G fun o G1=>ti τ G1 fun i G2=>r o i p G2 fun G3=>Q τ G3
theorem PSet.of{X:Cx}{t u:TSet}(h:PSet X u)(w:∀o i v H Q,t o i v H Q→u o i v H Q):PSet X t:=fun pins s σ H o i v ov iv z Q I r1 r2 r3 q=>h pins s σ H o i v ov iv z Q I r1 r2 r3 (w _ _ _ _ _ q)
theorem set_L{X:Cx}:PSet X (lowSet X.K setL):=PSet.of set_list fun o i v H Q hPl=>by
 obtain⟨po,pi,pv,G,Q2,d1,d2,d3,rp,q,cl⟩:=hPl
 unfold setL at q
 split at q
 ·rename_i a k
  split at q
  ·rename_i ps e
   split at q
   ·rename_i j ej
    obtain rfl:o= .ref a:=d1
    obtain rfl:i= .int k:=d2
    obtain⟨vs,hv,dv⟩:=rp.lst e
    refine⟨a,vs,k,j,rfl,rfl,hv,by rw[dv.length];exact ej,cl _ _ q (rp.put hv (dv.set d3 j)) (keep_lst hv)⟩
   ·exact q.elim
  ·exact q.elim
 ·exact q.elim
section
variable{X:Cx}{o i e:Expr}{to ti te:E2}{pos:Pos}{x:Str}
theorem jg_sub{r:Set2}(ho:JE X o to)(hi:JE X i ti)(hs:PSet X (lowSet X.K r))
  (ha:∀v,assign (.Subscript o i pos) X.env v=(do
   let ov ←holding [v] (eval o X.env)
   let iv ←holding [v,ov] (eval i X.env)
   standAt pos
   holding [v,ov,iv] (setItem ov iv v)
   release [v,ov,iv] []):=by intro _;rfl):JG X (.Subscript o i pos) (gSub2 to ti r):= .of (pg_sub ho.h hi.h hs ha) fun v σ H Q ⟨p,τ,G,Q2,d,rs,rp,q,cl⟩=>by
 refine⟨τ,G,_,rs,rp,q,fun p1 G1 v1 H1 q1 d1 r1 k1=>⟨τ,G1,_,rs.keep k1,r1,q1,fun p2 G2 v2 H2 q2 d2 r2 k2=> ?_⟩⟩
 exact⟨p1,p2,p,G2,_,d1.keep k2,d2,d.keep (k1.trans k2),r2,q2,fun G3 H3 q3 r3 k3=>cl _ _ _ _ q3 (rs.keep ((k1.trans k2).trans k3)) r3 ((k1.trans k2).trans k3)⟩
end
noncomputable abbrev Sp2:=List PV→Gp→K2→Prop
noncomputable def spL(K:PySem.W.Frag)(sp:Sp2):Sp:=fun vs H Q _=>∃ps G Q2,Dvs K H ps vs∧Rep K H G∧sp ps G Q2∧Cl K H Q2 Q
@[reducible] noncomputable def start2:List Str→List PV→St2
 |[],_=>[]
 |_::N,p::ps=>some p::start2 N ps
 |_::N,[]=>none::start2 N []
theorem start2_nil:∀N:List Str,start2 N []=List.replicate N.length none
 |[]=>rfl
 |_::N=>by simp[start2,start2_nil N,List.replicate_succ]
theorem start2_eq:∀(N:List Str) (ps:List PV),ps.length≤N.length→start2 N ps=ps.map some++List.replicate (N.length-ps.length) none
 |[],[],_=>rfl
 |[],_::_,h=>by simp at h
 |_::N,p::ps,h=>by
  simp only[start2,List.map_cons,List.length_cons,List.cons_append]
  rw[start2_eq N ps (by simpa using h)]
  simp
 |n::N,[],_=>by rw[start2_nil];simp
theorem start_rst{K:PySem.W.Frag}{H:Hp}{N:List Str}{ps:List PV}{vs:List V}(d:Dvs K H ps vs)(hN:ps.length≤N.length):RSt K H (L2.start N vs) (start2 N ps):=by
 have hl:=d.length
 rw[start2_eq N ps hN]
 refine⟨by unfold L2.start;simp[hl],fun i p e=> ?_⟩
 unfold L2.start
 by_cases hi:i<ps.length
 ·rw[List.getElem?_append_left (by simpa using hi),List.getElem?_map]at e
  rw[List.getElem?_append_left (by simpa [hl]using hi),List.getElem?_map]
  cases q:ps[i]? with
  |none=>rw[q]at e;cases e
  |some p'=>
   rw[q]at e
   have:p'=p:=by simpa using e
   subst this
   obtain⟨v,ev,dv⟩:=d.at q
   exact⟨v,by rw[ev];rfl,dv⟩
 ·rw[List.getElem?_append_right (by simpa using Nat.le_of_not_lt hi),List.getElem?_replicate]at e
  split at e<;>cases e
noncomputable def GE(G0 G:Gp):Prop:=∀a o,G0 a=some o→G a=some o
theorem GE.refl{G:Gp}:GE G G:=fun _ _ h=>h
theorem GE.new{G0 G:Gp}{a:Addr}{o:MO}(h:GE G0 G)(n:G a=none):GE G0 (up G a o):=fun b u q=>by
 have:b≠a:=fun z=>by subst z;rw[h _ _ q]at n;cases n
 rw[up_ne this];exact h b u q
noncomputable abbrev Ok2(P:Program)(w:World)(K:PySem.W.Frag)(mg:Str→Option Value)(base:Heap)(k:Nat)(f:Addr)(fd:FuncData)(ps:List Str)(sp:Sp2):Prop:=FnOk P w K mg base CX0 k f fd ps (spL K sp)
structure Cal2(P:Program)(w:World)(K:PySem.W.Frag)(mg:Str→Option Value)(base:Heap)(k:Nat)(x:Str)(f:Addr)(fd:FuncData)(ps:List Str)(sp:Sp2):Prop where
 ok:Ok2 P w K mg base k f fd ps sp
 b:Binds K fd ps []
 kp:PySem.W.keepIn K (.ref f)=true
 m:mg x=some (.ref f)
section
variable{P:Program}{w:World}{K:PySem.W.Frag}{mg:Str→Option Value}{base:Heap}
theorem fn2{x qual:Str}{st:Stmt}{f:Addr}{fd:FuncData}{N ps:List Str}{k:Nat}{sp:Sp2}(F:Fun K x qual st f fd)(S:FnScope N ps (defScope st))(len:∀vs G Q,sp vs G Q→vs.length=ps.length)
  (hbody:∀(cdv:Value) (A:Around) (outer:List Env) (s:Shared) (H:Hp) (E:XK) (as:List PV) (G:Gp) (Q:K2),Room k (A.deeper (PyProof.Rows.envOfC qual (defScope st) s.heap.objs.size f cdv))→sp as G Q→
   ∃t,JB (cxOf CX0 P w K mg base N qual (defScope st) f cdv A outer s H E).nox (defBody st) t∧t {nx:=fun _ G'=>∃G0,GE G0 G'∧Q .non G0,rt:=fun p G'=>∃G0,GE G0 G'∧Q p G0} (start2 N as) G):Ok2 P w K mg base (k+1) f fd ps sp:=by
 refine F.ok S (fun vs H Q E h=> ?_) (fun cdv A outer s H vs Q E hr h=> ?_)
 ·obtain⟨as,G,Q2,d,_,h,_⟩:=h
  rw[d.length];exact len _ _ _ h
 obtain⟨as,G,Q2,d,rp,h,cl⟩:=h
 obtain⟨t,j,q⟩:=hbody cdv A outer s H E as G Q2 hr h
 refine⟨_,j.h,start2 N as,G,_,start_rst d (by rw[len _ _ _ h,←S.pre,List.length_take];(first|lia|omega)),rp,q,⟨fun τ G' σ H' ⟨G0,e0,q1⟩ _ r1 k1=>cl _ _ _ _ q1 rfl (r1.sub e0) k1,fun p G' v H' ⟨G0,e0,q1⟩ d1 r1 k1=>cl _ _ _ _ q1 d1 (r1.sub e0) k1,fun _ _ _ _ q1=>q1.elim,fun _ _ _ _ q1=>q1.elim⟩⟩
end
noncomputable abbrev eCall(sp:Sp2)(t:A2):E2:=fun τ G Q=>t τ G fun ps G1=>sp ps G1 Q
section
variable{X:Cx}{e:Expr}{es:List Expr}{t:A2}{pos p:Pos}{x:Str}
theorem low_call{sp:Sp2}{σ:L2.St}{H:Hp}{Q:VK}(q:lowE X.K (eCall sp t) σ H Q):tCall (spL X.K sp) [] E0 (lowA X.K t) σ H Q:=by
 obtain⟨τ,G,Q2,rs,rp,q,cl⟩:=q
 refine⟨τ,G,_,rs,rp,q,fun ps G1 vs H1 q1 d1 r1 k1=> ?_⟩
 show spL X.K sp (vs++[]) H1 Q E0
 rw[List.append_nil]
 exact⟨ps,G1,Q2,d1,r1,q1,cl.keep k1⟩
theorem j_cal{k k':Nat}{f:Addr}{fd:FuncData}{ps:List Str}{sp:Sp2}(C:Cal2 X.prog X.w X.K X.mg X.base k x f fd ps sp)(hr:Room k' X.A)(hk:k≤k')(ha:JA X (e::es) t)(hg:Gl X x:=by rfl)
  (hdb:(x==("__debug__" :Str))=false:=by decide) (he:starEach (e::es) X.env=(false,eval e X.env)::starEach es X.env:=by rfl) (hpl:(backTo pos (starEach es X.env)).any (·.1)=false:=by rfl):
  JE X (.Call (.Name x p) (e::es) [] pos) (eCall sp t):= .of (pe_call (C.ok.mono hk) hr hg C.m C.kp C.b .nil pass0 ha.h hdb he hpl) fun σ H Q q=>low_call q
end
noncomputable abbrev sWhile(c:T2)(tb:S2):S2:=fun D τ G=>∃W:Nat→St2→Gp→Prop,(∃m,W m τ G)∧∀m τ G,W m τ G→
 c τ G fun b G1=>way2 b (tb {D with nx:=fun τ' G'=>∃m',m'<m∧W m' τ' G',ct:=fun τ' G'=>∃m',m'<m∧W m' τ' G',bk:=D.nx} τ G1) (D.nx τ G1)
section
variable{X:Cx}{c:Expr}{body:List Stmt}{tc:T2}{tb:S2}{pos:Pos}
theorem js_while(hp:PassesOwn (model X.prog X.w) X.A X.env X.xe)(hc:JT X c tc)(hb:JB X body tb):JS X (.While c body [] pos) (sWhile tc tb):= .of (ps_while hp hc.h hb.h) fun D σ H ⟨τ,G,D2,rs,rp,⟨W,⟨m0,w0⟩,turn⟩,cl⟩=>by
 refine⟨fun m σ' H'=>∃τ' G',W m τ' G'∧RSt X.K H' σ' τ'∧Rep X.K H' G'∧Keep X.K H H',⟨m0,τ,G,w0,rs,rp,.refl⟩,?_⟩
 rintro m σ1 H1 ⟨τ1,G1,w1,rs1,rp1,k1⟩
 refine⟨τ1,G1,_,rs1,rp1,turn m τ1 G1 w1,fun b G2 H2 q2 r2 k2=> ?_⟩
 cases b with
 |false=>exact iteF (cl.nx _ _ _ _ q2 (rs1.keep k2) r2 (k1.trans k2))
 |true=>
  refine iteT ⟨fun σ' H'=>∃τ' G',(∃m',m'<m∧W m' τ' G')∧RSt X.K H' σ' τ'∧Rep X.K H' G'∧Keep X.K H H',fun σ' H' ⟨τ',G',⟨m',hm,w'⟩,a,b,c⟩=>⟨m',hm,τ',G',w',a,b,c⟩,?_⟩
  have kk:=k1.trans k2
  exact⟨τ1,G2,_,rs1.keep k2,r2,q2,⟨fun τ' G' σ' H' q' a b c=>⟨τ',G',q',a,b,kk.trans c⟩,cl.rt.keep kk,cl.nx.keep kk,fun τ' G' σ' H' q' a b c=>⟨τ',G',q',a,b,kk.trans c⟩⟩⟩
end
noncomputable abbrev TI2:=St2→Gp→(List PV→(Gp→Prop)→Gp→Prop)→Prop
noncomputable def ItOk(K:PySem.W.Frag)(H1:Hp)(J:It)(items:List PV)(c:Gp→Prop):Prop:=∀(i:Nat) H G,Keep K H1 H→Rep K H G→c G→
 (i<items.length→J.go i H)∧(i=items.length→J.stop i H)∧∀x H',i<items.length→J.yld i H x H'→∃p,items[i]? =some p∧Keep K H H'∧Rep K H' G∧Dv K H' p x
noncomputable def lowI(K:PySem.W.Frag)(t:TI2):TI:=fun σ H R=>∃τ G R2,RSt K H σ τ∧Rep K H G∧t τ G R2∧∀items c G' J H',R2 items c G'→Rep K H' G'→Keep K H H'→ItOk K H' J items c→R J H'
structure JI(X:Cx)(tg iter:Expr)(t:TI2):Prop where
 h:PI X tg iter (lowI X.K t)
theorem JI.of{X:Cx}{tg iter:Expr}{t:TI2}{u:TI}(h:PI X tg iter u)(w:∀σ H R,lowI X.K t σ H R→u σ H R):JI X tg iter t:=⟨fun pins s σ H R I q=>h pins s σ H R I (w σ H R q)⟩
noncomputable abbrev sFor(ti:TI2)(g:TG2)(tb:S2):S2:=fun D τ G=>ti τ G fun items c G1=>∃W:Nat→St2→Gp→Prop,W 0 τ G1∧(∀i τ G,i≤items.length→W i τ G→c G)∧
 (∀i x τ G,items[i]? =some x→W i τ G→g x τ G fun τ' G'=>tb {D with nx:=W (i+1),ct:=W (i+1),bk:=D.nx} τ' G')∧∀τ G,W items.length τ G→D.nx τ G
section
variable{X:Cx}{tg iter:Expr}{body:List Stmt}{ti:TI2}{g:TG2}{tb:S2}{pos:Pos}
theorem js_for(hp:PassesOwn (model X.prog X.w) X.A X.env X.xe)(hc:X.calm=true)(hi:JI X tg iter ti)(hg:JG X tg g)(hb:JB X body tb)
  (hs:∀x,foldedSetIterable iter X.env x=pure x:=by intro _;rfl):JS X (.For tg iter body [] pos) (sFor ti g tb):= .of (ps_for hp hc hi.h hg.h hb.h hs) fun D σ H ⟨τ,G,D2,rs,rp,q,cl⟩=>by
 refine⟨τ,G,_,rs,rp,q,fun items c G1 J H1 q1 r1 k1 ok=> ?_⟩
 obtain⟨W,w0,hcW,turn,done⟩:=q1
 refine⟨fun i m σ' H'=>m=items.length-i∧i≤items.length∧∃τ' G',W i τ' G'∧RSt X.K H' σ' τ'∧Rep X.K H' G'∧Keep X.K H1 H',⟨_,rfl,Nat.zero_le _,τ,G1,w0,rs.keep k1,r1,.refl⟩,?_⟩
 rintro i m σ2 H2 ⟨rfl,hi,τ2,G2,w2,rs2,rp2,k2⟩
 obtain⟨o1,o2,o3⟩:=ok i H2 G2 k2 rp2 (hcW i τ2 G2 hi w2)
 by_cases hlt:i<items.length
 ·refine .inr ⟨o1 hlt,fun σ' H'=>i+1≤items.length∧∃τ' G',W (i+1) τ' G'∧RSt X.K H' σ' τ'∧Rep X.K H' G'∧Keep X.K H1 H',fun σ' H' ⟨hl,z⟩=>⟨items.length-(i+1),by(first|lia|omega),rfl,hl,z⟩,fun x H3 y=> ?_⟩
  obtain⟨p,ep,k3,r3,d3⟩:=o3 x H3 hlt y
  have k13:=k2.trans k3
  refine⟨p,τ2,G2,_,d3,rs2.keep k3,r3,turn i p τ2 G2 ep w2,fun τ4 G4 σ4 H4 q4 rs4 r4 k4=> ?_⟩
  have k14:=k13.trans k4
  have k04:=k1.trans k14
  exact⟨τ4,G4,_,rs4,r4,q4,⟨fun τ' G' σ' H' q' a b c=>⟨hlt,τ',G',q',a,b,k14.trans c⟩,cl.rt.keep k04,cl.nx.keep k04,fun τ' G' σ' H' q' a b c=>⟨hlt,τ',G',q',a,b,k14.trans c⟩⟩⟩
 ·have e:i=items.length:=by(first|lia|omega)
  subst e
  exact .inl ⟨o2 rfl,cl.nx _ _ _ _ (done τ2 G2 w2) rs2 rp2 (k1.trans k2)⟩
end
end L3
namespace L3
open PySem L2
mutual
noncomputable def deq:PV→PV→Bool
 | .non,.non=>true
 | .bl a,.bl b=>a==b
 | .bl a,.int b=>(if a then 1 else 0)==b
 | .int a,.bl b=>a==(if b then 1 else 0)
 | .int a,.int b=>a==b
 | .str a,.str b=>a==b
 | .tup xs,.tup ys=>deqs xs ys
 |_,_=>false
noncomputable def deqs:List PV→List PV→Bool
 |[],[]=>true
 |x::xs,y::ys=>deq x y&&deqs xs ys
 |_,_=>false
end
mutual
noncomputable def pureP:Nat→PV→Bool
 |_,.non=>true
 |_,.bl _=>true
 |_,.int _=>true
 |_,.str _=>true
 |n+1,.tup xs=>pureL n xs
 |_,_=>false
noncomputable def pureL:Nat→List PV→Bool
 |_,[]=>true
 |n,x::xs=>pureP n x&&pureL n xs
end
section
variable{X:Cx}{pins:List (Addr×Obj)}{σ:L2.St}{H:Hp}{s:Shared}{K:PySem.W.Frag}
mutual
theorem same_deq(I:Inv X pins σ H s):∀(n m:Nat) (p q:PV) {v:V},Dv X.K H p v→Dv X.K H q v→pureP n p=true→pureP m q=true→deq p q=true
 |n,m,.non,q,v,h1,h2,f1,f2=>by
  obtain rfl:v= .non:=h1
  cases q with
  |non=>rfl
  |tup qs=>obtain⟨a,vs,e,_⟩:=h2;cases e
  |ro qs=>cases m<;>cases f2
  |_=>first|cases (show _=_ from h2)|(cases m<;>cases f2)
 |n,m,.bl b,q,v,h1,h2,f1,f2=>by
  obtain rfl:v= .bl b:=h1
  cases q with
  |bl c=>cases (show V.bl b=V.bl c from h2);unfold deq;simp
  |tup qs=>obtain⟨a,vs,e,_⟩:=h2;cases e
  |ro qs=>cases m<;>cases f2
  |_=>first|cases (show _=_ from h2)|(cases m<;>cases f2)
 |n,m,.int b,q,v,h1,h2,f1,f2=>by
  obtain rfl:v= .int b:=h1
  cases q with
  |int c=>cases (show V.int b=V.int c from h2);unfold deq;simp
  |tup qs=>obtain⟨a,vs,e,_⟩:=h2;cases e
  |ro qs=>cases m<;>cases f2
  |_=>first|cases (show _=_ from h2)|(cases m<;>cases f2)
 |n,m,.str b,q,v,h1,h2,f1,f2=>by
  obtain rfl:v= .str b:=h1
  cases q with
  |str c=>cases (show V.str b=V.str c from h2);unfold deq;simp
  |tup qs=>obtain⟨a,vs,e,_⟩:=h2;cases e
  |ro qs=>cases m<;>cases f2
  |_=>first|cases (show _=_ from h2)|(cases m<;>cases f2)
 |n,m,.tup ps,q,v,h1,h2,f1,f2=>by
  obtain⟨a,vs,rfl,sq,d⟩:=h1
  cases q with
  |tup qs=>
   obtain⟨b,us,e,sq2,d2⟩:=h2
   cases e
   obtain rfl:=I.tuple_inj sq sq2
   cases n with
   |zero=>cases f1
   |succ n=>
    cases m with
    |zero=>cases f2
    |succ m=>
     unfold deq
     exact same_deqs I n m ps qs d d2 f1 f2
  |ref b=>cases m<;>cases f2
  |ty b=>cases m<;>cases f2
  |ro b=>cases m<;>cases f2
  |_=>cases (show _=_ from h2)
 |n,m,.ref a,q,v,h1,h2,f1,f2=>by cases n<;>cases f1
 |n,m,.ty a,q,v,h1,h2,f1,f2=>by cases n<;>cases f1
 |n,m,.ro a,q,v,h1,h2,f1,f2=>by cases n<;>cases f1
theorem same_deqs(I:Inv X pins σ H s):∀(n m:Nat) (ps qs:List PV) {vs:List V},Dvs X.K H ps vs→Dvs X.K H qs vs→pureL n ps=true→pureL m qs=true→deqs ps qs=true
 |n,m,[],qs,vs,h1,h2,f1,f2=>by
  obtain rfl:vs=[]:=h1
  cases qs with
  |nil=>rfl
  |cons q qs=>obtain⟨_,_,e,_⟩:=h2;cases e
 |n,m,p::ps,qs,vs,h1,h2,f1,f2=>by
  obtain⟨v,r,rfl,d,d'⟩:=h1
  cases qs with
  |nil=>cases (show _=_ from h2)
  |cons q qs=>
   obtain⟨_,_,e,d2,d2'⟩:=h2
   cases e
   unfold pureL at f1 f2
   rw[Bool.and_eq_true]at f1 f2
   unfold deqs
   rw[same_deq I n m p q d d2 f1.1 f2.1,same_deqs I n m ps qs d' d2' f1.2 f2.2]
   rfl
end
noncomputable def deqJ(ps qs:List PV)(j:Nat):Bool:=match ps[j]?,qs[j]? with
 |some p,some q=>deq p q
 |_,_=>true
theorem deqs_range:∀(ps qs:List PV),ps.length=qs.length→(List.range ps.length).all (deqJ ps qs)=deqs ps qs
 |[],[],_=>rfl
 |p::ps,q::qs,h=>by
  have ih:=deqs_range ps qs (by simpa using h)
  unfold deqs
  rw[←ih,List.length_cons,List.range_succ_eq_map,List.all_cons,List.all_map]
  rfl
 |[],_::_,h=>by simp at h
 |_::_,[],h=>by simp at h
theorem deqs_len:∀{ps qs:List PV},ps.length≠qs.length→deqs ps qs=false
 |[],[],h=>absurd rfl h
 |p::ps,q::qs,h=>by
  unfold deqs
  rw[deqs_len (ps:=ps) (qs:=qs) (fun e=>h (by simp[e])),Bool.and_false]
 |[],_::_,_=>rfl
 |_::_,[],_=>rfl
theorem deqs_min(ps qs:List PV):((List.range (min ps.length qs.length)).all (deqJ ps qs)&&ps.length==qs.length)=deqs ps qs:=by
 by_cases h:ps.length=qs.length
 ·rw[h,Nat.min_self,←h,deqs_range ps qs h];simp[h]
 ·rw[deqs_len h];simp[h]
noncomputable abbrev Eqd(A:Around)(s:Shared)(v u:Value)(b:Bool):Prop:=SeqAt.EqAt A s v u b
mutual
theorem eq_D(I:Inv X pins σ H s):∀(n m:Nat) (p q:PV) (A:Around) {x y:V} {v u:Value},Dv X.K H p x→RelV x v→Dv X.K H q y→RelV y u→pureP n p=true→pureP m q=true→A.units+n<cLine→Eqd A s v u (deq p q)
 |n,m,.non,q,A,x,y,v,u,d1,r1,d2,r2,f1,f2,hu=>by
  obtain rfl:x= .non:=d1
  cases r1
  cases q with
  |non=>obtain rfl:y= .non:=d2;cases r2;exact SeqAt.EqAt.same _
  |bl b=>obtain rfl:y= .bl b:=d2;cases r2;exact SeqAt.EqAt.none_bool b
  |int b=>obtain rfl:y= .int b:=d2;obtain⟨t,rfl⟩:=r2;exact SeqAt.EqAt.none_int b t
  |str b=>obtain rfl:y= .str b:=d2;obtain⟨t,rfl⟩:=r2;exact SeqAt.EqAt.none_str b t
  |tup qs=>
   obtain⟨a,vs,rfl,sq,dd⟩:=d2
   cases r2
   obtain⟨its,rv,pl,_⟩:=I.tuple sq
   exact SeqAt.EqAt.none_tuple pl (by(first|lia|omega))
  |ref b=>cases m<;>cases f2
  |ty b=>cases m<;>cases f2
  |ro b=>cases m<;>cases f2
 |n,m,.bl a,q,A,x,y,v,u,d1,r1,d2,r2,f1,f2,hu=>by
  obtain rfl:x= .bl a:=d1
  cases r1
  cases q with
  |non=>obtain rfl:y= .non:=d2;cases r2;exact SeqAt.EqAt.bool_none a
  |bl b=>obtain rfl:y= .bl b:=d2;cases r2;exact SeqAt.EqAt.bool_bool a b
  |int b=>obtain rfl:y= .int b:=d2;obtain⟨t,rfl⟩:=r2;exact SeqAt.EqAt.bool_int a b t
  |str b=>obtain rfl:y= .str b:=d2;obtain⟨t,rfl⟩:=r2;exact SeqAt.EqAt.bool_str a b t
  |tup qs=>
   obtain⟨l,vs,rfl,sq,dd⟩:=d2
   cases r2
   obtain⟨its,rv,pl,_⟩:=I.tuple sq
   exact SeqAt.EqAt.bool_tuple a pl (by(first|lia|omega))
  |ref b=>cases m<;>cases f2
  |ty b=>cases m<;>cases f2
  |ro b=>cases m<;>cases f2
 |n,m,.int a,q,A,x,y,v,u,d1,r1,d2,r2,f1,f2,hu=>by
  obtain rfl:x= .int a:=d1
  obtain⟨t',rfl⟩:=r1
  cases q with
  |non=>obtain rfl:y= .non:=d2;cases r2;exact SeqAt.EqAt.int_none a t'
  |bl b=>obtain rfl:y= .bl b:=d2;cases r2;exact SeqAt.EqAt.int_bool a t' b
  |int b=>obtain rfl:y= .int b:=d2;obtain⟨t,rfl⟩:=r2;exact SeqAt.EqAt.int_int a t' b t
  |str b=>obtain rfl:y= .str b:=d2;obtain⟨t,rfl⟩:=r2;exact SeqAt.EqAt.int_str a t' b t
  |tup qs=>
   obtain⟨l,vs,rfl,sq,dd⟩:=d2
   cases r2
   obtain⟨its,rv,pl,_⟩:=I.tuple sq
   exact SeqAt.EqAt.int_tuple a t' pl (by(first|lia|omega))
  |ref b=>cases m<;>cases f2
  |ty b=>cases m<;>cases f2
  |ro b=>cases m<;>cases f2
 |n,m,.str a,q,A,x,y,v,u,d1,r1,d2,r2,f1,f2,hu=>by
  obtain rfl:x= .str a:=d1
  obtain⟨t',rfl⟩:=r1
  cases q with
  |non=>obtain rfl:y= .non:=d2;cases r2;exact SeqAt.EqAt.str_none a t'
  |bl b=>obtain rfl:y= .bl b:=d2;cases r2;exact SeqAt.EqAt.str_bool a t' b
  |int b=>obtain rfl:y= .int b:=d2;obtain⟨t,rfl⟩:=r2;exact SeqAt.EqAt.str_int a t' b t
  |str b=>obtain rfl:y= .str b:=d2;obtain⟨t,rfl⟩:=r2;exact SeqAt.EqAt.str_str a t' b t
  |tup qs=>
   obtain⟨l,vs,rfl,sq,dd⟩:=d2
   cases r2
   obtain⟨its,rv,pl,_⟩:=I.tuple sq
   exact SeqAt.EqAt.str_tuple a t' pl (by(first|lia|omega))
  |ref b=>cases m<;>cases f2
  |ty b=>cases m<;>cases f2
  |ro b=>cases m<;>cases f2
 |n,m,.tup ps,q,A,x,y,v,u,d1,r1,d2,r2,f1,f2,hu=>by
  have dd1:=d1
  obtain⟨l,vs,rfl,sq,d⟩:=d1
  cases r1
  obtain⟨its,rv,pl,_⟩:=I.tuple sq
  cases q with
  |non=>obtain rfl:y= .non:=d2;cases r2;exact SeqAt.EqAt.tuple_none pl (by(first|lia|omega))
  |bl b=>obtain rfl:y= .bl b:=d2;cases r2;exact SeqAt.EqAt.tuple_bool b pl (by(first|lia|omega))
  |int b=>obtain rfl:y= .int b:=d2;obtain⟨t,rfl⟩:=r2;exact SeqAt.EqAt.tuple_int b t pl (by(first|lia|omega))
  |str b=>obtain rfl:y= .str b:=d2;obtain⟨t,rfl⟩:=r2;exact SeqAt.EqAt.tuple_str b t pl (by(first|lia|omega))
  |tup qs=>
   have dd2:=d2
   obtain⟨l2,us,rfl,sq2,d2⟩:=d2
   cases r2
   obtain⟨its2,rv2,pl2,_⟩:=I.tuple sq2
   by_cases hll:l=l2
   ·subst hll
    rw[same_deq I n m (.tup ps) (.tup qs) dd1 dd2 f1 f2]
    exact SeqAt.EqAt.same _
   ·cases n with
    |zero=>cases f1
    |succ n=>
     cases m with
     |zero=>cases f2
     |succ m=>
      refine SeqAt.EqAt.of_refs hll ?_
      have z:=SeqAt.RcAt.tuples (A:=A) (e:=deqJ ps qs) pl pl2 (by(first|lia|omega)) fun j h1 h2=>eq_Ds I n m ps qs A.in1 d rv d2 rv2 f1 f2 (by rw[PySem.Around.in1_units];(first|lia|omega)) j h1 h2
      rw[List.size_toArray,List.size_toArray,←rv.length,←rv2.length,d.length,d2.length,deqs_min]at z
      unfold deq
      exact z
  |ref b=>cases m<;>cases f2
  |ty b=>cases m<;>cases f2
  |ro b=>cases m<;>cases f2
 |n,m,.ref a,q,A,x,y,v,u,d1,r1,d2,r2,f1,f2,hu=>by cases n<;>cases f1
 |n,m,.ty a,q,A,x,y,v,u,d1,r1,d2,r2,f1,f2,hu=>by cases n<;>cases f1
 |n,m,.ro a,q,A,x,y,v,u,d1,r1,d2,r2,f1,f2,hu=>by cases n<;>cases f1
theorem eq_Ds(I:Inv X pins σ H s):∀(n m:Nat) (ps qs:List PV) (A:Around) {xs ys:List V} {vs us:List Value},Dvs X.K H ps xs→Vals xs vs→Dvs X.K H qs ys→Vals ys us→pureL n ps=true→pureL m qs=true→A.units+n<cLine→
  ∀(j:Nat) (h1:j<vs.toArray.size) (h2:j<us.toArray.size),Eqd A s vs.toArray[j] us.toArray[j] (deqJ ps qs j)
 |n,m,[],qs,A,xs,ys,vs,us,d1,r1,d2,r2,f1,f2,hu,j,h1,h2=>by
  obtain rfl:xs=[]:=d1
  cases r1
  simp at h1
 |n,m,p::ps,qs,A,xs,ys,vs,us,d1,r1,d2,r2,f1,f2,hu,j,h1,h2=>by
  obtain⟨x,xr,rfl,dx,d1⟩:=d1
  cases r1 with
  |cons rx r1=>
   cases qs with
   |nil=>
    obtain rfl:ys=[]:=d2
    cases r2
    simp at h2
   |cons q qs=>
    obtain⟨y,yr,rfl,dy,d2⟩:=d2
    cases r2 with
    |cons ry r2=>
     unfold pureL at f1 f2
     rw[Bool.and_eq_true]at f1 f2
     cases j with
     |zero=>exact eq_D I n m p q A dx rx dy ry f1.1 f2.1 hu
     |succ j=>exact eq_Ds I n m ps qs A d1 r1 d2 r2 f1.2 f2.2 hu j (by simpa using h1) (by simpa using h2)
end
end
end L3
namespace L3
open PySem L2
theorem big{n:Nat}(h:n≤16000000):n≤sizeLine:=Nat.le_trans h (by rw[sizeLine_eq];decide)
theorem bigLt{n:Nat}(h:n≤16000000):n<sizeLine:=Nat.lt_of_le_of_lt h (by rw[sizeLine_eq];decide)
noncomputable def lk(G:Gp)(a:Addr):Option (List PV):=match G a with
 |some (.lst ps)=>some ps
 |some (.rl ps)=>some ps
 |_=>none
theorem lk_sq{K:PySem.W.Frag}{H:Hp}{G:Gp}{a:Addr}{ps:List PV}(r:Rep K H G)(h:lk G a=some ps):∃vs,SqL K H a vs∧Dvs K H ps vs:=by
 unfold lk at h
 split at h
 ·rename_i qs e;cases h
  obtain⟨vs,e1,d⟩:=r a _ e
  exact⟨vs,.of e1,d⟩
 ·rename_i qs e;cases h
  obtain⟨vs,e1,d⟩:=r a _ e
  exact⟨vs,.inl e1,d⟩
 ·cases h
noncomputable def eq2:B2:=fun p q G Q=>match p,q with
 | .ref a,.ref b=>match lk G a,lk G b with
  |some ps,some qs=>pureL 100 ps=true∧pureL 100 qs=true∧Q (.bl (deqs ps qs)) G
  |_,_=>False
 | .ref _,_=>False
 |_,.ref _=>False
 |p,q=>pureP 100 p=true∧pureP 100 q=true∧Q (.bl (deq p q)) G
noncomputable def ne2:B2:=fun p q G Q=>match p,q with
 | .ref a,.ref b=>match lk G a,lk G b with
  |some ps,some qs=>pureL 100 ps=true∧pureL 100 qs=true∧Q (.bl (!deqs ps qs)) G
  |_,_=>False
 | .ref _,_=>False
 |_,.ref _=>False
 |p,q=>pureP 100 p=true∧pureP 100 q=true∧Q (.bl (!deq p q)) G
section
variable{X:Cx}{pins:List (Addr×Obj)}{σ:L2.St}{H:Hp}{s:Shared}
theorem rc_D(I:Inv X pins σ H s)(p q:PV)(A:Around){x y:V}{v u:Value}(d1:Dv X.K H p x)(r1:RelV x v)(d2:Dv X.K H q y)(r2:RelV y u)(f1:pureP 100 p=true)(f2:pureP 100 q=true)(hu:A.units+101<cLine):SeqAt.RcAt A s v u (deq p q):=by
 have hu':A.units<cLine:=by(first|lia|omega)
 cases p with
 |ref a=>cases f1
 |ty a=>cases f1
 |ro a=>cases f1
 |tup ps=>
  obtain⟨l,xs,rfl,sq,dd⟩:=d1
  cases r1
  obtain⟨its,rv,pl,_⟩:=I.tuple sq
  cases q with
  |ref a=>cases f2
  |ty a=>cases f2
  |ro a=>cases f2
  |tup qs=>
   obtain⟨l2,ys,rfl,sq2,dd2⟩:=d2
   cases r2
   obtain⟨its2,rv2,pl2,_⟩:=I.tuple sq2
   have z:=SeqAt.RcAt.tuples (A:=A) (e:=deqJ ps qs) pl pl2 hu' fun j h1 h2=>eq_Ds I 99 99 ps qs A.in1 dd rv dd2 rv2 f1 f2 (by rw[PySem.Around.in1_units];(first|lia|omega)) j h1 h2
   rw[List.size_toArray,List.size_toArray,←rv.length,←rv2.length,dd.length,dd2.length,deqs_min]at z
   unfold deq
   exact z
  |non=>obtain rfl:y= .non:=d2;cases r2;exact SeqAt.RcAt.tuple_none pl hu'
  |bl b=>obtain rfl:y= .bl b:=d2;cases r2;exact SeqAt.RcAt.tuple_bool b pl hu'
  |int b=>obtain rfl:y= .int b:=d2;obtain⟨t,rfl⟩:=r2;exact SeqAt.RcAt.tuple_int b t pl hu'
  |str b=>obtain rfl:y= .str b:=d2;obtain⟨t,rfl⟩:=r2;exact SeqAt.RcAt.tuple_str b t pl hu'
 |non=>
  obtain rfl:x= .non:=d1
  cases r1
  cases q with
  |ref a=>cases f2
  |ty a=>cases f2
  |ro a=>cases f2
  |tup qs=>
   obtain⟨l2,ys,rfl,sq2,dd2⟩:=d2
   cases r2
   obtain⟨its2,rv2,pl2,_⟩:=I.tuple sq2
   exact SeqAt.RcAt.none_tuple pl2 hu'
  |non=>obtain rfl:y= .non:=d2;cases r2;exact SeqAt.RcAt.none_none
  |bl b=>obtain rfl:y= .bl b:=d2;cases r2;exact SeqAt.RcAt.none_bool b
  |int b=>obtain rfl:y= .int b:=d2;obtain⟨t,rfl⟩:=r2;exact SeqAt.RcAt.none_int b t
  |str b=>obtain rfl:y= .str b:=d2;obtain⟨t,rfl⟩:=r2;exact SeqAt.RcAt.none_str b t
 |bl a=>
  obtain rfl:x= .bl a:=d1
  cases r1
  cases q with
  |ref a=>cases f2
  |ty a=>cases f2
  |ro a=>cases f2
  |tup qs=>
   obtain⟨l2,ys,rfl,sq2,dd2⟩:=d2
   cases r2
   obtain⟨its2,rv2,pl2,_⟩:=I.tuple sq2
   exact SeqAt.RcAt.bool_tuple a pl2 hu'
  |non=>obtain rfl:y= .non:=d2;cases r2;exact SeqAt.RcAt.bool_none a
  |bl b=>obtain rfl:y= .bl b:=d2;cases r2;exact SeqAt.RcAt.bool_bool a b
  |int b=>obtain rfl:y= .int b:=d2;obtain⟨t,rfl⟩:=r2;exact SeqAt.RcAt.bool_int a b t
  |str b=>obtain rfl:y= .str b:=d2;obtain⟨t,rfl⟩:=r2;exact SeqAt.RcAt.bool_str a b t
 |int a=>
  obtain rfl:x= .int a:=d1
  obtain⟨t',rfl⟩:=r1
  cases q with
  |ref a=>cases f2
  |ty a=>cases f2
  |ro a=>cases f2
  |tup qs=>
   obtain⟨l2,ys,rfl,sq2,dd2⟩:=d2
   cases r2
   obtain⟨its2,rv2,pl2,_⟩:=I.tuple sq2
   exact SeqAt.RcAt.int_tuple a t' pl2 hu'
  |non=>obtain rfl:y= .non:=d2;cases r2;exact SeqAt.RcAt.int_none a t'
  |bl b=>obtain rfl:y= .bl b:=d2;cases r2;exact SeqAt.RcAt.int_bool a t' b
  |int b=>obtain rfl:y= .int b:=d2;obtain⟨t,rfl⟩:=r2;exact SeqAt.RcAt.int_int a t' b t
  |str b=>obtain rfl:y= .str b:=d2;obtain⟨t,rfl⟩:=r2;exact SeqAt.RcAt.int_str a t' b t
 |str a=>
  obtain rfl:x= .str a:=d1
  obtain⟨t',rfl⟩:=r1
  cases q with
  |ref a=>cases f2
  |ty a=>cases f2
  |ro a=>cases f2
  |tup qs=>
   obtain⟨l2,ys,rfl,sq2,dd2⟩:=d2
   cases r2
   obtain⟨its2,rv2,pl2,_⟩:=I.tuple sq2
   exact SeqAt.RcAt.str_tuple a t' pl2 hu'
  |non=>obtain rfl:y= .non:=d2;cases r2;exact SeqAt.RcAt.str_none a t'
  |bl b=>obtain rfl:y= .bl b:=d2;cases r2;exact SeqAt.RcAt.str_bool a t' b
  |int b=>obtain rfl:y= .int b:=d2;obtain⟨t,rfl⟩:=r2;exact SeqAt.RcAt.str_int a t' b t
  |str b=>obtain rfl:y= .str b:=d2;obtain⟨t,rfl⟩:=r2;exact SeqAt.RcAt.str_str a t' b t
theorem rcne_D(I:Inv X pins σ H s)(p q:PV)(A:Around){x y:V}{v u:Value}(d1:Dv X.K H p x)(r1:RelV x v)(d2:Dv X.K H q y)(r2:RelV y u)(f1:pureP 100 p=true)(f2:pureP 100 q=true)(hu:A.units+101<cLine):SeqAt.RcNeAt A s v u (!deq p q):=by
 have hu':A.units<cLine:=by(first|lia|omega)
 cases p with
 |ref a=>cases f1
 |ty a=>cases f1
 |ro a=>cases f1
 |tup ps=>
  obtain⟨l,xs,rfl,sq,dd⟩:=d1
  cases r1
  obtain⟨its,rv,pl,_⟩:=I.tuple sq
  cases q with
  |ref a=>cases f2
  |ty a=>cases f2
  |ro a=>cases f2
  |tup qs=>
   obtain⟨l2,ys,rfl,sq2,dd2⟩:=d2
   cases r2
   obtain⟨its2,rv2,pl2,_⟩:=I.tuple sq2
   have z:=SeqAt.RcNeAt.tuples (A:=A) (e:=deqJ ps qs) pl pl2 hu' fun j h1 h2=>eq_Ds I 99 99 ps qs A.in1 dd rv dd2 rv2 f1 f2 (by rw[PySem.Around.in1_units];(first|lia|omega)) j h1 h2
   rw[List.size_toArray,List.size_toArray,←rv.length,←rv2.length,dd.length,dd2.length,deqs_min]at z
   unfold deq
   exact z
  |non=>obtain rfl:y= .non:=d2;cases r2;exact SeqAt.RcNeAt.tuple_none pl hu'
  |bl b=>obtain rfl:y= .bl b:=d2;cases r2;exact SeqAt.RcNeAt.tuple_bool b pl hu'
  |int b=>obtain rfl:y= .int b:=d2;obtain⟨t,rfl⟩:=r2;exact SeqAt.RcNeAt.tuple_int b t pl hu'
  |str b=>obtain rfl:y= .str b:=d2;obtain⟨t,rfl⟩:=r2;exact SeqAt.RcNeAt.tuple_str b t pl hu'
 |non=>
  obtain rfl:x= .non:=d1
  cases r1
  cases q with
  |ref a=>cases f2
  |ty a=>cases f2
  |ro a=>cases f2
  |tup qs=>
   obtain⟨l2,ys,rfl,sq2,dd2⟩:=d2
   cases r2
   obtain⟨its2,rv2,pl2,_⟩:=I.tuple sq2
   exact SeqAt.RcNeAt.none_tuple pl2 hu'
  |non=>obtain rfl:y= .non:=d2;cases r2;exact SeqAt.RcNeAt.none_none
  |bl b=>obtain rfl:y= .bl b:=d2;cases r2;exact SeqAt.RcNeAt.none_bool b
  |int b=>obtain rfl:y= .int b:=d2;obtain⟨t,rfl⟩:=r2;exact SeqAt.RcNeAt.none_int b t
  |str b=>obtain rfl:y= .str b:=d2;obtain⟨t,rfl⟩:=r2;exact SeqAt.RcNeAt.none_str b t
 |bl a=>
  obtain rfl:x= .bl a:=d1
  cases r1
  cases q with
  |ref a=>cases f2
  |ty a=>cases f2
  |ro a=>cases f2
  |tup qs=>
   obtain⟨l2,ys,rfl,sq2,dd2⟩:=d2
   cases r2
   obtain⟨its2,rv2,pl2,_⟩:=I.tuple sq2
   exact SeqAt.RcNeAt.bool_tuple a pl2 hu'
  |non=>obtain rfl:y= .non:=d2;cases r2;exact SeqAt.RcNeAt.bool_none a
  |bl b=>obtain rfl:y= .bl b:=d2;cases r2;exact SeqAt.RcNeAt.bool_bool a b
  |int b=>obtain rfl:y= .int b:=d2;obtain⟨t,rfl⟩:=r2;exact SeqAt.RcNeAt.bool_int a b t
  |str b=>obtain rfl:y= .str b:=d2;obtain⟨t,rfl⟩:=r2;exact SeqAt.RcNeAt.bool_str a b t
 |int a=>
  obtain rfl:x= .int a:=d1
  obtain⟨t',rfl⟩:=r1
  cases q with
  |ref a=>cases f2
  |ty a=>cases f2
  |ro a=>cases f2
  |tup qs=>
   obtain⟨l2,ys,rfl,sq2,dd2⟩:=d2
   cases r2
   obtain⟨its2,rv2,pl2,_⟩:=I.tuple sq2
   exact SeqAt.RcNeAt.int_tuple a t' pl2 hu'
  |non=>obtain rfl:y= .non:=d2;cases r2;exact SeqAt.RcNeAt.int_none a t'
  |bl b=>obtain rfl:y= .bl b:=d2;cases r2;exact SeqAt.RcNeAt.int_bool a t' b
  |int b=>obtain rfl:y= .int b:=d2;obtain⟨t,rfl⟩:=r2;exact SeqAt.RcNeAt.int_int a t' b t
  |str b=>obtain rfl:y= .str b:=d2;obtain⟨t,rfl⟩:=r2;exact SeqAt.RcNeAt.int_str a t' b t
 |str a=>
  obtain rfl:x= .str a:=d1
  obtain⟨t',rfl⟩:=r1
  cases q with
  |ref a=>cases f2
  |ty a=>cases f2
  |ro a=>cases f2
  |tup qs=>
   obtain⟨l2,ys,rfl,sq2,dd2⟩:=d2
   cases r2
   obtain⟨its2,rv2,pl2,_⟩:=I.tuple sq2
   exact SeqAt.RcNeAt.str_tuple a t' pl2 hu'
  |non=>obtain rfl:y= .non:=d2;cases r2;exact SeqAt.RcNeAt.str_none a t'
  |bl b=>obtain rfl:y= .bl b:=d2;cases r2;exact SeqAt.RcNeAt.str_bool a t' b
  |int b=>obtain rfl:y= .int b:=d2;obtain⟨t,rfl⟩:=r2;exact SeqAt.RcNeAt.str_int a t' b t
  |str b=>obtain rfl:y= .str b:=d2;obtain⟨t,rfl⟩:=r2;exact SeqAt.RcNeAt.str_str a t' b t
theorem op_eqD(hu:X.A.units+200<cLine):OpR X (compareOp .Eq) (lowB X.K eq2):=by
 intro pins s σ H x y v u Q I rx ry h
 obtain⟨p,q,G,Q2,d1,d2,rp,h,cl⟩:=h
 have fin:∀(f1:pureP 100 p=true) (f2:pureP 100 q=true),Q2 (.bl (deq p q)) G→wpAny (model X.prog X.w) X.A (compareOp .Eq v u) (EP X pins σ Q) X.xe s:=fun f1 f2 hq=>
  rc_D I p q X.A d1 rx d2 ry f1 f2 (by(first|lia|omega)) X.prog X.w X.xe _ ⟨.bl _,H,I,rfl,cl _ _ _ _ hq rfl rp .refl⟩
 unfold eq2 at h
 split at h
 ·rename_i a b
  split at h
  ·rename_i ps qs e1 e2
   obtain⟨f1,f2,hq⟩:=h
   obtain rfl:x= .ref a:=d1
   obtain rfl:y= .ref b:=d2
   cases rx
   cases ry
   obtain⟨xs,sa,da⟩:=lk_sq rp e1
   obtain⟨ys,sb,db⟩:=lk_sq rp e2
   obtain⟨us,r,pl,_⟩:=I.list sa
   obtain⟨ws,r',pl',_⟩:=I.list sb
   have l1:=r.length
   have l2:=r'.length
   have l3:=da.length
   have l4:=db.length
   by_cases hl:ps.length=qs.length
   ·refine SeqAt.eq_listAt (e:=deqJ ps qs) pl.isList pl'.isList (by simp;(first|lia|omega)) (by(first|lia|omega)) (fun j h1 h2=>eq_Ds I 100 100 ps qs X.A.in1 da r db r' f1 f2 (by rw[PySem.Around.in1_units];(first|lia|omega)) j h1 h2) ⟨.bl (deqs ps qs),H,I,?_,cl _ _ _ _ hq rfl rp .refl⟩
    rw[List.size_toArray,←l1,l3,deqs_range ps qs hl]
    rfl
   ·refine SeqAt.eq_list_lengthsAt pl.isList pl'.isList (by simp;(first|lia|omega)) (by(first|lia|omega)) ⟨.bl (deqs ps qs),H,I,?_,cl _ _ _ _ hq rfl rp .refl⟩
    rw[deqs_len hl]
    rfl
  ·exact h.elim
 ·exact h.elim
 ·exact h.elim
 ·obtain⟨f1,f2,hq⟩:=h
  exact fin f1 f2 hq
theorem op_neD(hu:X.A.units+200<cLine):OpR X (compareOp .NotEq) (lowB X.K ne2):=by
 intro pins s σ H x y v u Q I rx ry h
 obtain⟨p,q,G,Q2,d1,d2,rp,h,cl⟩:=h
 have fin:∀(f1:pureP 100 p=true) (f2:pureP 100 q=true),Q2 (.bl (!deq p q)) G→wpAny (model X.prog X.w) X.A (compareOp .NotEq v u) (EP X pins σ Q) X.xe s:=fun f1 f2 hq=>
  rcne_D I p q X.A d1 rx d2 ry f1 f2 (by(first|lia|omega)) X.prog X.w X.xe _ ⟨.bl _,H,I,rfl,cl _ _ _ _ hq rfl rp .refl⟩
 unfold ne2 at h
 split at h
 ·rename_i a b
  split at h
  ·rename_i ps qs e1 e2
   obtain⟨f1,f2,hq⟩:=h
   obtain rfl:x= .ref a:=d1
   obtain rfl:y= .ref b:=d2
   cases rx
   cases ry
   obtain⟨xs,sa,da⟩:=lk_sq rp e1
   obtain⟨ys,sb,db⟩:=lk_sq rp e2
   obtain⟨us,r,pl,_⟩:=I.list sa
   obtain⟨ws,r',pl',_⟩:=I.list sb
   have l1:=r.length
   have l2:=r'.length
   have l3:=da.length
   have l4:=db.length
   by_cases hl:ps.length=qs.length
   ·refine SeqAt.RcNeAt.lists (e:=deqJ ps qs) pl.isList pl'.isList (by simp;(first|lia|omega)) (by(first|lia|omega)) (fun j h1 h2=>eq_Ds I 100 100 ps qs X.A.in1 da r db r' f1 f2 (by rw[PySem.Around.in1_units];(first|lia|omega)) j h1 h2) _ _ _ _ ⟨.bl (!deqs ps qs),H,I,?_,cl _ _ _ _ hq rfl rp .refl⟩
    rw[List.size_toArray,←l1,l3,deqs_range ps qs hl]
    rfl
   ·refine SeqAt.RcNeAt.lists_lengths pl.isList pl'.isList (by simp;(first|lia|omega)) (by(first|lia|omega)) _ _ _ _ ⟨.bl (!deqs ps qs),H,I,?_,cl _ _ _ _ hq rfl rp .refl⟩
    rw[deqs_len hl]
    rfl
  ·exact h.elim
 ·exact h.elim
 ·exact h.elim
 ·obtain⟨f1,f2,hq⟩:=h
  exact fin f1 f2 hq
end
end L3
namespace L3
open PySem L2
theorem it_tup{K:PySem.W.Frag}{H1:Hp}{a:Addr}{vs:List V}{ps:List PV}(sq:SqT K H1 a vs)(d:Dvs K H1 ps vs):ItOk K H1 (Itt K a) ps (fun _=>True):=fun i H G k r _=>by
 have sq':=k.1 a vs sq
 have d':=d.keep k
 refine⟨fun hi=> ?_,fun hi=>⟨vs,sq',by rw[d.length];(first|lia|omega)⟩,fun x H' hi y=> ?_⟩
 ·obtain⟨v,e,_⟩:=d'.at (List.getElem?_eq_getElem hi)
  exact⟨vs,v,sq',e⟩
 ·obtain⟨rfl,y⟩:=y
  obtain⟨p,e,dp⟩:=d'.get (y vs sq')
  exact⟨p,e,.refl,r,dp⟩
theorem it_lst{K:PySem.W.Frag}{H1:Hp}{a:Addr}{ps:List PV}:ItOk K H1 (Itl K a) ps (fun G=>lk G a=some ps):=fun i H G k r c=>by
 obtain⟨vs,sq',d'⟩:=lk_sq r c
 refine⟨fun hi=> ?_,fun hi=>⟨vs,sq',by rw[d'.length];(first|lia|omega)⟩,fun x H' hi y=> ?_⟩
 ·obtain⟨v,e,_⟩:=d'.at (List.getElem?_eq_getElem hi)
  exact⟨vs,v,sq',e⟩
 ·obtain⟨rfl,y⟩:=y
  obtain⟨p,e,dp⟩:=d'.get (y vs sq')
  exact⟨p,e,.refl,r,dp⟩
noncomputable def signsP(z:Str):List PV:=z.cps.toList.map fun c=> .str ⟨#[c]⟩
theorem it_str{K:PySem.W.Frag}{H1:Hp}(z:Str):ItOk K H1 (Its z) (signsP z) (fun _=>True):=fun i H G k r _=>by
 have hl:(signsP z).length=z.cps.size:=by unfold signsP;simp
 refine⟨fun hi=> ?_,fun hi=> ?_,fun x H' hi y=> ?_⟩
 ·show i<z.cps.size
  (first|lia|omega)
 ·show z.cps.size≤i
  (first|lia|omega)
 ·obtain⟨rfl,c,e,rfl⟩:=y
  refine⟨.str ⟨#[c]⟩,?_,.refl,r,rfl⟩
  unfold signsP
  rw[List.getElem?_map]
  have:z.cps.toList[i]? =some c:=by simpa using e
  rw[this];rfl
noncomputable def intsP(lo:Int)(n:Nat):List PV:=(List.range n).map fun(i:Nat)=> .int (lo+i)
theorem it_rng{K:PySem.W.Frag}{H1:Hp}(lo:Int)(n:Nat):ItOk K H1 (Itr lo n) (intsP lo n) (fun _=>True):=fun i H G k r _=>by
 have hl:(intsP lo n).length=n:=by unfold intsP;simp
 refine⟨fun hi=> ?_,fun hi=> ?_,fun x H' hi y=> ?_⟩
 ·show i<n
  (first|lia|omega)
 ·show n≤i
  (first|lia|omega)
 ·obtain⟨rfl,rfl⟩:=y
  refine⟨.int (lo+i),?_,.refl,r,rfl⟩
  unfold intsP
  rw[List.getElem?_map,List.getElem?_range (by(first|lia|omega))]
  rfl
noncomputable abbrev itS(t:E2):TI2:=fun τ G R=>t τ G fun p G1=>match p with
 | .tup ps=>R ps (fun _=>True) G1
 | .ref a=>match lk G1 a with
  |some ps=>R ps (fun G=>lk G a=some ps) G1
  |none=>False
 | .str z=>R (signsP z) (fun _=>True) G1
 |_=>False
noncomputable abbrev itR1(t:A2):TI2:=fun τ G R=>t τ G fun ps G1=>match ps with
 |[.int j]=> -(2^62)≤j∧j<2^62∧R (intsP 0 j.toNat) (fun _=>True) G1
 |_=>False
theorem str_val{X:Cx}{pins:List (Addr×Obj)}{σ:L2.St}{H1:Hp}{s1:Shared}{x:Str}{px:Pos}{z:Str}{v:Value}{R:It→Hp→Prop}(I1:Inv X pins σ H1 s1)(r1:RelV (.str z) v)(q:R (Its z) H1):
  wpAny (model X.prog X.w) X.A (pyIter v) (PIE X pins σ (.Name x px) R) X.xe s1:=by
 obtain⟨t,rfl⟩:=r1
 cases ha:z.cps.all (· <128)
 ·refine PySem.wpAny_pyIter_wide ha ⟨s1.heap.objs.size,[s1.heap.objs.size],_,_,H1,rfl,I1.kept (t':=s1.toks) fun b o e=>Heap.get?_push_of_some _ e,turn_str _ z t "str_iterator" (.inr rfl),⟨⟨_,Heap.get?_push_size _ rfl,rfl,rfl⟩,Nat.zero_le _⟩,fun b hb=> ?_,q⟩
  have e:b=s1.heap.objs.size:=by simpa using hb
  subst e
  exact I1.fpOk (Nat.le_refl _) (I1.hok.fresh (Nat.le_refl _))
 ·refine PySem.wpAny_pyIter_ascii ha ⟨s1.heap.objs.size,[s1.heap.objs.size],_,_,H1,rfl,I1.kept (t':=s1.toks) fun b o e=>Heap.get?_push_of_some _ e,turn_str _ z t "str_ascii_iterator" (.inl rfl),⟨⟨_,Heap.get?_push_size _ rfl,rfl,rfl⟩,Nat.zero_le _⟩,fun b hb=> ?_,q⟩
  have e:b=s1.heap.objs.size:=by simpa using hb
  subst e
  exact I1.fpOk (Nat.le_refl _) (I1.hok.fresh (Nat.le_refl _))
section
variable{X:Cx}{l tg a b:Expr}{t:E2}{ta:A2}{x:Str}{px p pos:Pos}
theorem ji_name(hl:JE X l t):JI X (.Name x px) l (itS t):=⟨by
 intro pins s σ H R I h
 obtain⟨τ,G,R2,rs,rp,h,cl⟩:=h
 refine thn (hl.h pins s σ H (fun v H1=>∃p G1,Dv X.K H1 p v∧Rep X.K H1 G1∧Keep X.K H H1∧(match p with
  | .tup ps=>R2 ps (fun _=>True) G1
  | .ref a=>match lk G1 a with
   |some ps=>R2 ps (fun G=>lk G a=some ps) G1
   |none=>False
  | .str z=>R2 (signsP z) (fun _=>True) G1
  |_=>False)) I ⟨τ,G,_,rs,rp,h,fun p G1 v H1 q d r k=>⟨p,G1,d,r,k,q⟩⟩) fun v s1 ⟨y,H1,I1,r1,q,G1,d1,rp1,k1,q1⟩=> ?_
 cases q with
 |tup ps=>
  obtain⟨a,vs,rfl,sq,dv⟩:=d1
  cases r1
  obtain⟨its,rv,p,hz⟩:=I1.tuple sq
  refine wpAny_pyIter_tuple (show s1.heap.IsTuple a its.toArray from p) ?_
  refine⟨s1.heap.objs.size,[s1.heap.objs.size],_,_,H1,rfl,I1.kept (t':=s1.toks) fun b o e=>Heap.get?_push_of_some _ e,turn_tuple a _,⟨_,Heap.get?_push_size _ rfl,rfl,rfl⟩,fun b hb=> ?_,cl _ _ _ _ _ q1 rp1 k1 (it_tup sq dv)⟩
  have e:b=s1.heap.objs.size:=by simpa using hb
  subst e
  exact I1.fpOk (Nat.le_refl _) (I1.hok.fresh (Nat.le_refl _))
 |ref a=>
  obtain rfl:y= .ref a:=d1
  cases r1
  dsimp only at q1
  split at q1
  ·rename_i ps e
   obtain⟨vs,sq,dv⟩:=lk_sq rp1 e
   obtain⟨its,rv,p,hz⟩:=I1.list sq
   refine wpAny_pyIter_list p.isList ?_
   refine⟨s1.heap.objs.size,[s1.heap.objs.size],_,_,H1,rfl,I1.kept (t':=s1.toks) fun b o e=>Heap.get?_push_of_some _ e,turn_list a _,⟨_,Heap.get?_push_size _ rfl,rfl,rfl⟩,fun b hb=> ?_,cl _ _ _ _ _ q1 rp1 k1 it_lst⟩
   have e:b=s1.heap.objs.size:=by simpa using hb
   subst e
   exact I1.fpOk (Nat.le_refl _) (I1.hok.fresh (Nat.le_refl _))
  ·exact q1.elim
 |str z=>
  obtain rfl:y= .str z:=d1
  exact str_val I1 r1 (cl _ _ _ _ _ q1 rp1 k1 (it_str z))
 |non=>exact q1.elim
 |bl b=>exact q1.elim
 |int i=>exact q1.elim
 |ty n=>exact q1.elim
 |ro n=>exact q1.elim⟩
theorem ji_range1(hm:X.mg "range" =none)(ha:JA X [a] ta)(hg:Gl X "range" :=by rfl)(hs:starEach [a] X.env=[(false,eval a X.env)]:=by rfl):JI X tg (.Call (.Name "range" p) [a] [] pos) (itR1 ta):= .of (pi_range1 hg hm ha.h hs) fun σ H R hPl=>by
 obtain⟨τ,G,R2,rs,rp,h,cl⟩:=hPl
 refine⟨τ,G,_,rs,rp,h,fun ps G1 vs H1 q d r k=> ?_⟩
 split at q
 ·rename_i j
  obtain⟨v,vr,rfl,d1,d⟩:=d
  obtain rfl:vr=[]:=d
  obtain rfl:v= .int j:=d1
  exact⟨j,rfl,q.1,q.2.1,cl _ _ _ _ _ q.2.2 r k (it_rng _ _)⟩
 ·exact q.elim
end
section
variable{X:Cx}{a:Expr}{ta:A2}{p pos tp:Pos}{elts:List Expr}{x1:Nat}
end
@[reducible] noncomputable def cap2:List (Option Nat)→St2→St2
 |[],_=>[]
 |some i::r,τ=>gt τ i::cap2 r τ
 |none::r,τ=>none::cap2 r τ
theorem cap2_eq:∀(ix:List (Option Nat)) (τ:St2),cap2 ix τ=ix.map fun o=>match o with
  |some i=>(τ[i]?).getD none
  |none=>none
 |[],_=>rfl
 |some i::r,τ=>by simp only[cap2,List.map_cons,gt_eq,cap2_eq r τ]
 |none::r,τ=>by simp only[cap2,List.map_cons,cap2_eq r τ]
theorem cap_rst{K:PySem.W.Frag}{H:Hp}{σ:L2.St}{τ:St2}(ix:List (Option Nat))(r:RSt K H σ τ):RSt K H (cap ix σ) (cap2 ix τ):=by
 rw[cap2_eq]
 refine⟨by unfold cap;simp,fun i p e=> ?_⟩
 unfold cap
 rw[List.getElem?_map]at e⊢
 cases q:ix[i]? with
 |none=>rw[q]at e;cases e
 |some o=>
  cases o with
  |none=>rw[q]at e;cases e
  |some k=>
   rw[q]at e
   have e':some ((τ[k]?).getD none)=some (some p):=e
   have e2:=Option.some.inj e'
   cases q2:τ[k]? with
   |none=>rw[q2]at e2;cases e2
   |some z=>
    rw[q2]at e2
    have e3:z=some p:=e2
    subst e3
    obtain⟨v,ev,d⟩:=r.2 k p q2
    refine⟨v,?_,d⟩
    show some ((σ[k]?).getD none)=_
    rw[ev]
    rfl
noncomputable def cGo(items:List PV)(c:Gp→Prop)(ix:List (Option Nat))(j:Nat)(τ:St2)(tf:T2)(te:E2)(Q:K2)(G1:Gp)(acc:Addr):Prop:=
 ∃W:Nat→List PV→Gp→Prop,W 0 [] (up G1 acc (.lst []))∧(∀i ys G,i≤items.length→W i ys G→c G∧G acc=some (.lst ys)∧ys.length<16000000)∧
  (∀i ys G x,items[i]? =some x→W i ys G→tf (st (cap2 ix τ) j (some x)) G fun b G2=>way2 b (te (st (cap2 ix τ) j (some x)) G2 fun y G3=>G3 acc=some (.lst ys)∧W (i+1) (ys++[y]) (up G3 acc (.lst (ys++[y])))) (W (i+1) ys G2))∧∀ys G,W items.length ys G→Q (.ref acc) G
noncomputable abbrev eComp(ti:TI2)(ix:List (Option Nat))(j:Nat)(tf:T2)(te:E2):E2:=fun τ G Q=>ti τ G fun items c G1=>∀acc,G1 acc=none→cGo items c ix j τ tf te Q G1 acc
structure JF(X:Cx)(ifs:List Expr)(t:T2):Prop where
 h:PF X ifs (lowT X.K t)
noncomputable abbrev tYes2:T2:=fun _ G Q=>Q true G
section
variable{X:Cx}{c:Expr}{tA:T2}
theorem jf_nil:JF X [] tYes2:=⟨fun pins s σ H Q I ⟨τ,G,Q2,rs,rp,q,cl⟩=>pf_nil pins s σ H Q I (cl _ _ _ q rp .refl)⟩
theorem jf_one(h:JT X c tA):JF X [c] tA:=⟨pf_one h.h⟩
theorem low_comp{ti:TI2}{ix:List (Option Nat)}{j:Nat}{tf:T2}{te:E2}{σ:L2.St}{H:Hp}{Q:VK}(q:lowE X.K (eComp ti ix j tf te) σ H Q):tComp (lowI X.K ti) ix j (lowT X.K tf) (lowE X.K te) σ H Q:=by
 obtain⟨τ,G,Q2,rs,rp,q,cl⟩:=q
 refine⟨τ,G,_,rs,rp,q,fun items c G1 J H1 q1 r1 k1 ok acc hacc=> ?_⟩
 obtain⟨W,w0,hW,turn,done⟩:=q1 acc (r1.none hacc)
 have kn:Keep X.K H1 (upd H1 acc (.lst [])):=keep_new hacc
 refine⟨fun i m H'=>m=items.length-i∧i≤items.length∧∃ys G',W i ys G'∧Rep X.K H' G'∧Keep X.K H1 H',⟨_,rfl,Nat.zero_le _,[],_,w0,r1.new hacc .nil,kn⟩,?_⟩
 rintro i m H2 ⟨rfl,hi,ys,G2,w2,r2,k2⟩
 obtain⟨hc,hacc2,hys⟩:=hW i ys G2 hi w2
 obtain⟨o1,o2,o3⟩:=ok i H2 G2 k2 r2 hc
 by_cases hlt:i<items.length
 ·refine .inr ⟨o1 hlt,fun x H3 y=> ?_⟩
  obtain⟨p,ep,k3,r3,d3⟩:=o3 x H3 hlt y
  have k13:=k2.trans k3
  have rs3:RSt X.K H3 ((cap ix σ).set j (some x)) (st (cap2 ix τ) j (some p)):=(cap_rst ix (rs.keep (k1.trans k13))).set d3 j
  refine⟨_,G2,_,rs3,r3,turn i ys G2 p ep w2,fun b G4 H4 q4 r4 k4=> ?_⟩
  have k14:=k13.trans k4
  cases b with
  |false=>exact iteF ⟨items.length-(i+1),by(first|lia|omega),rfl,hlt,ys,G4,q4,r4,k14⟩
  |true=>
   refine iteT ⟨_,G4,_,rs3.keep k4,r4,q4,fun y G5 v H5 q5 d5 r5 k5=> ?_⟩
   obtain⟨ea,w5⟩:=q5
   obtain⟨vs,hv,dv⟩:=r5.lst ea
   refine⟨vs,hv,by rw[dv.length];exact bigLt (Nat.le_of_lt hys),items.length-(i+1),by(first|lia|omega),rfl,hlt,ys++[y],_,w5,r5.put hv (dv.append (.cons d5 .nil)),(k14.trans k5).trans (keep_lst hv)⟩
 ·have e:i=items.length:=by(first|lia|omega)
  subst e
  exact .inl ⟨o2 rfl,cl _ _ _ _ (done ys G2 w2) rfl r2 (k1.trans k2)⟩
theorem j_comp{scope:Scope}{M:List Str}{ix:List (Option Nat)}{j:Nat}{x:Str}{elt iter:Expr}{px pos:Pos}{ifs:List Expr}{ti:TI2}{tf:T2}{te:E2}(S:compOkB X.env.scope X.N scope M ix j x=true)(hc:X.calm=true)(hi:JI X (.Name x px) iter ti)
  (hb:∀C s H fp,JF (cxComp X M scope C s H fp) ifs tf∧JE (cxComp X M scope C s H fp) elt te) (hs:∀x,foldedSetIterable iter X.env x=pure x:=by intro _;rfl):
  JE X (.ListComp elt [⟨.Name x px,iter,ifs,0⟩] scope pos) (eComp ti ix j tf te):= .of (pe_comp (compS S) hc hi.h (fun C s H fp=>⟨(hb C s H fp).1.h,(hb C s H fp).2.h⟩) hs) fun σ H Q q=>low_comp q
theorem js_comp{scope:Scope}{M:List Str}{ix:List (Option Nat)}{j n:Nat}{x y:Str}{elt iter:Expr}{px py pos spos:Pos}{ifs:List Expr}{ti:TI2}{tf:T2}{te:E2}(hN:X.N.Nodup)(hi:X.N[n]? =some y)(hy:X.env.scope.names.lookup y=some .local)
  (S:compOkB X.env.scope X.N scope M ix j x=true) (hc:X.calm=true) (hit:JI X (.Name x px) iter ti)
  (hb:∀C s H fp,JF (cxComp X M scope C s H fp) ifs tf∧JE (cxComp X M scope C s H fp) elt te)
  (hsw:swapsWith (.ListComp elt [⟨.Name x px,iter,ifs,0⟩] scope pos) (some (.Name y py)) spos.line X.env=pure true:=by rfl) (hs:∀x,foldedSetIterable iter X.env x=pure x:=by intro _;rfl):
  JS X (.Assign [.Name y py] (.ListComp elt [⟨.Name x px,iter,ifs,0⟩] scope pos) spos) (sAsg (eComp ti ix j tf te) (gN n)):= .of (ps_comp hN hi hy (compS S) hc hit.h (fun C s H fp=>⟨(hb C s H fp).1.h,(hb C s H fp).2.h⟩) hsw hs) fun D σ H ⟨τ,G,D2,rs,rp,q,cl⟩=>by
 exact low_comp (X:=X) ⟨τ,G,_,rs,rp,q,fun p G1 v H1 q1 d1 r1 k1=>cl.nx _ _ _ _ q1 ((rs.keep k1).set d1 n) r1 k1⟩
end
end L3
namespace L3
open PySem L2
noncomputable def add2:B2:=fun p q G Q=>match p,q with
 | .int i,.int j=>Q (.int (i+j)) G
 | .str a,.str b=>a.length+b.length≤16000000∧Q (.str (a++b)) G
 | .tup xs,.tup ys=>xs≠[]∧xs.length+ys.length≤16000000∧Q (.tup (xs++ys)) G
 | .ref a,.ref b=>match lk G a,lk G b with
  |some ps,some qs=>ps.length+qs.length≤16000000∧∀c,G c=none→Q (.ref c) (up G c (.lst (ps++qs)))
  |_,_=>False
 | .ref a,.ro qs=>match lk G a with
  |some ps=>ps.length+qs.length≤16000000∧∀c,G c=none→Q (.ref c) (up G c (.lst (ps++qs)))
  |none=>False
 |_,_=>False
noncomputable abbrev i2(C:Int→Int→Prop)(g:Int→Int→PV):B2:=fun p q G Q=>match p,q with
 | .int i,.int j=>C i j∧Q (g i j) G
 |_,_=>False
noncomputable abbrev i20(g:Int→Int→PV):B2:=fun p q G Q=>match p,q with
 | .int i,.int j=>Q (g i j) G
 |_,_=>False
noncomputable abbrev lt2:B2:=fun p q G Q=>match p,q with
 | .int i,.int j=>Q (.bl (decide (i<j))) G
 | .str a,.str b=>Q (.bl (decide (a.cps.toList<b.cps.toList))) G
 |_,_=>False
noncomputable abbrev le2:B2:=fun p q G Q=>match p,q with
 | .int i,.int j=>Q (.bl (decide (i≤j))) G
 | .str a,.str b=>Q (.bl (!(decide (b.cps.toList<a.cps.toList)))) G
 |_,_=>False
noncomputable abbrev gt2:B2:=i20 fun i j=> .bl (decide (j<i))
noncomputable abbrev ge2:B2:=i20 fun i j=> .bl (decide (j≤i))
noncomputable abbrev sub2:B2:=i20 fun i j=> .int (i-j)
noncomputable abbrev mod2:B2:=i2 (fun _ j=>0<j) fun i j=> .int (i%j)
noncomputable abbrev fdiv2:B2:=i2 CDivB fun i j=> .int (i/j)
noncomputable abbrev pow2:B2:=i2 CPow fun i j=> .int (i^j.toNat)
noncomputable def mul2:B2:=fun p q G Q=>match p,q with
 | .int i,.int j=>CMul i j∧Q (.int (i*j)) G
 | .ref a,.int k=>match G a with
  |some (.lst ps)=>(-(2^63)≤k∧k<2^63)∧ps.length*k.toNat≤16000000∧∀c,G c=none→Q (.ref c) (up G c (.lst (List.replicate k.toNat ps).flatten))
  |_=>False
 |_,_=>False
section
variable{X:Cx}
theorem i2_low{f:Value→Value→Sem Value}{C:Int→Int→Prop}{g:Int→Int→V}{g':Int→Int→PV}(h:OpR X f (rI C g))(hg:∀i j H,Dv X.K H (g' i j) (g i j)):OpR X f (lowB X.K (i2 C g')):=by
 intro pins s σ H x y v u Q I rx ry h'
 obtain⟨p,q,G,Q2,d1,d2,rp,q',cl⟩:=h'
 unfold i2 at q'
 split at q'
 ·rename_i i j
  obtain rfl:x= .int i:=d1
  obtain rfl:y= .int j:=d2
  exact h pins s σ H _ _ v u Q I rx ry ⟨i,j,rfl,rfl,q'.1,cl _ _ _ _ q'.2 (hg i j H) rp .refl⟩
 ·exact q'.elim
theorem i20_low{f:Value→Value→Sem Value}{g:Int→Int→V}{g':Int→Int→PV}(h:OpR X f (rI0 g))(hg:∀i j H,Dv X.K H (g' i j) (g i j)):OpR X f (lowB X.K (i20 g')):=by
 intro pins s σ H x y v u Q I rx ry h'
 obtain⟨p,q,G,Q2,d1,d2,rp,q',cl⟩:=h'
 unfold i20 at q'
 split at q'
 ·rename_i i j
  obtain rfl:x= .int i:=d1
  obtain rfl:y= .int j:=d2
  exact h pins s σ H _ _ v u Q I rx ry ⟨i,j,rfl,rfl,cl _ _ _ _ q' (hg i j H) rp .refl⟩
 ·exact q'.elim
theorem o_sub:OpR X (binaryOp .Sub) (lowB X.K sub2):=i20_low op_sub fun _ _ _=>rfl
theorem o_mod:OpR X (binaryOp .Mod) (lowB X.K mod2):=i2_low op_mod fun _ _ _=>rfl
theorem o_fdiv:OpR X (binaryOp .FloorDiv) (lowB X.K fdiv2):=i2_low op_fdivB fun _ _ _=>rfl
theorem o_pow:OpR X (binaryOp .Pow) (lowB X.K pow2):=i2_low op_pow fun _ _ _=>rfl
theorem o_gt:OpR X (compareOp .Gt) (lowB X.K gt2):=i20_low op_gt fun _ _ _=>rfl
theorem o_ge:OpR X (compareOp .GtE) (lowB X.K ge2):=i20_low op_ge fun _ _ _=>rfl
theorem o_lt:OpR X (compareOp .Lt) (lowB X.K lt2):=by
 intro pins s σ H x y v u Q I rx ry h
 obtain⟨p,q,G,Q2,d1,d2,rp,h,cl⟩:=h
 unfold lt2 at h
 split at h
 ·rename_i i j
  obtain rfl:x= .int i:=d1
  obtain rfl:y= .int j:=d2
  exact op_lt pins s σ H _ _ v u Q I rx ry ⟨i,j,rfl,rfl,cl _ _ _ _ h rfl rp .refl⟩
 ·rename_i i j
  obtain rfl:x= .str i:=d1
  obtain rfl:y= .str j:=d2
  exact op_lt_str pins s σ H _ _ v u Q I rx ry ⟨i,j,rfl,rfl,cl _ _ _ _ h rfl rp .refl⟩
 ·exact h.elim
theorem o_le:OpR X (compareOp .LtE) (lowB X.K le2):=by
 intro pins s σ H x y v u Q I rx ry h
 obtain⟨p,q,G,Q2,d1,d2,rp,h,cl⟩:=h
 unfold le2 at h
 split at h
 ·rename_i i j
  obtain rfl:x= .int i:=d1
  obtain rfl:y= .int j:=d2
  exact op_le pins s σ H _ _ v u Q I rx ry ⟨i,j,rfl,rfl,cl _ _ _ _ h rfl rp .refl⟩
 ·rename_i i j
  obtain rfl:x= .str i:=d1
  obtain rfl:y= .str j:=d2
  exact op_le_str pins s σ H _ _ v u Q I rx ry ⟨i,j,rfl,rfl,cl _ _ _ _ h rfl rp .refl⟩
 ·exact h.elim
theorem o_add:OpR X (binaryOp .Add) (lowB X.K add2):=by
 intro pins s σ H x y v u Q I rx ry h
 obtain⟨p,q,G,Q2,d1,d2,rp,h,cl⟩:=h
 unfold add2 at h
 split at h
 ·rename_i i j
  obtain rfl:x= .int i:=d1
  obtain rfl:y= .int j:=d2
  exact op_add pins s σ H _ _ v u Q I rx ry ⟨i,j,rfl,rfl,cl _ _ _ _ h rfl rp .refl⟩
 ·rename_i i j
  obtain rfl:x= .str i:=d1
  obtain rfl:y= .str j:=d2
  exact op_add_str pins s σ H _ _ v u Q I rx ry ⟨i,j,rfl,rfl,big h.1,cl _ _ _ _ h.2 rfl rp .refl⟩
 ·rename_i xs ys
  obtain⟨a,vs,rfl,sa,da⟩:=d1
  obtain⟨b,us,rfl,sb,db⟩:=d2
  obtain⟨ne,hl,hq⟩:=h
  have la:=da.length
  have lb:=db.length
  refine op_catT pins s σ H _ _ v u Q I rx ry ⟨a,b,vs,us,rfl,rfl,sa,sb,?_,by rw[la,lb];exact big hl,fun e=> ?_,fun _ c hc=> ?_⟩
  ·intro e;subst e
   exact ne (List.eq_nil_of_length_eq_zero (by rw[←la];rfl))
  ·subst e
   have ey:ys=[]:=List.eq_nil_of_length_eq_zero (by rw[←lb];rfl)
   subst ey
   rw[List.append_nil]at hq
   exact cl _ _ _ _ hq ⟨a,vs,rfl,sa,da⟩ rp .refl
  ·have kn:Keep X.K H (upd H c (.tup (vs++us))):=keep_new hc
   exact cl _ _ _ _ hq ⟨c,_,rfl,.of upd_same,(da.append db).keep kn⟩ (rp.tup hc) kn
 ·rename_i a b
  split at h
  ·rename_i ps qs e1 e2
   obtain⟨hl,hq⟩:=h
   obtain rfl:x= .ref a:=d1
   obtain rfl:y= .ref b:=d2
   obtain⟨vs,sa,da⟩:=lk_sq rp e1
   obtain⟨us,sb,db⟩:=lk_sq rp e2
   refine op_catS pins s σ H _ _ v u Q I rx ry ⟨a,b,vs,us,rfl,rfl,sa,sb,by rw[da.length,db.length];exact big hl,fun c hc=> ?_⟩
   exact cl _ _ _ _ (hq c (rp.none hc)) rfl (rp.new hc (da.append db)) (keep_new hc)
  ·exact h.elim
 ·rename_i a qs
  split at h
  ·rename_i ps e1
   obtain⟨hl,hq⟩:=h
   obtain rfl:x= .ref a:=d1
   obtain⟨b,us,rfl,sb,db⟩:=d2
   obtain⟨vs,sa,da⟩:=lk_sq rp e1
   refine op_catS pins s σ H _ _ v u Q I rx ry ⟨a,b,vs,us,rfl,rfl,sa,sb.sq,by rw[da.length,db.length];exact big hl,fun c hc=> ?_⟩
   exact cl _ _ _ _ (hq c (rp.none hc)) rfl (rp.new hc (da.append db)) (keep_new hc)
  ·exact h.elim
 ·exact h.elim
theorem Dvs.rep{K:PySem.W.Frag}{H:Hp}{ps:List PV}{vs:List V}(d:Dvs K H ps vs):∀n,Dvs K H (List.replicate n ps).flatten (List.replicate n vs).flatten
 |0=>rfl
 |n+1=>by
  rw[List.replicate_succ,List.replicate_succ,List.flatten_cons,List.flatten_cons]
  exact d.append (Dvs.rep d n)
theorem o_mul:OpR X (binaryOp .Mult) (lowB X.K mul2):=by
 intro pins s σ H x y v u Q I rx ry h
 obtain⟨p,q,G,Q2,d1,d2,rp,h,cl⟩:=h
 unfold mul2 at h
 split at h
 ·rename_i i j
  obtain rfl:x= .int i:=d1
  obtain rfl:y= .int j:=d2
  exact op_mul pins s σ H _ _ v u Q I rx ry ⟨i,j,rfl,rfl,h.1,cl _ _ _ _ h.2 rfl rp .refl⟩
 ·rename_i a k
  split at h
  ·rename_i ps e
   obtain⟨hk,hl,hq⟩:=h
   obtain rfl:x= .ref a:=d1
   obtain rfl:y= .int k:=d2
   obtain⟨vs,ha,da⟩:=rp.lst e
   refine op_rep pins s σ H _ _ v u Q I rx ry ⟨a,k,vs,rfl,rfl,ha,hk.1,hk.2,by rw[da.length];exact big hl,fun c hc=> ?_⟩
   exact cl _ _ _ _ (hq c (rp.none hc)) rfl (rp.new hc (da.rep _)) (keep_new hc)
  ·exact h.elim
 ·exact h.elim
end
noncomputable def flatP:PV→Bool
 | .non=>true
 | .bl _=>true
 | .int _=>true
 | .str _=>true
 |_=>false
noncomputable def inP(x:PV)(ps:List PV):Bool:=ps.any fun y=>deq y x
noncomputable def in2(neg:Bool):B2:=fun p q G Q=>match q with
 | .tup ps=>flatP p=true∧ps.all flatP=true∧Q (.bl (if neg then !inP p ps else inP p ps)) G
 | .ref a=>match lk G a with
  |some ps=>flatP p=true∧ps.all flatP=true∧Q (.bl (if neg then !inP p ps else inP p ps)) G
  |none=>False
 | .str j=>match p with
  | .str i=>Q (.bl (if neg then !(!(Builtin.Str.occurrences j i 0 j.length 1).isEmpty)else !(Builtin.Str.occurrences j i 0 j.length 1).isEmpty)) G
  |_=>False
 |_=>False
section
variable{X:Cx}
theorem flat_V{K:PySem.W.Frag}{H:Hp}{p:PV}{v:V}(f:flatP p=true)(d:Dv K H p v):flatV v=true:=by
 cases p with
 |non=>obtain rfl:v= .non:=d;rfl
 |bl b=>obtain rfl:v= .bl b:=d;rfl
 |int b=>obtain rfl:v= .int b:=d;rfl
 |str b=>obtain rfl:v= .str b:=d;rfl
 |_=>cases f
theorem flat_eq{K:PySem.W.Frag}{H:Hp}{p q:PV}{v u:V}(f1:flatP p=true)(f2:flatP q=true)(d1:Dv K H p v)(d2:Dv K H q u):eqV v u=deq p q:=by
 cases p with
 |non=>
  obtain rfl:v= .non:=d1
  cases q with
  |non=>obtain rfl:u= .non:=d2;rfl
  |bl b=>obtain rfl:u= .bl b:=d2;rfl
  |int b=>obtain rfl:u= .int b:=d2;rfl
  |str b=>obtain rfl:u= .str b:=d2;rfl
  |_=>cases f2
 |bl a=>
  obtain rfl:v= .bl a:=d1
  cases q with
  |non=>obtain rfl:u= .non:=d2;rfl
  |bl b=>obtain rfl:u= .bl b:=d2;rfl
  |int b=>obtain rfl:u= .int b:=d2;rfl
  |str b=>obtain rfl:u= .str b:=d2;rfl
  |_=>cases f2
 |int a=>
  obtain rfl:v= .int a:=d1
  cases q with
  |non=>obtain rfl:u= .non:=d2;rfl
  |bl b=>obtain rfl:u= .bl b:=d2;rfl
  |int b=>obtain rfl:u= .int b:=d2;rfl
  |str b=>obtain rfl:u= .str b:=d2;rfl
  |_=>cases f2
 |str a=>
  obtain rfl:v= .str a:=d1
  cases q with
  |non=>obtain rfl:u= .non:=d2;rfl
  |bl b=>obtain rfl:u= .bl b:=d2;rfl
  |int b=>obtain rfl:u= .int b:=d2;rfl
  |str b=>obtain rfl:u= .str b:=d2;rfl
  |_=>cases f2
 |_=>cases f1
theorem flat_in{K:PySem.W.Frag}{H:Hp}{x:PV}{xv:V}(fx:flatP x=true)(dx:Dv K H x xv):∀{ps:List PV} {vs:List V},ps.all flatP=true→Dvs K H ps vs→vs.all flatV=true∧inV xv vs=inP x ps
 |[],vs,_,d=>by rw[show vs=[]from d];exact⟨rfl,rfl⟩
 |p::ps,vs,f,d=>by
  obtain⟨v,r,rfl,d1,d2⟩:=d
  rw[List.all_cons,Bool.and_eq_true]at f
  obtain⟨h1,h2⟩:=flat_in fx dx f.2 d2
  refine⟨by rw[List.all_cons,flat_V f.1 d1,h1];rfl,?_⟩
  unfold inV inP at h2⊢
  rw[List.any_cons,List.any_cons,flat_eq f.1 fx d1 dx,h2]
theorem o_in:OpR X (compareOp .In) (lowB X.K (in2 false)):=by
 intro pins s σ H x y v u Q I rx ry h
 obtain⟨p,q,G,Q2,d1,d2,rp,h,cl⟩:=h
 unfold in2 at h
 split at h
 ·rename_i ps
  obtain⟨f1,f2,hq⟩:=h
  obtain⟨b,us,rfl,sb,db⟩:=d2
  obtain⟨g1,g2⟩:=flat_in f1 d1 f2 db
  refine op_in_seq pins s σ H _ _ v u Q I rx ry ⟨b,us,rfl,.inr sb,flat_V f1 d1,g1,?_⟩
  rw[g2]
  exact cl _ _ _ _ hq rfl rp .refl
 ·rename_i b
  split at h
  ·rename_i ps e
   obtain⟨f1,f2,hq⟩:=h
   obtain rfl:y= .ref b:=d2
   obtain⟨us,sb,db⟩:=lk_sq rp e
   obtain⟨g1,g2⟩:=flat_in f1 d1 f2 db
   refine op_in_seq pins s σ H _ _ v u Q I rx ry ⟨b,us,rfl,.inl sb,flat_V f1 d1,g1,?_⟩
   rw[g2]
   exact cl _ _ _ _ hq rfl rp .refl
  ·exact h.elim
 ·rename_i j
  split at h
  ·rename_i i
   obtain rfl:x= .str i:=d1
   obtain rfl:y= .str j:=d2
   exact op_in_str pins s σ H _ _ v u Q I rx ry ⟨i,j,rfl,rfl,cl _ _ _ _ h rfl rp .refl⟩
  ·exact h.elim
 ·exact h.elim
theorem o_notin:OpR X (compareOp .NotIn) (lowB X.K (in2 true)):=by
 intro pins s σ H x y v u Q I rx ry h
 obtain⟨p,q,G,Q2,d1,d2,rp,h,cl⟩:=h
 unfold in2 at h
 split at h
 ·rename_i ps
  obtain⟨f1,f2,hq⟩:=h
  obtain⟨b,us,rfl,sb,db⟩:=d2
  obtain⟨g1,g2⟩:=flat_in f1 d1 f2 db
  refine op_notIn_seq pins s σ H _ _ v u Q I rx ry ⟨b,us,rfl,.inr sb,flat_V f1 d1,g1,?_⟩
  rw[g2]
  exact cl _ _ _ _ hq rfl rp .refl
 ·rename_i b
  split at h
  ·rename_i ps e
   obtain⟨f1,f2,hq⟩:=h
   obtain rfl:y= .ref b:=d2
   obtain⟨us,sb,db⟩:=lk_sq rp e
   obtain⟨g1,g2⟩:=flat_in f1 d1 f2 db
   refine op_notIn_seq pins s σ H _ _ v u Q I rx ry ⟨b,us,rfl,.inl sb,flat_V f1 d1,g1,?_⟩
   rw[g2]
   exact cl _ _ _ _ hq rfl rp .refl
  ·exact h.elim
 ·rename_i j
  split at h
  ·rename_i i
   obtain rfl:x= .str i:=d1
   obtain rfl:y= .str j:=d2
   exact op_notin_str pins s σ H _ _ v u Q I rx ry ⟨i,j,rfl,rfl,cl _ _ _ _ h rfl rp .refl⟩
  ·exact h.elim
 ·exact h.elim
end
noncomputable def ix2:B2:=fun p q G Q=>match p,q with
 | .tup ps,.int i=>match atI ps i with
  |some x=>Q x G
  |none=>False
 | .ref a,.int i=>match lk G a with
  |some ps=>match atI ps i with
   |some x=>Q x G
   |none=>False
  |none=>False
 | .str z,.int i=>z.length≤16000000∧match atI z.cps.toList i with
  |some c=>Q (.str ⟨#[c]⟩) G
  |none=>False
 |_,_=>False
theorem atI_D{K:PySem.W.Frag}{H:Hp}{ps:List PV}{vs:List V}{i:Int}{p:PV}(d:Dvs K H ps vs)(h:atI ps i=some p):∃v,atI vs i=some v∧Dv K H p v:=by
 unfold atI at h⊢
 rw[d.length]
 cases e:ixN ps.length i with
 |none=>rw[e]at h;cases h
 |some j=>
  rw[e]at h
  exact d.at h
theorem x_seq{X:Cx}:IxR X (lowB X.K ix2):=by
 intro va sl pins s σ H x y v u Q I rx ry h hs
 obtain⟨p,q,G,Q2,d1,d2,rp,h,cl⟩:=h
 unfold ix2 at h
 split at h
 ·rename_i ps i
  split at h
  ·rename_i z e
   obtain⟨a,vs,rfl,sa,da⟩:=d1
   obtain rfl:y= .int i:=d2
   obtain⟨w,ew,dw⟩:=atI_D da e
   exact ix_tup va sl pins s σ H _ _ v u Q I rx ry ⟨a,vs,i,w,rfl,rfl,sa,ew,cl _ _ _ _ h dw rp .refl⟩ hs
  ·exact h.elim
 ·rename_i a i
  split at h
  ·rename_i ps e0
   split at h
   ·rename_i z e
    obtain rfl:x= .ref a:=d1
    obtain rfl:y= .int i:=d2
    obtain⟨vs,sa,da⟩:=lk_sq rp e0
    obtain⟨w,ew,dw⟩:=atI_D da e
    exact ix_list va sl pins s σ H _ _ v u Q I rx ry ⟨a,vs,i,w,rfl,rfl,sa,ew,cl _ _ _ _ h dw rp .refl⟩ hs
   ·exact h.elim
  ·exact h.elim
 ·rename_i z i
  obtain⟨hz,h⟩:=h
  split at h
  ·rename_i c e
   obtain rfl:x= .str z:=d1
   obtain rfl:y= .int i:=d2
   exact ix_str va sl pins s σ H _ _ v u Q I rx ry ⟨z,i,c,rfl,rfl,big hz,e,cl _ _ _ _ h rfl rp .refl⟩ hs
  ·exact h.elim
 ·exact h.elim
end L3
namespace L3
open PySem L2
noncomputable def len2:C2:=fun ps G Q=>match ps with
 |[.tup xs]=>Q (.int xs.length) G
 |[.ref a]=>match lk G a with
  |some xs=>Q (.int xs.length) G
  |none=>False
 |[.str z]=>z.length≤16000000∧Q (.int z.length) G
 |_=>False
theorem one_arg{K:PySem.W.Frag}{H:Hp}{p:PV}{vs:List V}(d:Dvs K H [p] vs):∃v,vs=[v]∧Dv K H p v:=by
 obtain⟨v,r,rfl,d1,d2⟩:=d
 obtain rfl:r=[]:=d2
 exact⟨v,rfl,d1⟩
theorem two_arg{K:PySem.W.Frag}{H:Hp}{p q:PV}{vs:List V}(d:Dvs K H [p,q] vs):∃v u,vs=[v,u]∧Dv K H p v∧Dv K H q u:=by
 obtain⟨v,r,rfl,d1,d2⟩:=d
 obtain⟨u,rfl,d3⟩:=one_arg d2
 exact⟨v,u,rfl,d1,d3⟩
section
variable{X:Cx}
theorem c_len:CallR X (.builtin "len") (lowC X.K len2):=by
 intro pins s σ H xs us Q I rs h
 obtain⟨ps,G,Q2,d,rp,h,cl⟩:=h
 unfold len2 at h
 split at h
 ·rename_i ys
  obtain⟨v,rfl,dv⟩:=one_arg d
  obtain⟨a,vs,rfl,sa,da⟩:=dv
  refine call_len_seq pins s σ H _ us Q I rs ⟨a,vs,rfl,.inr sa,?_⟩
  rw[da.length]
  exact cl _ _ _ _ h rfl rp .refl
 ·rename_i a
  split at h
  ·rename_i ys e
   obtain⟨v,rfl,dv⟩:=one_arg d
   obtain rfl:v= .ref a:=dv
   obtain⟨vs,sa,da⟩:=lk_sq rp e
   refine call_len_seq pins s σ H _ us Q I rs ⟨a,vs,rfl,.inl sa,?_⟩
   rw[da.length]
   exact cl _ _ _ _ h rfl rp .refl
  ·exact h.elim
 ·rename_i z
  obtain⟨v,rfl,dv⟩:=one_arg d
  obtain rfl:v= .str z:=dv
  exact call_len_str pins s σ H _ us Q I rs ⟨z,rfl,big h.1,cl _ _ _ _ h.2 rfl rp .refl⟩
 ·exact h.elim
noncomputable def max22:C2:=fun ps G Q=>match ps with
 |[.int i,.int j]=>Q (.int (if j>i then j else i)) G
 |_=>False
theorem c_max2(hc:X.calm=true):CallR X (.builtin "max") (lowC X.K max22):=by
 intro pins s σ H xs us Q I rs h
 obtain⟨ps,G,Q2,d,rp,h,cl⟩:=h
 unfold max22 at h
 split at h
 ·rename_i i j
  obtain⟨v,u,rfl,dv,du⟩:=two_arg d
  obtain rfl:v= .int i:=dv
  obtain rfl:u= .int j:=du
  exact call_max2 hc pins s σ H _ us Q I rs ⟨i,j,rfl,cl _ _ _ _ h rfl rp .refl⟩
 ·exact h.elim
noncomputable def list2:C2:=fun ps G Q=>match ps with
 |[.tup xs]=>∀c,G c=none→Q (.ref c) (up G c (.lst xs))
 |[.ref a]=>match G a with
  |some (.lst xs)=>∀c,G c=none→Q (.ref c) (up G c (.lst xs))
  |some (.rl xs)=>∀c,G c=none→Q (.ref c) (up G c (.lst xs))
  |some (.rng lo hi)=>(-(2^62)≤lo∧lo<2^62∧-(2^62)≤hi∧hi<2^62)∧(hi-lo).toNat≤16000000∧∀c,G c=none→Q (.ref c) (up G c (.lst (intsP lo (hi-lo).toNat)))
  |_=>False
 |_=>False
theorem ints_vals{lo:Int}:∀(n:Nat) {its:List Value},its.length=n→(∀i,i<n→∃t,its[i]? =some (Value.int (lo+(i:Nat)) t))→Vals ((List.range n).map fun(i:Nat)=>V.int (lo+i)) its:=by
 intro n
 induction n with
 |zero=>intro its hl _;rw[List.eq_nil_of_length_eq_zero hl];exact .nil
 |succ n ih=>
  intro its hl h
  have e:its=its.take n++[its[n]'(by(first|lia|omega))]:=by
   have:=List.take_append_drop n its
   rw[List.drop_eq_getElem_cons (by(first|lia|omega)),List.drop_of_length_le (by(first|lia|omega))]at this
   exact this.symm
  obtain⟨t,ht⟩:=h n (by(first|lia|omega))
  have ht':its[n]'(by(first|lia|omega))= .int (lo+(n:Nat)) t:=by
   rw[List.getElem?_eq_getElem (by(first|lia|omega))]at ht
   exact Option.some.inj ht
  rw[e,List.range_succ,List.map_append]
  refine Vals.append (ih (by rw[List.length_take];(first|lia|omega)) fun i hi=> ?_) (.cons ⟨t,ht'⟩ .nil)
  obtain⟨t2,h2⟩:=h i (by(first|lia|omega))
  refine⟨t2,?_⟩
  rw[List.getElem?_take]
  rw[if_pos hi]
  exact h2
theorem ints_D{K:PySem.W.Frag}{H:Hp}{lo:Int}:∀(l:List Nat),Dvs K H (l.map fun(i:Nat)=>PV.int (lo+i)) (l.map fun(i:Nat)=>V.int (lo+i))
 |[]=>rfl
 |i::l=>⟨_,_,rfl,rfl,ints_D l⟩
theorem c_list(hc:X.calm=true):CallR X (.type "list") (lowC X.K list2):=by
 intro pins s σ H xs us Q I rs h
 obtain⟨ps,G,Q2,d,rp,h,cl⟩:=h
 unfold list2 at h
 split at h
 ·rename_i ys
  obtain⟨v,rfl,dv⟩:=one_arg d
  obtain⟨a,vs,rfl,sa,da⟩:=dv
  exact call_list_of pins s σ H _ us Q I rs ⟨a,vs,rfl,.inr sa,fun c hc=>cl _ _ _ _ (h c (rp.none hc)) rfl (rp.new hc da) (keep_new hc)⟩
 ·rename_i a
  obtain⟨v,rfl,dv⟩:=one_arg d
  obtain rfl:v= .ref a:=dv
  split at h
  ·rename_i ys e
   obtain⟨vs,sa,da⟩:=rp.lst e
   exact call_list_of pins s σ H _ us Q I rs ⟨a,vs,rfl,.inl (.of sa),fun c hc=>cl _ _ _ _ (h c (rp.none hc)) rfl (rp.new hc da) (keep_new hc)⟩
  ·rename_i ys e
   obtain⟨vs,sa,da⟩:=rp a _ e
   exact call_list_of pins s σ H _ us Q I rs ⟨a,vs,rfl,.inl (.inl sa),fun c hc=>cl _ _ _ _ (h c (rp.none hc)) rfl (rp.new hc da) (keep_new hc)⟩
  ·rename_i lo hi e
   obtain⟨⟨b1,b2,b3,b4⟩,hn,hq⟩:=h
   have hr:H a=some (.rng lo hi):=rp a _ e
   obtain⟨u,rfl,ru⟩:=rs.one
   cases ru
   obtain⟨t,u,v,hg⟩:=I.hok a _ hr
   have e2:Builtin.Range.rangeSize lo hi 1=(((hi-lo).toNat:Nat):Int):=by
    show(if(1:Int)>0 then(if lo<hi then(hi-lo-1)/1+1 else 0)else _)=_
    rw[if_pos (by decide)]
    split<;>(first|lia|omega)
   refine call_list_range (n:=(hi-lo).toNat) (I.ok.hd hc) hg (small_one b1 b2 b3 b4) e2 (by(first|lia|omega)) fun h' tk acc' c' hk hS hacc=> ?_
   have hfr:H s.heap.objs.size=none:=I.hok.fresh (Nat.le_refl _)
   refine⟨.ref s.heap.objs.size,upd H s.heap.objs.size (.lst ((List.range (hi-lo).toNat).map fun(i:Nat)=>V.int (lo+i))),I.laid (t':=tk) (fun b o e=>hk b o e) (Nat.le_refl _) ?_,rfl,cl _ _ _ _ (hq _ (rp.none hfr)) rfl (rp.new hfr (ints_D _)) (keep_new hfr)⟩
   have hz:acc'.size=(hi-lo).toNat:=hacc.1
   refine⟨by rw[List.length_map,List.length_range];exact big hn,acc'.toList,c',ints_vals _ (by simpa using hz) fun i hi'=> ?_,by simpa using hS⟩
   have hv:acc'[i]? =some (acc'[i]'(by(first|lia|omega))):=by simp
   obtain⟨t,et⟩:=hacc.2 i _ hv
   refine⟨t,?_⟩
   have:acc'.toList[i]? =some (acc'[i]'(by(first|lia|omega))):=by simp
   rw[this,et,Int.mul_one]
  ·exact h.elim
 ·exact h.elim
noncomputable def tuple2:C2:=fun ps G Q=>match ps with
 |[.tup xs]=>Q (.tup xs) G
 |[.ref a]=>match lk G a with
  |some xs=>Q (.tup xs) G
  |none=>False
 |_=>False
theorem c_tuple:CallR X (.type "tuple") (lowC X.K tuple2):=by
 intro pins s σ H xs us Q I rs h
 obtain⟨ps,G,Q2,d,rp,h,cl⟩:=h
 unfold tuple2 at h
 split at h
 ·rename_i ys
  obtain⟨v,rfl,dv⟩:=one_arg d
  obtain⟨a,vs,rfl,sa,da⟩:=dv
  exact call_tuple_of pins s σ H _ us Q I rs ⟨a,vs,rfl,.inr ⟨sa,cl _ _ _ _ h ⟨a,vs,rfl,sa,da⟩ rp .refl⟩⟩
 ·rename_i a
  obtain⟨v,rfl,dv⟩:=one_arg d
  obtain rfl:v= .ref a:=dv
  split at h
  ·rename_i ys e
   obtain⟨vs,sa,da⟩:=lk_sq rp e
   refine call_tuple_of pins s σ H _ us Q I rs ⟨a,vs,rfl,.inl ⟨sa,fun c hc=> ?_⟩⟩
   have kn:Keep X.K H (upd H c (.tup vs)):=keep_new hc
   exact cl _ _ _ _ h ⟨c,vs,rfl,.of upd_same,da.keep kn⟩ (rp.tup hc) kn
  ·exact h.elim
 ·exact h.elim
noncomputable def intsOf:List PV→Option (List Int)
 |[]=>some []
 | .int b::r=>(intsOf r).map (b::·)
 |_=>none
theorem intsOf_D{K:PySem.W.Frag}{H:Hp}:∀{ps:List PV} {bs:List Int} {vs:List V},intsOf ps=some bs→Dvs K H ps vs→vs=bs.map V.int
 |[],bs,vs,h,d=>by cases h;exact d
 |p::ps,bs,vs,h,d=>by
  obtain⟨v,r,rfl,d1,d2⟩:=d
  cases p with
  |int b=>
   unfold intsOf at h
   cases e:intsOf ps with
   |none=>rw[e]at h;cases h
   |some cs=>
    rw[e]at h
    cases h
    obtain rfl:v= .int b:=d1
    rw[intsOf_D e d2]
    rfl
  |_=>cases h
theorem intsOf_map(ns:List Int):intsOf (ns.map PV.int)=some ns:=by
 induction ns with
 |nil=>rfl
 |cons n ns ih=>rw[List.map_cons];unfold intsOf;rw[ih];rfl
theorem ints_Dm{K:PySem.W.Frag}{H:Hp}:∀(l:List Int),Dvs K H (l.map PV.int) (l.map V.int)
 |[]=>rfl
 |i::l=>⟨_,_,rfl,rfl,ints_Dm l⟩
noncomputable def sum2:C2:=fun ps G Q=>match ps with
 |[.ref a]=>match lk G a with
  |some xs=>match intsOf xs with
   |some ns=>Q (.int ns.sum) G
   |none=>False
  |none=>False
 |_=>False
theorem c_sum(hc:X.calm=true):CallR X (.builtin "sum") (lowC X.K sum2):=by
 intro pins s σ H xs us Q I rs h
 obtain⟨ps,G,Q2,d,rp,h,cl⟩:=h
 unfold sum2 at h
 split at h
 ·rename_i a
  split at h
  ·rename_i ys e
   split at h
   ·rename_i ns eb
    obtain⟨v,rfl,dv⟩:=one_arg d
    obtain rfl:v= .ref a:=dv
    obtain⟨vs,sa,da⟩:=lk_sq rp e
    obtain rfl:=intsOf_D eb da
    obtain⟨u,rfl,ru⟩:=rs.one
    cases ru
    obtain⟨its,r,pl,_⟩:=I.list sa
    have hi:=intsAre_of r
    obtain⟨zs,ez⟩:=hi.allInts.items
    refine sum_intListG (I.ok.hd hc) (xs:=zs) (by rw[←ez];exact pl.isList) fun h' tk t' hk=> ?_
    refine⟨.int ns.sum,H,I.kept (t':=tk) fun b o e=>hk b o e,⟨t',?_⟩,cl _ _ _ _ h rfl rp .refl⟩
    have e1:numsOf its=ns:=hi.numsOf
    have e2:its.toArray.toList=its:=rfl
    rw[←e2,ez,nums_intItems]at e1
    rw[preSum_eq,List.take_of_length_le (by simp)]
    rw[←e1]
   ·exact h.elim
  ·exact h.elim
 ·exact h.elim
end
end L3
namespace L3
open PySem L2
noncomputable def isL(p:PV)(G:Gp):Prop:=match p with
 | .ref a=>∃ps,G a=some (.lst ps)
 |_=>False
noncomputable abbrev eMtL(r:M2)(to:E2)(t:A2):E2:=fun τ G Q=>to τ G fun x G1=>isL x G1∧t τ G1 fun ps G2=>r x ps G2 Q
noncomputable abbrev eMtS(r:M2)(to:E2)(t:A2):E2:=fun τ G Q=>to τ G fun x G1=>match x with
 | .str _=>t τ G1 fun ps G2=>r x ps G2 Q
 |_=>False
section
variable{X:Cx}{o e:Expr}{es:List Expr}{to:E2}{t:A2}{name:Str}{apos cpos:Pos}{id:String}{r:M2}
theorem isL_ty{K:PySem.W.Frag}{H:Hp}{p:PV}{v:V}{G:Gp}(h:isL p G)(d:Dv K H p v)(rp:Rep K H G):tyV K "list" v H:=by
 cases p with
 |ref a=>
  obtain⟨ps,e⟩:=h
  obtain rfl:v= .ref a:=d
  obtain⟨vs,hv,_⟩:=rp.lst e
  exact .inl ⟨rfl,vs,.of hv⟩
 |_=>exact h.elim
theorem j_mtL(slot:Slot "list" name id)(hty:typeOf (.builtin id)=pure (.type "method_descriptor"))(hm:MtR X id (lowM X.K r))(ho:JE X o to)(ha:JA X (e::es) t)
  (hbase:attributeBase o name X.env (eval o X.env)=eval o X.env:=by rfl)
  (hfew:((backTo cpos (starEach (e::es) X.env)).all (fun x=> !x.1)&&(backToKw cpos (keywordEach [] X.env)).all (fun x=>x.1.isSome)&&decide ((e::es).length+([]:List Keyword).length+(if([]:List Keyword).isEmpty then 0 else 1)<30))=true:=by rfl)
  (hline:(apos.endLine==cpos.line)=true:=by rfl) (hs:starEach (e::es) X.env=(false,eval e X.env)::starEach es X.env:=by rfl) (hplain:(backTo cpos (starEach es X.env)).any (·.1)=false:=by rfl):
  JE X (.Call (.Attribute o name apos) (e::es) [] cpos) (eMtL r to t):= .of (pe_bm PySem.F.plainAttrs_list slot hty hm ho.h ha.h hbase hfew hline hs hplain) fun σ H Q ⟨τ,G,Q2,rs,rp,q,cl⟩=>by
 refine⟨τ,G,_,rs,rp,q,fun p G1 v H1 q1 d1 r1 k1=>⟨isL_ty q1.1 d1 r1,τ,G1,_,rs.keep k1,r1,q1.2,fun ps G2 vs H2 q2 d2 r2 k2=> ?_⟩⟩
 exact⟨p,ps,G2,Q2,d1.keep k2,d2,r2,q2,cl.keep (k1.trans k2)⟩
theorem j_mtS(slot:Slot "str" name id)(hty:typeOf (.builtin id)=pure (.type "method_descriptor"))(hm:MtR X id (lowM X.K r))(ho:JE X o to)(ha:JA X (e::es) t)
  (hbase:attributeBase o name X.env (eval o X.env)=eval o X.env:=by rfl)
  (hfew:((backTo cpos (starEach (e::es) X.env)).all (fun x=> !x.1)&&(backToKw cpos (keywordEach [] X.env)).all (fun x=>x.1.isSome)&&decide ((e::es).length+([]:List Keyword).length+(if([]:List Keyword).isEmpty then 0 else 1)<30))=true:=by rfl)
  (hline:(apos.endLine==cpos.line)=true:=by rfl) (hs:starEach (e::es) X.env=(false,eval e X.env)::starEach es X.env:=by rfl) (hplain:(backTo cpos (starEach es X.env)).any (·.1)=false:=by rfl):
  JE X (.Call (.Attribute o name apos) (e::es) [] cpos) (eMtS r to t):= .of (pe_bm PySem.F.plainAttrs_str slot hty hm ho.h ha.h hbase hfew hline hs hplain) fun σ H Q ⟨τ,G,Q2,rs,rp,q,cl⟩=>by
 refine⟨τ,G,_,rs,rp,q,fun p G1 v H1 q1 d1 r1 k1=> ?_⟩
 cases p with
 |str z=>
  obtain rfl:v= .str z:=d1
  refine⟨rfl,τ,G1,_,rs.keep k1,r1,q1,fun ps G2 vs H2 q2 d2 r2 k2=> ?_⟩
  exact⟨.str z,ps,G2,Q2,rfl,d2,r2,q2,cl.keep (k1.trans k2)⟩
 |_=>exact False.elim q1
noncomputable def append2:M2:=fun p ps G Q=>match p,ps with
 | .ref a,[y]=>match G a with
  |some (.lst xs)=>xs.length<16000000∧Q .non (up G a (.lst (xs++[y])))
  |_=>False
 |_,_=>False
theorem m_append:MtR X "list.append" (lowM X.K append2):=by
 intro pins s σ H x xs v us Q I rx rs h
 obtain⟨p,ps,G,Q2,d,ds,rp,h,cl⟩:=h
 unfold append2 at h
 split at h
 ·rename_i a y
  split at h
  ·rename_i zs e
   obtain rfl:x= .ref a:=d
   obtain⟨w,rfl,dw⟩:=one_arg ds
   obtain⟨vs,hv,dv⟩:=rp.lst e
   exact mt_append pins s σ H _ _ v us Q I rx rs ⟨a,vs,w,rfl,rfl,hv,by rw[dv.length];exact bigLt (Nat.le_of_lt h.1),cl _ _ _ _ h.2 rfl (rp.put hv (dv.append (.cons dw .nil))) (keep_lst hv)⟩
  ·exact h.elim
 ·exact h.elim
noncomputable def extend2:M2:=fun p ps G Q=>match p,ps with
 | .ref a,[.tup ys]=>match G a with
  |some (.lst xs)=>xs.length+ys.length≤16000000∧Q .non (up G a (.lst (xs++ys)))
  |_=>False
 | .ref a,[.ref b]=>match G a,G b with
  |some (.lst xs),some (.lst ys)=>xs.length+ys.length≤16000000∧Q .non (up G a (.lst (xs++ys)))
  |_,_=>False
 |_,_=>False
theorem m_extend:MtR X "list.extend" (lowM X.K extend2):=by
 intro pins s σ H x xs v us Q I rx rs h
 obtain⟨p,ps,G,Q2,d,ds,rp,h,cl⟩:=h
 unfold extend2 at h
 split at h
 ·rename_i a ys
  split at h
  ·rename_i zs e
   obtain rfl:x= .ref a:=d
   obtain⟨w,rfl,dw⟩:=one_arg ds
   obtain⟨b,ws,rfl,sb,db⟩:=dw
   obtain⟨vs,hv,dv⟩:=rp.lst e
   exact mt_extendT pins s σ H _ _ v us Q I rx rs ⟨a,b,vs,ws,rfl,rfl,hv,sb,by rw[dv.length,db.length];exact big h.1,cl _ _ _ _ h.2 rfl (rp.put hv (dv.append db)) (keep_lst hv)⟩
  ·exact h.elim
 ·rename_i a b
  split at h
  ·rename_i zs ys e1 e2
   obtain rfl:x= .ref a:=d
   obtain⟨w,rfl,dw⟩:=one_arg ds
   obtain rfl:w= .ref b:=dw
   obtain⟨vs,hv,dv⟩:=rp.lst e1
   obtain⟨ws,hb,db⟩:=rp.lst e2
   exact mt_extend pins s σ H _ _ v us Q I rx rs ⟨a,b,vs,ws,rfl,rfl,hv,hb,by rw[dv.length,db.length];exact big h.1,cl _ _ _ _ h.2 rfl (rp.put hv (dv.append db)) (keep_lst hv)⟩
  ·exact h.elim
 ·exact h.elim
noncomputable def strsOf:List PV→Option (List Str)
 |[]=>some []
 | .str b::r=>(strsOf r).map (b::·)
 |_=>none
theorem strsOf_D{K:PySem.W.Frag}{H:Hp}:∀{ps:List PV} {bs:List Str} {vs:List V},strsOf ps=some bs→Dvs K H ps vs→vs=bs.map V.str
 |[],bs,vs,h,d=>by cases h;exact d
 |p::ps,bs,vs,h,d=>by
  obtain⟨v,r,rfl,d1,d2⟩:=d
  cases p with
  |str b=>
   unfold strsOf at h
   cases e:strsOf ps with
   |none=>rw[e]at h;cases h
   |some cs=>
    rw[e]at h
    cases h
    obtain rfl:v= .str b:=d1
    rw[strsOf_D e d2]
    rfl
  |_=>cases h
theorem strsOf_map(ns:List Str):strsOf (ns.map PV.str)=some ns:=by
 induction ns with
 |nil=>rfl
 |cons n ns ih=>rw[List.map_cons];unfold strsOf;rw[ih];rfl
noncomputable def join2:M2:=fun p ps G Q=>match p,ps with
 | .str z,[.ref a]=>match lk G a with
  |some xs=>match strsOf xs with
   |some ys=>(ys.map (·.length)).sum+ys.length*z.length≤16000000∧Q (.str (Txt.join z ys)) G
   |none=>False
  |none=>False
 |_,_=>False
theorem m_join:MtR X "str.join" (lowM X.K join2):=by
 intro pins s σ H x xs v us Q I rx rs h
 obtain⟨p,ps,G,Q2,d,ds,rp,h,cl⟩:=h
 unfold join2 at h
 split at h
 ·rename_i z a
  split at h
  ·rename_i ws e
   split at h
   ·rename_i ys ey
    obtain rfl:x= .str z:=d
    obtain⟨w,rfl,dw⟩:=one_arg ds
    obtain rfl:w= .ref a:=dw
    obtain⟨vs,sa,da⟩:=lk_sq rp e
    obtain rfl:=strsOf_D ey da
    exact mt_join pins s σ H _ _ v us Q I rx rs ⟨z,a,ys,rfl,rfl,sa,Nat.le_trans h.1 (by decide),cl _ _ _ _ h.2 rfl rp .refl⟩
   ·exact h.elim
  ·exact h.elim
 ·exact h.elim
end
noncomputable abbrev O2:=St2→Gp→(Option Int→Gp→Prop)→Prop
noncomputable def lowO(K:PySem.W.Frag)(t:O2):TO:=fun σ H Q=>∃τ G Q2,RSt K H σ τ∧Rep K H G∧t τ G Q2∧∀o G' H',Q2 o G'→Rep K H' G'→Keep K H H'→Q o H'
structure JO(X:Cx)(e:Option Expr)(t:O2):Prop where
 h:PO X e (lowO X.K t)
noncomputable abbrev oNo:O2:=fun _ G Q=>Q none G
noncomputable abbrev oSome(t:E2):O2:=fun τ G Q=>t τ G fun x G1=>match x with
 | .int i=>Q (some i) G1
 |_=>False
noncomputable def cutP(xs:List PV)(lo hi:Option Int):List PV:=(xs.drop (HT.sIx xs.length 0 lo)).take (HT.sIx xs.length xs.length hi-HT.sIx xs.length 0 lo)
noncomputable def sl2:PV→Option Int→Option Int→Gp→K2→Prop:=fun p lo hi G Q=>match p with
 | .tup xs=>¬(HT.sIx xs.length 0 lo=0∧HT.sIx xs.length xs.length hi=xs.length)∧Q (.tup (cutP xs lo hi)) G
 | .ref a=>match lk G a with
  |some xs=>∀c,G c=none→Q (.ref c) (up G c (.lst (cutP xs lo hi)))
  |none=>False
 | .str z=>z.length≤16000000∧Q (.str (Txt.slice z lo hi)) G
 |_=>False
noncomputable def lowSl(K:PySem.W.Frag)(r:PV→Option Int→Option Int→Gp→K2→Prop):V→Option Int→Option Int→Hp→VK→Prop:=fun x lo hi H Q=>∃p G Q2,Dv K H p x∧Rep K H G∧r p lo hi G Q2∧Cl K H Q2 Q
noncomputable abbrev eSl(te:E2)(tl th:O2):E2:=fun τ G Q=>te τ G fun x G1=>tl τ G1 fun l G2=>th τ G2 fun u G3=>sl2 x l u G3 Q
section
variable{X:Cx}{e:Expr}{te:E2}{lo hi:Option Expr}{tl th:O2}{pos p2:Pos}
theorem jo_none:JO X none oNo:=⟨fun pins s σ H Q I ⟨τ,G,Q2,rs,rp,q,cl⟩=>po_none pins s σ H Q I (cl _ _ _ q rp .refl)⟩
theorem jo_some(h:JE X e te):JO X (some e) (oSome te):=⟨fun pins s σ H Q I ⟨τ,G,Q2,rs,rp,q,cl⟩=>po_some h.h pins s σ H Q I ⟨τ,G,_,rs,rp,q,fun p G1 v H1 q1 d1 r1 k1=>by
 cases p with
 |int i=>
  obtain rfl:v= .int i:=d1
  exact⟨i,rfl,cl _ _ _ q1 r1 k1⟩
 |_=>exact False.elim q1⟩⟩
theorem cut_D{K:PySem.W.Frag}{H:Hp}{ps:List PV}{vs:List V}(d:Dvs K H ps vs)(lo hi:Option Int):Dvs K H (cutP ps lo hi) (cutV vs lo hi):=by
 unfold cutP cutV
 rw[d.length]
 exact(d.drop _).take _
theorem s_all:SlR X (lowSl X.K sl2):=by
 intro pins s σ H x v vl vu lo hi sl Q I rx hs pl pu h
 obtain⟨p,G,Q2,d,rp,h,cl⟩:=h
 unfold sl2 at h
 split at h
 ·rename_i xs
  obtain⟨a,vs,rfl,sa,da⟩:=d
  refine sl_tup pins s σ H _ v vl vu lo hi sl Q I rx hs pl pu ⟨a,vs,rfl,sa,by rw[da.length];exact h.1,fun c hc=> ?_⟩
  have kn:Keep X.K H (upd H c (.tup (cutV vs lo hi))):=keep_new hc
  exact cl _ _ _ _ h.2 ⟨c,_,rfl,.of upd_same,(cut_D da lo hi).keep kn⟩ (rp.tup hc) kn
 ·rename_i a
  split at h
  ·rename_i xs e
   obtain rfl:x= .ref a:=d
   obtain⟨vs,sa,da⟩:=lk_sq rp e
   exact sl_list pins s σ H _ v vl vu lo hi sl Q I rx hs pl pu ⟨a,vs,rfl,sa,fun c hc=>cl _ _ _ _ (h c (rp.none hc)) rfl (rp.new hc (cut_D da lo hi)) (keep_new hc)⟩
  ·exact h.elim
 ·rename_i z
  obtain rfl:x= .str z:=d
  exact sl_str pins s σ H _ v vl vu lo hi sl Q I rx hs pl pu ⟨z,rfl,big h.1,cl _ _ _ _ h.2 rfl rp .refl⟩
 ·exact h.elim
theorem j_slice(he:JE X e te)(hl:JO X lo tl)(hu:JO X hi th):JE X (.Subscript e (.Slice lo hi none p2) pos) (eSl te tl th):= .of (pe_slice s_all he.h hl.h hu.h) fun σ H Q hPl=>by
 obtain⟨τ,G,Q2,rs,rp,q,cl⟩:=hPl
 refine⟨τ,G,_,rs,rp,q,fun p G1 v H1 q1 d1 r1 k1=>⟨τ,G1,_,rs.keep k1,r1,q1,fun l G2 H2 q2 r2 k2=>⟨τ,G2,_,rs.keep (k1.trans k2),r2,q2,fun u G3 H3 q3 r3 k3=> ?_⟩⟩⟩
 exact⟨p,G3,Q2,d1.keep (k2.trans k3),r3,q3,cl.keep ((k1.trans k2).trans k3)⟩
end
section
variable{X:Cx}
end
noncomputable def tyN(p:PV)(G:Gp):Option String:=match p with
 | .non=>some "NoneType"
 | .bl _=>some "bool"
 | .int _=>some "int"
 | .str _=>some "str"
 | .tup _=>some "tuple"
 | .ref a=>match G a with
  |some (.lst _)=>some "list"
  |some (.dK _)=>some "dict"
  |_=>none
 |_=>none
noncomputable def isT(ty T:String):Bool:=ty==T||(ty== "bool" &&T== "int")
noncomputable abbrev tys:List String:=["NoneType", "bool", "int", "str", "tuple", "list", "dict"]
noncomputable abbrev Tys:List String:=["bool", "int", "str", "tuple", "list"]
theorem kit_ok{K:PySem.W.Frag}{ty T:String}(h1:ty∈tys)(h2:T∈Tys):PySem.W.kitOne K (.type ty) (.type T)=some (isT ty T):=by
 simp only[List.mem_cons,List.not_mem_nil,or_false]at h1 h2
 rcases h1 with rfl|rfl|rfl|rfl|rfl|rfl|rfl<;>rcases h2 with rfl|rfl|rfl|rfl|rfl<;>kernel_rfl
noncomputable def inst2:C2:=fun ps G Q=>match ps with
 |[p,.ty T]=>match tyN p G with
  |some ty=>T∈Tys∧Q (.bl (isT ty T)) G
  |none=>False
 |_=>False
section
variable{X:Cx}
theorem c_inst:CallR X (.builtin "isinstance") (lowC X.K inst2):=by
 intro pins s σ H xs us Q I rs h
 obtain⟨ps,G,Q2,d,rp,h,cl⟩:=h
 unfold inst2 at h
 split at h
 ·rename_i p T
  split at h
  ·rename_i ty e
   obtain⟨hT,hq⟩:=h
   obtain⟨v,w,rfl,dv,dw⟩:=two_arg d
   obtain rfl:w= .ty T:=dw
   cases rs with
   |cons r1 rs=>
    obtain⟨u,rfl,ru⟩:=Vals.one rs
    cases ru
    have fin:∀tk,EP X pins σ Q (.bool (isT ty T)) {s with toks:=tk}:=fun tk=>⟨.bl _,H,I.tok tk,rfl,cl _ _ _ _ hq rfl rp .refl⟩
    unfold tyN at e
    split at e
    ·cases e;obtain rfl:v= .non:=dv;cases r1;exact PySem.W.kia_one PySem.W.kitx_none I.kIn True.intro (kit_ok (by decide) hT) (fun z=>nomatch z) fin
    ·cases e;rename_i b;obtain rfl:v= .bl b:=dv;cases r1;exact PySem.W.kia_one PySem.W.kitx_bool I.kIn True.intro (kit_ok (by decide) hT) (fun z=>nomatch z) fin
    ·cases e;rename_i b;obtain rfl:v= .int b:=dv;obtain⟨t,rfl⟩:=r1;exact PySem.W.kia_one PySem.W.kitx_int I.kIn True.intro (kit_ok (by decide) hT) (fun z=>nomatch z) fin
    ·cases e;rename_i b;obtain rfl:v= .str b:=dv;obtain⟨t,rfl⟩:=r1;exact PySem.W.kia_one PySem.W.kitx_str I.kIn True.intro (kit_ok (by decide) hT) (fun z=>nomatch z) fin
    ·cases e
     obtain⟨a,vs,rfl,sq,_⟩:=dv
     cases r1
     obtain⟨its,_,pl,_⟩:=I.tuple sq
     obtain⟨o,h1,h2,_⟩:=pl
     exact PySem.W.kia_one PySem.W.kitx_tuple I.kIn ⟨o,h1,h2⟩ (kit_ok (by decide) hT) (fun z=>nomatch z) fin
    ·rename_i a
     split at e
     ·cases e
      rename_i qs eg
      obtain rfl:v= .ref a:=dv
      cases r1
      obtain⟨vs,hv,_⟩:=rp.lst eg
      obtain⟨_,_,n,_,h1⟩:=(show ObjOk X.prog X.w H s.heap a (.lst vs)from I.hok a _ hv)
      exact PySem.W.kia_one PySem.W.kitx_list I.kIn ⟨_,h1,rfl⟩ (kit_ok (by decide) hT) (fun z=>nomatch z) fin
     ·cases e
      rename_i qs eg
      obtain rfl:v= .ref a:=dv
      obtain⟨vs,hv,_⟩:=rp a _ eg
      exact isinst_ok I r1 (.dK hv) (kit_ok (by decide) hT) fin
     ·cases e
    ·cases e
  ·exact h.elim
 ·exact h.elim
end
end L3
namespace PySem.SeqAt
open AutoSeq1 (wpAny_loadPart')
open MeetsSeq MeetsSeq2 MeetsSeq3 SeqRoads2
open Builtin Builtin.Range
end PySem.SeqAt
namespace L3
open PySem L2
section
variable{X:Cx}
end
noncomputable def Itd(lo:Int)(n:Nat):It:=⟨fun i _=>i<n,fun i H x H'=>H'=H∧x= .int (lo-i),fun i _=>n≤i⟩
noncomputable def downP(lo:Int)(n:Nat):List PV:=(List.range n).map fun(i:Nat)=> .int (lo-i)
theorem it_down{K:PySem.W.Frag}{H1:Hp}(lo:Int)(n:Nat):ItOk K H1 (Itd lo n) (downP lo n) (fun _=>True):=fun i H G k r _=>by
 have hl:(downP lo n).length=n:=by unfold downP;simp
 refine⟨fun hi=> ?_,fun hi=> ?_,fun x H' hi y=> ?_⟩
 ·show i<n
  (first|lia|omega)
 ·show n≤i
  (first|lia|omega)
 ·obtain⟨rfl,rfl⟩:=y
  refine⟨.int (lo-i),?_,.refl,r,rfl⟩
  unfold downP
  rw[List.getElem?_map,List.getElem?_range (by(first|lia|omega))]
  rfl
theorem turn_down{P:Program}{w:World}{K:PySem.W.Frag}{tg:Expr}(it:Addr)(lo:Int)(n:Nat):Turn P w K tg (Itd lo n) [it] it (fun i h=>IsRangeIter h it (lo+(i:Nat)*(-1)) ((n:Int)-(i:Nat)) (-1)) where
 mem:=by simp
 obj:=fun i h st b hb=>by
  have e:b=it:=by simpa using hb
  subst e
  exact⟨_,st,fun v z=>by
   have z':Data.fields _=Data.cell v:=z
   cases z'⟩
 keep:=fun i h h' st k=>k it (by simp) _ st
 item:=by
  intro X hP hw hK hc i pins s σ H E I hf st hg
  subst hP hw hK
  obtain⟨f0,f1,f2,f3,f4,f5⟩:=hf it (by simp)
  have W:=Walks.range (prog:=X.prog) (w:=X.w) (I.ok.hd hc) it lo (-1) n
  refine W.item i s _ _ hg st fun v h' tk hv st' kk=> ?_
  obtain⟨t,rfl⟩:=hv
  have I1:Inv X pins σ H {s with heap:=h',toks:=tk}:=I.turned (fun b o hb e=>kk b o (by simpa using hb) e) f0 f1 f3 f4 f5
  refine⟨_,rfl,go_of (s:={s with heap:=h',toks:=tk}) (n:= "range_iterator") st' rfl rfl (by decide) ⟨.int (lo-i),H,I1,⟨t,?_⟩,⟨rfl,rfl⟩,st',fun b hb=>(hf b hb).1⟩⟩
  rw[show lo+(i:Int)*(-1)=lo-i by(first|lia|omega)]
 done:=by
  intro X hP hw hK hc i pins s σ H E I hf st hg
  subst hP hw hK
  obtain⟨f0,f1,f2,f3,f4,f5⟩:=hf it (by simp)
  exact wpAny_pyNext_range_end (I.ok.hd hc) st (by have:n≤i:=hg;(first|lia|omega)) fun h' eb=>⟨rfl,I.turned (t':=s.toks) (fun b o hb e=>eb b o hb e) f0 f1 f3 f4 f5⟩
 self:=fun _ _ _ _ _ st h=>wpAny_pyIter_rangeiter st h
theorem rangeSize_down(a b:Int):Builtin.Range.rangeSize a b (-1)=(((a-b).toNat:Nat):Int):=by
 unfold Builtin.Range.rangeSize
 rw[if_neg (by decide),show(-(-1:Int))=1 from rfl,Int.ediv_one]
 split<;>(first|lia|omega)
theorem small_down{a b:Int}(ha: -(2^62)≤a)(ha':a<2^62)(hb: -(2^62)≤b)(hb':b<2^62):Builtin.Range.small a b (-1)=true:=by
 unfold Builtin.Range.small
 rw[rangeSize_down]
 simp only[Builtin.Range.rangeFitsLong,Bool.and_eq_true,Bool.or_eq_true,decide_eq_true_eq,beq_iff_eq,show¬((-1:Int)>0)by decide,if_false]
 (first|lia|omega)
noncomputable abbrev itD(t:A2):TI2:=fun τ G R=>t τ G fun ps G1=>match ps with
 |[.int a,.int b,.int c]=>c= -1∧(-(2^62)≤a∧a<2^62∧-(2^62)≤b∧b<2^62)∧R (downP a (a-b).toNat) (fun _=>True) G1
 |_=>False
section
variable{X:Cx}{tg a b c:Expr}{ta:A2}{p pos:Pos}
theorem ji_range3(hm:X.mg "range" =none)(ha:JA X [a,b,c] ta)(hg:Gl X "range" :=by rfl)(hs:starEach [a,b,c] X.env=(false,eval a X.env)::starEach [b,c] X.env:=by rfl)(hs2:(backTo pos (starEach [b,c] X.env)).any (·.1)=false:=by rfl):
  JI X tg (.Call (.Name "range" p) [a,b,c] [] pos) (itD ta):=⟨by
 intro pins s σ H R I h
 obtain⟨τ,G,R2,rs,rp,h,cl⟩:=h
 refine PyProof.Rows.Call_ (ld_blt I hg hm PyProof.Rows.boot_range (PyProof.Rows.callWith_type1 (thn (ha.h pos pins s σ H (fun vs H1=>∃ps G1,Dvs X.K H1 ps vs∧Rep X.K H1 G1∧Keep X.K H H1∧(match ps with
  |[.int a,.int b,.int c]=>c= -1∧(-(2^62)≤a∧a<2^62∧-(2^62)≤b∧b<2^62)∧R2 (downP a (a-b).toNat) (fun _=>True) G1
  |_=>False)) I ⟨τ,G,_,rs,rp,h,fun ps G1 vs H1 q d r k=>⟨ps,G1,d,r,k,q⟩⟩) fun us s1 ⟨vs,H1,I1,r1,ps,G1,d1,rp1,k1,q1⟩=> ?_) hs hs2))
 split at q1
 ·rename_i a b c
  obtain⟨rfl,⟨b1,b2,b3,b4⟩,q⟩:=q1
  obtain⟨v1,z,rfl,e1,d1⟩:=d1
  obtain⟨v2,v3,rfl,e2,e3⟩:=two_arg d1
  obtain rfl:v1= .int a:=e1
  obtain rfl:v2= .int b:=e2
  obtain rfl:v3= .int (-1):=e3
  cases r1 with
  |cons r1 r2=>
   cases r2 with
   |cons r2 r3=>
    cases r3 with
    |cons r3 r4=>
     cases r4
     obtain⟨t1,rfl⟩:=r1
     obtain⟨t2,rfl⟩:=r2
     obtain⟨t3,rfl⟩:=r3
     refine call_range_3 (by decide) ?_ (.inl (PyProof.noPylong_small (by decide)))
     refine wpAny_pyIter_range (IsRange.new ..) (small_down b1 b2 b3 b4) ?_
     have I2:Inv X pins σ H1 {s1 with heap:=s1.heap.push {cls:= .type "range",data:= .fields #[.int a t1,.int b t2,.int (-1) t3]},toks:=s1.toks}:=I1.kept fun b o e=>Heap.get?_push_of_some _ e
     refine⟨(s1.heap.push {cls:= .type "range",data:= .fields #[.int a t1,.int b t2,.int (-1) t3]}).objs.size,[(s1.heap.push {cls:= .type "range",data:= .fields #[.int a t1,.int b t2,.int (-1) t3]}).objs.size],_,_,H1,rfl,
      I2.kept (t':=s1.toks) fun b o e=>Heap.get?_push_of_some _ e,turn_down _ a (a-b).toNat,?_,fun ad hb=> ?_,cl _ _ _ _ _ q rp1 k1 (it_down _ _)⟩
     ·have e1:a+((0:Nat):Int)*(-1)=a:=by simp
      show IsRangeIter _ _ (a+((0:Nat):Int)*(-1)) ((((a-b).toNat:Nat):Int)-((0:Nat):Int)) (-1)
      rw[e1,show(((a-b).toNat:Nat):Int)-((0:Nat):Int)=Builtin.Range.rangeSize a b (-1)by rw[rangeSize_down];simp]
      exact Heap.get?_push_size _ rfl
     ·rw[List.mem_singleton.mp hb]
      exact I2.fpOk (Nat.le_refl _) (I2.hok.fresh (Nat.le_refl _))
 ·exact q1.elim⟩
end
noncomputable abbrev neg2:U2:=fun p G Q=>match p with
 | .int i=>Q (.int (-i)) G
 |_=>False
theorem u_neg{X:Cx}:UnR X (unaryOp .USub) (lowU X.K neg2):=by
 intro pins s σ H x v Q I rx h
 obtain⟨p,G,Q2,d,rp,h,cl⟩:=h
 cases p with
 |int i=>
  obtain rfl:x= .int i:=d
  exact un_neg pins s σ H _ v Q I rx ⟨i,rfl,cl _ _ _ _ h rfl rp .refl⟩
 |_=>exact False.elim h
end L3
namespace L3
open PySem L2
end L3
namespace L3
open PySem L2
end L3
namespace L3
open PySem L2
end L3
namespace L2
open PySem PySem.Spec PyProof.Rows
noncomputable abbrev tT2(x y:Str)(px py:Pos)(kt:Nat)(pt:Pos):Expr:= .Tuple [.Name x px,.Name y py] kt pt
structure CompTwo(scope:Scope)(M:List Str)(ix:List (Option Nat))(j2:Nat)(y:Str):Prop where
 tgt:M[j2]? =some y
 loc:scope.names.lookup y=some .local
 own:ix[j2]? =some none
theorem set_weak2{c:St}{j j2:Nat}{v u:V}(h:c[j]? =some none)(h2:c[j2]? =some none):∀(i:Nat) (z:V),c[i]? =some (some z)→((c.set j (some v)).set j2 (some u))[i]? =some (some z):=fun i z e=>by
 have n1:j≠i:=fun q=>by subst q;rw[h]at e;cases e
 have n2:j2≠i:=fun q=>by subst q;rw[h2]at e;cases e
 rw[List.getElem?_set_ne n2,List.getElem?_set_ne n1];exact e
noncomputable def CompGo2(K:PySem.W.Frag)(J:It)(ix:List (Option Nat))(j j2:Nat)(σ:St)(tf:TT)(te:TE)(Q:VK)(H1:Hp)(acc:Addr):Prop:=∃W:Nat→Nat→Hp→Prop,(∃m,W 0 m (upd H1 acc (.lst [])))∧∀i m H',W i m H'→
 (J.stop i H'∧Q (.ref acc) H')∨(J.go i H'∧∀x H2,J.yld i H' x H2→∃a u1 u2,x= .ref a∧SqT K H2 a [u1,u2]∧tf (((cap ix σ).set j (some u1)).set j2 (some u2)) H2 fun b H3=>
  if b=true then te (((cap ix σ).set j (some u1)).set j2 (some u2)) H3 fun y H4=>∃ys,H4 acc=some (.lst ys)∧ys.length<sizeLine∧∃m',m'<m∧W (i+1) m' (upd H4 acc (.lst (ys++[y])))
  else∃m',m'<m∧W (i+1) m' H3)
noncomputable def tComp2(K:PySem.W.Frag)(wi:TI)(ix:List (Option Nat))(j j2:Nat)(tf:TT)(te:TE):TE:=fun σ H Q=>wi σ H fun J H1=>∀acc,H1 acc=none→CompGo2 K J ix j j2 σ tf te Q H1 acc
section
variable{X:Cx}{scope:Scope}{M:List Str}{ix:List (Option Nat)}{j:Nat}{x:Str}
theorem comp_block2{elt iter:Expr}{px py pt:Pos}{kt j2:Nat}{y:Str}{ifs:List Expr}{pos:Pos}{tf:TT}{te:TE}{pins:List (Addr×Obj)}{σ:St}{H:Hp}{s:Shared}{fp:List Addr}{it:Addr}{tn:Nat→Heap→Prop}{J:It}{h1:Heap}{tk:Nat}{Q:VK}{R:Result→Shared→Prop}
  (S:CompScope X.env.scope X.N scope M ix j x) (S2:CompTwo scope M ix j2 y) (hc:X.calm=true) (I:Inv X pins σ H s)
  (hF:PF (cxComp X M scope (s.heap.objs.size+1) s H fp) ifs tf) (hE:PE (cxComp X M scope (s.heap.objs.size+1) s H fp) elt te)
  (T:Turn X.prog X.w X.K (tT2 x y px py kt pt) J fp it tn) (st:tn 0 s.heap) (hf:∀b∈fp,FpOk X pins H b)
  (I0:Inv (cxComp X M scope (s.heap.objs.size+1) s H fp) [] (cap ix σ) (upd H s.heap.objs.size (.lst [])) {s with heap:=h1,toks:=tk}) (old:∀b o,s.heap.get? b=some o→h1.get? b=some o)
  (q:CompGo2 X.K J ix j j2 σ tf te Q H s.heap.objs.size)
  (hR:∀H' s',Inv (cxComp X M scope (s.heap.objs.size+1) s H fp) [] (cap ix σ) H' s'→Q (.ref s.heap.objs.size) H'→R (.ok .next) s'):
  codeAny (model X.prog X.w) X.A (.compLoop (.ListComp elt [⟨tT2 x y px py kt pt,iter,ifs,0⟩] scope pos) 0 (.ref it) (.ref s.heap.objs.size) (compEnvC scope (clOf X.env.cells scope.names []) (s.heap.objs.size+1) X.env)) R {s with heap:=h1,toks:=tk}:=by
 obtain⟨W,⟨m0,w0⟩,turn⟩:=q
 have hD:s.heap.objs.size∉fp:=fun z=>by
  obtain⟨o,e,_⟩:=T.obj 0 s.heap st _ z
  exact absurd (Heap.lt_size e) (Nat.lt_irrefl _)
 have hlt:∀b∈fp,b<s.heap.objs.size:=fun b hb=>by
  obtain⟨o,e,_⟩:=T.obj 0 s.heap st b hb
  exact Heap.lt_size e
 have stat:∀{H':Hp},(∀b∈fp,H' b=none)→∀b∈fp,FpOk (cxComp X M scope (s.heap.objs.size+1) s H fp) [] H' b:=fun hn b hb=>
  ⟨hn b hb,Nat.ne_of_lt (Nat.lt_succ_of_lt (hlt b hb)),I0.ok.exfs b hb,.inl hb,(I0.ok.exf b hb).2,fun p hp=>absurd (show p∈([]:List (Addr×Obj))from hp) (by simp)⟩
 have own:=cap_own S.own σ
 have own2:=cap_own S2.own σ
 refine compLoop_own rfl (fun n s'=>∃i H',Inv (cxComp X M scope (s.heap.objs.size+1) s H fp) [] (cap ix σ) H' s'∧tn i s'.heap∧(∀b∈fp,H' b=none)∧W i n H') ?_ m0
  ⟨0,_,I0,T.keep 0 _ _ st fun b _ o e=>old b o e,fun b hb=>by rw[upd_ne (Nat.ne_of_lt (hlt b hb))];exact(hf b hb).1,w0⟩
 rintro n s3 ⟨i,H3,I3,st3,fr3,w3⟩
 rcases turn i n H3 w3 with⟨stop,qn⟩|⟨go,step⟩
 ·refine wpAny_mono (T.done (cxComp X M scope (s.heap.objs.size+1) s H fp) rfl rfl rfl hc i [] s3 (cap ix σ) H3 (fun _ _=>False) I3 (stat fr3) st3 stop) (fun r s4 hPl=> ?_) (fun _ _ z=>z.elim)
  obtain⟨hr,I4⟩:=hPl
  subst hr
  exact hR H3 s4 I4 qn
 ·refine wpAny_mono (T.item (cxComp X M scope (s.heap.objs.size+1) s H fp) rfl rfl rfl hc i [] s3 (cap ix σ) H3 (fun _ _=>False) I3 (stat fr3) st3 go) (fun r s4 hPl=> ?_) (fun _ _ z=>z.elim)
  obtain⟨u,hr,h4⟩:=hPl
  subst hr
  refine wpAny_mono h4 (fun _ s5 hPl=> ?_) (fun _ _ z=>z.elim)
  obtain⟨yv,H5,I5,r5,y5,st5,fr5⟩:=hPl
  have I5':=I5.pinned (stat fr5) (T.obj _ _ st5)
  have pg:PG (cxComp X M scope (s.heap.objs.size+1) s H fp) (tT2 x y px py kt pt) (gTup X.K 2 (gCons (gName j) (gCons (gName j2) gNil))):=
   pg_tup hc (pgs_cons (pg_name S.nd S.tgt (.inl (by show(relabel scope X.env).names.lookup x=some .local;exact lookup_relabel_local S.loc)) (.inr (by show(relabel scope X.env).names.lookup x=some .local;exact lookup_relabel_local S.loc)))
    (pgs_cons (pg_name S.nd S2.tgt (.inl (by show(relabel scope X.env).names.lookup y=some .local;exact lookup_relabel_local S2.loc)) (.inr (by show(relabel scope X.env).names.lookup y=some .local;exact lookup_relabel_local S2.loc))) pgs_nil))
  obtain⟨ta,u1,u2,et,sq,step⟩:=step yv _ y5
  refine wpAny_mono (pg _ s5 (cap ix σ) H5 yv u (fun σ2 H2=>σ2=((cap ix σ).set j (some u1)).set j2 (some u2)∧H2=H5) I5' r5 ⟨ta,[u1,u2],et,sq,rfl,u1,[u2],rfl,u2,[],rfl,rfl,rfl,rfl⟩) (fun _ s6 hPl=> ?_) (fun _ _ z=>z.elim)
  obtain⟨σ6,H6,I6,e6,eh6⟩:=hPl
  subst e6;subst eh6
  have again:∀{H7:Hp} {s7:Shared},Inv (cxComp X M scope (s.heap.objs.size+1) s H fp) ([]++pinsAt fp s5.heap) (((cap ix σ).set j (some u1)).set j2 (some u2)) H7 s7→(∃m',m'<n∧W (i+1) m' H7)→
    ∃m,m<n∧∃i H',Inv (cxComp X M scope (s.heap.objs.size+1) s H fp) [] (cap ix σ) H' s7∧tn i s7.heap∧(∀b∈fp,H' b=none)∧W i m H':=fun{H7 s7} I7 ⟨m',hm,w7⟩=>by
   have Iw:Inv (cxComp X M scope (s.heap.objs.size+1) s H fp) [] (cap ix σ) H7 s7:=(Inv.unpinned (pins:=[]) I7).weak (by simp) (set_weak2 own own2)
   refine⟨m',hm,i+1,H7,Iw,T.keep _ _ _ st5 fun b hb o e=>(I7.pin (b,o) (List.mem_append_right _ (List.mem_append_right _ (mem_pinsAt hb e)))).1,fun b hb=> ?_,w7⟩
   obtain⟨o,e,d⟩:=T.obj _ _ st5 b hb
   exact(I7.pin (b,o) (List.mem_append_right _ (List.mem_append_right _ (mem_pinsAt hb e)))).2.1
  refine wpAny_mono (hF _ s6 _ _ _ I6 step) (fun b s7 hPl=> ?_) (fun _ _ z=>z.elim)
  obtain⟨H7,I7,q7⟩:=hPl
  cases b with
  |false=>
   simp only[Bool.false_eq_true,if_false]at q7⊢
   exact again I7 q7
  |true=>
   simp only[if_true]at q7⊢
   refine wpAny_mono (hE _ s7 _ H7 _ I7 q7) (fun v s8 hPl=> ?_) (fun _ _ z=>z.elim)
   obtain⟨z,H8,I8,r8,ys,hy,hz,q8⟩:=hPl
   refine wpAny_mono (mt_append (X:=cxComp X M scope (s.heap.objs.size+1) s H fp) _ s8 _ H8 (.ref s.heap.objs.size) [z] (.ref s.heap.objs.size) [v] (fun _ H'=>H'=upd H8 s.heap.objs.size (.lst (ys++[z]))) I8 rfl (.cons r8 .nil) ⟨s.heap.objs.size,ys,z,rfl,rfl,hy,hz,rfl⟩) (fun w s9 hPl=> ?_) (fun _ _ z=>z.elim)
   obtain⟨_,H9,I9,_,e9⟩:=hPl
   subst e9
   exact again I9 q8
theorem pe_comp2{elt iter:Expr}{px py pt:Pos}{kt j2:Nat}{y:Str}{ifs:List Expr}{pos:Pos}{wi:TI}{tf:TT}{te:TE}(S:CompScope X.env.scope X.N scope M ix j x)(S2:CompTwo scope M ix j2 y)(hc:X.calm=true)(hi:PI X (tT2 x y px py kt pt) iter wi)
  (hb:∀C s H fp,PF (cxComp X M scope C s H fp) ifs tf∧PE (cxComp X M scope C s H fp) elt te) (hs:∀x,foldedSetIterable iter X.env x=pure x:=by intro _;rfl):
  PE X (.ListComp elt [⟨tT2 x y px py kt pt,iter,ifs,0⟩] scope pos) (tComp2 X.K wi ix j j2 tf te):=by
 intro pins s σ H Q I h
 rw[eval_ListComp]
 refine wpAny_comprehension_free (use:=none) rfl hs (closureFor_cl fun y hy e=>I.ok.has y.1 (S.free y hy e)) S.kind S.names (wpAny_mono (hi pins s σ H _ I h) (fun xv s₁ h₁=>wpAny_mono h₁ (fun it s₂ h₂=> ?_) fun _ _ e=>e) fun _ _ e=>e)
 obtain⟨it,fp,tn,J,H2,rfl,I2,T,st2,f2,q⟩:=h₂
 refine wpAny_newObj_type (wpAny_newFunctionEnv S.nocell (by intro y hy;simp at hy) (fun h₁ hns₁ hsb₁=> ?_) S.kind)
 dsimp only at hns₁ hsb₁⊢
 have hC:(s₂.heap.push {cls:= .type "list",dict:=none,data:= .seq ([]:List Value).toArray}).objs.size=s₂.heap.objs.size+1:=Heap.size_push ..
 rw[hC]at hns₁ hsb₁⊢
 have below:∀b,b<s₂.heap.objs.size→b≠s₂.heap.objs.size+1:=fun b hb=>Nat.ne_of_lt (Nat.lt_succ_of_lt hb)
 have old:∀b o,s₂.heap.get? b=some o→h₁.get? b=some o:=fun b o e=>hsb₁.extBut b o (below b (Heap.lt_size e)) (Heap.get?_push_of_some _ (Heap.get?_push_of_some _ e))
 have hD:h₁.get? s₂.heap.objs.size=some {cls:= .type "list",data:= .seq ([]:List Value).toArray 0}:=hsb₁.extBut _ _ (Nat.ne_of_lt (Nat.lt_succ_self _)) (Heap.get?_push_of_some _ (Heap.get?_push_size _ rfl))
 have ns:h₁.Ns (s₂.heap.objs.size+1) fun _=>none:=hns₁
 have hft:∀b∈fp,b<s₂.heap.objs.size:=fun b hb=>by
  obtain⟨o,e,_⟩:=T.obj 0 s₂.heap st2 b hb
  exact Heap.lt_size e
 have I0:=(comp_start (h1:=h₁) S I2 f2 hft old hD ns).tok s₂.toks
 have hfr:H2 s₂.heap.objs.size=none:=I2.hok.fresh (Nat.le_refl _)
 have loop:codeAny (model X.prog X.w) X.A (.compLoop (.ListComp elt [⟨tT2 x y px py kt pt,iter,ifs,0⟩] scope pos) 0 (.ref it) (.ref s₂.heap.objs.size) (compEnvC scope (clOf X.env.cells scope.names []) (s₂.heap.objs.size+1) X.env))
   (compPost (model X.prog X.w) X.A X.xe none (EP X pins σ Q) (.ref s₂.heap.objs.size) (s₂.heap.objs.size+1)) {s₂ with heap:=h₁,toks:=s₂.toks}:=by
  refine comp_block2 (Q:=Q) S S2 hc I2 (hb _ _ _ _).1 (hb _ _ _ _).2 T st2 f2 I0 old (q _ hfr) fun H' s' I' qq=> ?_
  obtain⟨m,hn,_⟩:=I'.loc
  exact⟨m,hn,fun h' hb'=>⟨.ref s₂.heap.objs.size,H',comp_end I2 (Nat.le_succ _) f2 I' hb',rfl,qq⟩⟩
 exact codeAny_compStart_list loop (T.self _ 0 _ _ _ (T.keep 0 _ _ st2 fun b _ o e=>old b o e) loop)
end
end L2
namespace L3
open PySem L2
theorem u200{k:Nat}{A:Around}(r:Room k A):A.units+200<cLine:=by have:=r.un;(first|lia|omega)
theorem ex2{α:Type}{P Q:α→Prop}{t:α}(a:P t)(b:Q t):∃t,P t∧Q t:=⟨t,a,b⟩
theorem boot_isinst:bootBuiltins "isinstance" =some (.builtin "isinstance"):=by decide+kernel
theorem boot_tuple:bootBuiltins "tuple" =some (.type "tuple"):=by decide+kernel
theorem boot_list:bootBuiltins "list" =some (.type "list"):=by decide+kernel
theorem boot_max:bootBuiltins "max" =some (.builtin "max"):=by decide+kernel
theorem boot_sum:bootBuiltins "sum" =some (.builtin "sum"):=by decide+kernel
theorem boot_sorted:bootBuiltins "sorted" =some (.builtin "sorted"):=by decide+kernel
noncomputable def bnames:List Str:=["isinstance", "int", "bool", "str", "tuple", "list", "range", "all", "any", "max", "sum", "sorted", "len", "enumerate", "min", "zip", "set", "dict"]
noncomputable def BN(mg:Str→Option Value):Prop:=∀x:Str,bnames.contains x=true→mg x=none
theorem BN.len{mg:Str→Option Value}(h:BN mg):mg "len" =none:=h _ (by decide+kernel)
theorem BN.isinstance{mg:Str→Option Value}(h:BN mg):mg "isinstance" =none:=h _ (by decide+kernel)
theorem BN.tuple{mg:Str→Option Value}(h:BN mg):mg "tuple" =none:=h _ (by decide+kernel)
theorem BN.list{mg:Str→Option Value}(h:BN mg):mg "list" =none:=h _ (by decide+kernel)
theorem BN.range{mg:Str→Option Value}(h:BN mg):mg "range" =none:=h _ (by decide+kernel)
theorem BN.max{mg:Str→Option Value}(h:BN mg):mg "max" =none:=h _ (by decide+kernel)
theorem BN.sum{mg:Str→Option Value}(h:BN mg):mg "sum" =none:=h _ (by decide+kernel)
theorem BN.sorted{mg:Str→Option Value}(h:BN mg):mg "sorted" =none:=h _ (by decide+kernel)
section
variable{X:Cx}{e:Expr}{es:List Expr}{t:A2}{p pos:Pos}
theorem jc_len(B:BN X.mg)(ha:JA X (e::es) t)(hg:Gl X "len" :=by rfl)(he:starEach (e::es) X.env=(false,eval e X.env)::starEach es X.env:=by rfl)(hpl:(backTo pos (starEach es X.env)).any (·.1)=false:=by rfl):JE X (.Call (.Name "len" p) (e::es) [] pos) (eCl len2 t):=j_callB c_len B.len PySem.boot_len ha hg (by decide) (by decide) he hpl
theorem jc_inst(B:BN X.mg)(ha:JA X (e::es) t)(hg:Gl X "isinstance" :=by rfl)(he:starEach (e::es) X.env=(false,eval e X.env)::starEach es X.env:=by rfl)(hpl:(backTo pos (starEach es X.env)).any (·.1)=false:=by rfl):JE X (.Call (.Name "isinstance" p) (e::es) [] pos) (eCl inst2 t):=j_callB c_inst B.isinstance boot_isinst ha hg (by decide) (by decide) he hpl
theorem jc_max(B:BN X.mg)(hc:X.calm=true)(ha:JA X (e::es) t)(hg:Gl X "max" :=by rfl)(he:starEach (e::es) X.env=(false,eval e X.env)::starEach es X.env:=by rfl)(hpl:(backTo pos (starEach es X.env)).any (·.1)=false:=by rfl):JE X (.Call (.Name "max" p) (e::es) [] pos) (eCl max22 t):=j_callB (c_max2 hc) B.max boot_max ha hg (by decide) (by decide) he hpl
theorem jc_sum(B:BN X.mg)(hc:X.calm=true)(ha:JA X (e::es) t)(hg:Gl X "sum" :=by rfl)(he:starEach (e::es) X.env=(false,eval e X.env)::starEach es X.env:=by rfl)(hpl:(backTo pos (starEach es X.env)).any (·.1)=false:=by rfl):JE X (.Call (.Name "sum" p) (e::es) [] pos) (eCl sum2 t):=j_callB (c_sum hc) B.sum boot_sum ha hg (by decide) (by decide) he hpl
theorem jc_list(B:BN X.mg)(hc:X.calm=true)(ha:JA X (e::es) t)(hg:Gl X "list" :=by rfl)(he:starEach (e::es) X.env=(false,eval e X.env)::starEach es X.env:=by rfl)(hpl:(backTo pos (starEach es X.env)).any (·.1)=false:=by rfl):JE X (.Call (.Name "list" p) (e::es) [] pos) (eCl list2 t):=j_callTy (c_list hc) B.list boot_list ha hg (by decide) (by decide) he hpl
theorem jc_tuple(B:BN X.mg)(ha:JA X (e::es) t)(hg:Gl X "tuple" :=by rfl)(he:starEach (e::es) X.env=(false,eval e X.env)::starEach es X.env:=by rfl)(hpl:(backTo pos (starEach es X.env)).any (·.1)=false:=by rfl):JE X (.Call (.Name "tuple" p) (e::es) [] pos) (eCl tuple2 t):=j_callTy c_tuple B.tuple boot_tuple ha hg (by decide) (by decide) he hpl
end
section
variable{X:Cx}{a b:Expr}{ta tb:E2}{pos:Pos}
theorem jb_add(ha:JE X a ta)(hb:JE X b tb):JE X (.BinOp a .Add b pos) (eOp add2 ta tb):=j_op o_add ha hb
theorem jb_sub(ha:JE X a ta)(hb:JE X b tb):JE X (.BinOp a .Sub b pos) (eOp sub2 ta tb):=j_op o_sub ha hb
theorem jb_mul(ha:JE X a ta)(hb:JE X b tb):JE X (.BinOp a .Mult b pos) (eOp mul2 ta tb):=j_op o_mul ha hb
theorem jb_mod(ha:JE X a ta)(hb:JE X b tb):JE X (.BinOp a .Mod b pos) (eOp mod2 ta tb):=j_op o_mod ha hb
theorem jb_fdiv(ha:JE X a ta)(hb:JE X b tb):JE X (.BinOp a .FloorDiv b pos) (eOp fdiv2 ta tb):=j_op o_fdiv ha hb
theorem jb_pow(ha:JE X a ta)(hb:JE X b tb):JE X (.BinOp a .Pow b pos) (eOp pow2 ta tb):=j_op o_pow ha hb
theorem jk_eq(hu:X.A.units+200<cLine)(ha:JE X a ta)(hb:JE X b tb):JE X (.Compare a [.Eq] [b] pos) (eOp eq2 ta tb):=j_cmp (op_eqD hu) ha hb (nomark _)
theorem jk_ne(hu:X.A.units+200<cLine)(ha:JE X a ta)(hb:JE X b tb):JE X (.Compare a [.NotEq] [b] pos) (eOp ne2 ta tb):=j_cmp (op_neD hu) ha hb (nomark _)
theorem jt_eq(hu:X.A.units+200<cLine)(ha:JE X a ta)(hb:JE X b tb):JT X (.Compare a [.Eq] [b] pos) (tBl (eOp eq2 ta tb)):=jt_cmp (op_eqD hu) ha hb (nomark _)
theorem jt_ne(hu:X.A.units+200<cLine)(ha:JE X a ta)(hb:JE X b tb):JT X (.Compare a [.NotEq] [b] pos) (tBl (eOp ne2 ta tb)):=jt_cmp (op_neD hu) ha hb (nomark _)
theorem jt_lt(ha:JE X a ta)(hb:JE X b tb):JT X (.Compare a [.Lt] [b] pos) (tBl (eOp lt2 ta tb)):=jt_cmp o_lt ha hb (nomark _)
theorem jt_gt(ha:JE X a ta)(hb:JE X b tb):JT X (.Compare a [.Gt] [b] pos) (tBl (eOp gt2 ta tb)):=jt_cmp o_gt ha hb (nomark _)
theorem jt_ge(ha:JE X a ta)(hb:JE X b tb):JT X (.Compare a [.GtE] [b] pos) (tBl (eOp ge2 ta tb)):=jt_cmp o_ge ha hb (nomark _)
theorem jt_in(ha:JE X a ta)(hb:JE X b tb)(hm:behindInMarks .In b=false):JT X (.Compare a [.In] [b] pos) (tBl (eOp (in2 false) ta tb)):=jt_cmp o_in ha hb hm
theorem jt_notin(ha:JE X a ta)(hb:JE X b tb)(hm:behindInMarks .NotIn b=false):JT X (.Compare a [.NotIn] [b] pos) (tBl (eOp (in2 true) ta tb)):=jt_cmp o_notin ha hb hm
theorem j_ixS(ha:JE X a ta)(hb:JE X b tb)(hs:PlainIx b:=by exact fun _ _=>rfl):JE X (.Subscript a b pos) (eOp ix2 ta tb):=j_ix x_seq ha hb hs
theorem jw_t(h:JW X a tA):JT X a tA:=h.jt
end
section
variable{X:Cx}{o e:Expr}{to:E2}{t:A2}{apos cpos pos:Pos}
theorem jm_append(ho:JE X o to)(ha:JA X [e] t)
  (hbase:attributeBase o "append" X.env (eval o X.env)=eval o X.env:=by rfl) (hfew:((backTo cpos (starEach [e] X.env)).all (fun x=> !x.1)&&(backToKw cpos (keywordEach [] X.env)).all (fun x=>x.1.isSome)&&decide (([e]:List Expr).length+([]:List Keyword).length+(if([]:List Keyword).isEmpty then 0 else 1)<30))=true:=by rfl)
  (hline:(apos.endLine==cpos.line)=true:=by rfl) (hs:starEach [e] X.env=(false,eval e X.env)::starEach [] X.env:=by rfl):JE X (.Call (.Attribute o "append" apos) [e] [] cpos) (eMtL append2 to t):=j_mtL PySem.F.slot_list_append PySem.F.type_list_append m_append ho ha hbase hfew hline hs rfl
theorem jm_extend(ho:JE X o to)(ha:JA X [e] t)
  (hbase:attributeBase o "extend" X.env (eval o X.env)=eval o X.env:=by rfl) (hfew:((backTo cpos (starEach [e] X.env)).all (fun x=> !x.1)&&(backToKw cpos (keywordEach [] X.env)).all (fun x=>x.1.isSome)&&decide (([e]:List Expr).length+([]:List Keyword).length+(if([]:List Keyword).isEmpty then 0 else 1)<30))=true:=by rfl)
  (hline:(apos.endLine==cpos.line)=true:=by rfl) (hs:starEach [e] X.env=(false,eval e X.env)::starEach [] X.env:=by rfl):JE X (.Call (.Attribute o "extend" apos) [e] [] cpos) (eMtL extend2 to t):=j_mtL PySem.F.slot_list_extend PySem.F.type_list_extend m_extend ho ha hbase hfew hline hs rfl
theorem jm_join(ho:JE X o to)(ha:JA X [e] t)
  (hbase:attributeBase o "join" X.env (eval o X.env)=eval o X.env:=by rfl) (hfew:((backTo cpos (starEach [e] X.env)).all (fun x=> !x.1)&&(backToKw cpos (keywordEach [] X.env)).all (fun x=>x.1.isSome)&&decide (([e]:List Expr).length+([]:List Keyword).length+(if([]:List Keyword).isEmpty then 0 else 1)<30))=true:=by rfl)
  (hline:(apos.endLine==cpos.line)=true:=by rfl) (hs:starEach [e] X.env=(false,eval e X.env)::starEach [] X.env:=by rfl):JE X (.Call (.Attribute o "join" apos) [e] [] cpos) (eMtS join2 to t):=j_mtS PySem.F.slot_str_join PySem.F.type_str_join m_join ho ha hbase hfew hline hs rfl
end
end L3
namespace L3
open PySem L2
noncomputable def cGo2(items:List PV)(c:Gp→Prop)(ix:List (Option Nat))(j j2:Nat)(τ:St2)(tf:T2)(te:E2)(Q:K2)(G1:Gp)(acc:Addr):Prop:=
 ∃W:Nat→List PV→Gp→Prop,W 0 [] (up G1 acc (.lst []))∧(∀i ys G,i≤items.length→W i ys G→c G∧G acc=some (.lst ys)∧ys.length<16000000)∧
  (∀i ys G x,items[i]? =some x→W i ys G→∃p q,x= .tup [p,q]∧tf (st (st (cap2 ix τ) j (some p)) j2 (some q)) G fun b G2=>way2 b (te (st (st (cap2 ix τ) j (some p)) j2 (some q)) G2 fun y G3=>G3 acc=some (.lst ys)∧W (i+1) (ys++[y]) (up G3 acc (.lst (ys++[y])))) (W (i+1) ys G2))∧∀ys G,W items.length ys G→Q (.ref acc) G
noncomputable abbrev eComp2(ti:TI2)(ix:List (Option Nat))(j j2:Nat)(tf:T2)(te:E2):E2:=fun τ G Q=>ti τ G fun items c G1=>∀acc,G1 acc=none→cGo2 items c ix j j2 τ tf te Q G1 acc
section
variable{X:Cx}
theorem low_comp2{ti:TI2}{ix:List (Option Nat)}{j j2:Nat}{tf:T2}{te:E2}{σ:L2.St}{H:Hp}{Q:VK}(q:lowE X.K (eComp2 ti ix j j2 tf te) σ H Q):tComp2 X.K (lowI X.K ti) ix j j2 (lowT X.K tf) (lowE X.K te) σ H Q:=by
 obtain⟨τ,G,Q2,rs,rp,q,cl⟩:=q
 refine⟨τ,G,_,rs,rp,q,fun items c G1 J H1 q1 r1 k1 ok acc hacc=> ?_⟩
 obtain⟨W,w0,hW,turn,done⟩:=q1 acc (r1.none hacc)
 have kn:Keep X.K H1 (upd H1 acc (.lst [])):=keep_new hacc
 refine⟨fun i m H'=>m=items.length-i∧i≤items.length∧∃ys G',W i ys G'∧Rep X.K H' G'∧Keep X.K H1 H',⟨_,rfl,Nat.zero_le _,[],_,w0,r1.new hacc .nil,kn⟩,?_⟩
 rintro i m H2 ⟨rfl,hi,ys,G2,w2,r2,k2⟩
 obtain⟨hc,hacc2,hys⟩:=hW i ys G2 hi w2
 obtain⟨o1,o2,o3⟩:=ok i H2 G2 k2 r2 hc
 by_cases hlt:i<items.length
 ·refine .inr ⟨o1 hlt,fun x H3 y=> ?_⟩
  obtain⟨p,ep,k3,r3,d3⟩:=o3 x H3 hlt y
  obtain⟨pa,pb,rfl,turn'⟩:=turn i ys G2 p ep w2
  obtain⟨ta,vs,rfl,sq,u1,vr,rfl,du1,u2,vr2,rfl,du2,e3⟩:=d3
  obtain rfl:vr2=[]:=e3
  have k13:=k2.trans k3
  refine⟨ta,u1,u2,rfl,sq,?_⟩
  have rs3:RSt X.K H3 (((cap ix σ).set j (some u1)).set j2 (some u2)) (st (st (cap2 ix τ) j (some pa)) j2 (some pb)):=((cap_rst ix (rs.keep (k1.trans k13))).set du1 j).set du2 j2
  refine⟨_,G2,_,rs3,r3,turn',fun b G4 H4 q4 r4 k4=> ?_⟩
  have k14:=k13.trans k4
  cases b with
  |false=>exact iteF ⟨items.length-(i+1),by(first|lia|omega),rfl,hlt,ys,G4,q4,r4,k14⟩
  |true=>
   refine iteT ⟨_,G4,_,rs3.keep k4,r4,q4,fun y G5 v H5 q5 d5 r5 k5=> ?_⟩
   obtain⟨ea,w5⟩:=q5
   obtain⟨vs,hv,dv⟩:=r5.lst ea
   refine⟨vs,hv,by rw[dv.length];exact bigLt (Nat.le_of_lt hys),items.length-(i+1),by(first|lia|omega),rfl,hlt,ys++[y],_,w5,r5.put hv (dv.append (.cons d5 .nil)),(k14.trans k5).trans (keep_lst hv)⟩
 ·have e:i=items.length:=by(first|lia|omega)
  subst e
  exact .inl ⟨o2 rfl,cl _ _ _ _ (done ys G2 w2) rfl r2 (k1.trans k2)⟩
theorem j_comp2{scope:Scope}{M:List Str}{ix:List (Option Nat)}{j j2 kt:Nat}{x y:Str}{elt iter:Expr}{px py pt pos:Pos}{ifs:List Expr}{ti:TI2}{tf:T2}{te:E2}(S:compOkB X.env.scope X.N scope M ix j x=true)(S2:CompTwo scope M ix j2 y)(hc:X.calm=true)(hi:JI X (tT2 x y px py kt pt) iter ti)
  (hb:∀C s H fp,JF (cxComp X M scope C s H fp) ifs tf∧JE (cxComp X M scope C s H fp) elt te) (hs:∀x,foldedSetIterable iter X.env x=pure x:=by intro _;rfl):
  JE X (.ListComp elt [⟨tT2 x y px py kt pt,iter,ifs,0⟩] scope pos) (eComp2 ti ix j j2 tf te):= .of (pe_comp2 (compS S) S2 hc hi.h (fun C s H fp=>⟨(hb C s H fp).1.h,(hb C s H fp).2.h⟩) hs) fun σ H Q q=>low_comp2 q
end
noncomputable abbrev eChain(r r':B2)(ta tb tc:E2):E2:=fun τ G Q=>ta τ G fun x G1=>tb τ G1 fun y G2=>r x y G2 fun z G3=>match z with
 | .bl k=>way2 k (tc τ G3 fun w G4=>r' y w G4 Q) (Q (.bl false) G3)
 |_=>False
section
variable{X:Cx}{a b c:Expr}{ta tb tc:E2}{pos:Pos}
theorem low_chain{r r':B2}{σ:L2.St}{H:Hp}{Q:VK}(q:lowE X.K (eChain r r' ta tb tc) σ H Q):tChain (lowB X.K r) (lowB X.K r') (lowE X.K ta) (lowE X.K tb) (lowE X.K tc) σ H Q:=by
 obtain⟨τ,G,Q2,rs,rp,q,cl⟩:=q
 refine⟨τ,G,_,rs,rp,q,fun x G1 vx H1 q1 d1 r1 k1=>⟨τ,G1,_,rs.keep k1,r1,q1,fun y G2 vy H2 q2 d2 r2 k2=>⟨x,y,G2,_,d1.keep k2,d2,r2,q2,fun z G3 vz H3 q3 d3 r3 k3=> ?_⟩⟩⟩
 split at q3
 ·rename_i k
  obtain rfl:vz= .bl k:=d3
  refine⟨k,rfl,?_⟩
  cases k with
  |false=>exact iteF (cl _ _ _ _ q3 rfl r3 ((k1.trans k2).trans k3))
  |true=>
   exact iteT ⟨τ,G3,_,rs.keep ((k1.trans k2).trans k3),r3,q3,fun w' G4 vw H4 q4 d4 r4 k4=>⟨y,w',G4,Q2,d2.keep (k3.trans k4),d4,r4,q4,cl.keep (((k1.trans k2).trans k3).trans k4)⟩⟩
 ·exact q3.elim
theorem jt_chain{op op':CmpOp}{r r':B2}(ho:OpR X (compareOp op) (lowB X.K r))(ho':OpR X (compareOp op') (lowB X.K r'))(ha:JE X a ta)(hb:JE X b tb)(hc:JE X c tc)(hm:lastMarks [op,op'] [b,c]=false:=by with_unfolding_all rfl):
  JT X (.Compare a [op,op'] [b,c] pos) (tBl (eChain r r' ta tb tc)):= .of (pt_chain ho ho' ha.h hb.h hc.h hm) fun σ H Q q=>low_tBl (fun σ H Q q=>low_chain q) q
end
section
variable{X:Cx}{a b e:Expr}{ta tb:E2}{t:A2}{es:List Expr}{p pos:Pos}
end
end L3
namespace L3
open PySem L2
end L3
namespace L3
open PySem L2
end L3
namespace L3
open PySem L2
theorem j_gint{X:Cx}{x:Str}{i:Int}{t:Tok}{pos:Pos}(hm:X.mg x=some (.int i t))(hg:Gl X x:=by rfl)(hd:(x==("__debug__" :Str))=false:=by decide):JE X (.Name x pos) (eC (.int i)):=j_glob (v:= .int i) hm ⟨t,rfl⟩ (fun _=>rfl) hg hd
end L3
namespace L3
open PySem L2
end L3
namespace L3
open PySem L2
theorem lek{n:Nat}(h:Nat.ble n 1000=true:=by rfl):n≤1000:=Nat.le_of_ble_eq_true h
theorem lk_lst{G:Gp}{a:Addr}{ps:List PV}(h:G a=some (.lst ps)):lk G a=some ps:=by unfold lk;rw[h]
theorem lk_up{G:Gp}{a:Addr}{ps:List PV}:lk (up G a (.lst ps)) a=some ps:=lk_lst up_same
theorem up_none{G:Gp}{a b:Addr}{o:MO}(h:up G a o b=none):b≠a∧G b=none:=by
 have ne:b≠a:=fun z=>by subst z;rw[up_same]at h;cases h
 exact⟨ne,by rw[up_ne ne]at h;exact h⟩
section
variable{G:Gp}{a b:Addr}{xs ys:List PV}{x y:PV}{i k:Int}{j:Nat}{Q:K2}
theorem append_i(h:G a=some (.lst xs))(hl:xs.length<16000000)(q:Q .non (up G a (.lst (xs++[y])))):append2 (.ref a) [y] G Q:=by
 unfold append2;simp only[h];exact⟨hl,q⟩
theorem extL_i(h:G a=some (.lst xs))(h2:G b=some (.lst ys))(hl:xs.length+ys.length≤16000000)(q:Q .non (up G a (.lst (xs++ys)))):extend2 (.ref a) [.ref b] G Q:=by
 unfold extend2;simp only[h,h2];exact⟨hl,q⟩
theorem len_i(h:lk G a=some xs)(q:Q (.int xs.length) G):len2 [.ref a] G Q:=by
 unfold len2;simp only[h];exact q
theorem ixL_i(h:lk G a=some xs)(e:atI xs i=some x)(q:Q x G):ix2 (.ref a) (.int i) G Q:=by
 unfold ix2;simp only[h,e];exact q
theorem addR_i(h:lk G a=some xs)(hl:xs.length+ys.length≤16000000)(q:∀c,G c=none→Q (.ref c) (up G c (.lst (xs++ys)))):add2 (.ref a) (.ro ys) G Q:=by
 unfold add2;simp only[h];exact⟨hl,q⟩
theorem ixT_i(e:atI xs i=some x)(q:Q x G):ix2 (.tup xs) (.int i) G Q:=by
 unfold ix2;simp only[e];exact q
theorem ixS_i{z:Str}{c:Nat}(hz:z.length≤16000000)(e:atI z.cps.toList i=some c)(q:Q (.str ⟨#[c]⟩) G):ix2 (.str z) (.int i) G Q:=by
 unfold ix2;simp only[e];exact⟨hz,q⟩
theorem setL_i{v:PV}{R:Gp→Prop}(h:G a=some (.lst xs))(e:ixN xs.length k=some j)(q:R (up G a (.lst (xs.set j v)))):setL (.ref a) (.int k) v G R:=by
 unfold setL;simp only[h,e];exact q
theorem addL_i(h:lk G a=some xs)(h2:lk G b=some ys)(hl:xs.length+ys.length≤16000000)(q:∀c,G c=none→Q (.ref c) (up G c (.lst (xs++ys)))):add2 (.ref a) (.ref b) G Q:=by
 unfold add2;simp only[h,h2];exact⟨hl,q⟩
theorem eqL_i(h:lk G a=some xs)(h2:lk G b=some ys)(f1:pureL 100 xs=true)(f2:pureL 100 ys=true)(q:Q (.bl (deqs xs ys)) G):eq2 (.ref a) (.ref b) G Q:=by
 unfold eq2;simp only[h,h2];exact⟨f1,f2,q⟩
theorem tupL_i(h:lk G a=some xs)(q:Q (.tup xs) G):tuple2 [.ref a] G Q:=by
 unfold tuple2;simp only[h];exact q
theorem slL_i{lo hi:Option Int}(h:lk G a=some xs)(q:∀c,G c=none→Q (.ref c) (up G c (.lst (cutP xs lo hi)))):sl2 (.ref a) lo hi G Q:=by
 unfold sl2;simp only[h];exact q
theorem sumL_i{ns:List Int}(h:lk G a=some (ns.map PV.int))(q:Q (.int ns.sum) G):sum2 [.ref a] G Q:=by
 unfold sum2;simp only[h,intsOf_map];exact q
theorem joinL_i{z:Str}{zs:List Str}(h:lk G a=some (zs.map PV.str))(hl:(zs.map (·.length)).sum+zs.length*z.length≤16000000)(q:Q (.str (Txt.join z zs)) G):join2 (.str z) [.ref a] G Q:=by
 unfold join2;simp only[h,strsOf_map];exact⟨hl,q⟩
end
theorem way_keep{c:Bool}{A B:Prop}(hB:B)(hA:c=true→B→A):way2 c A B:=by
 cases c with
 |true=>exact hA rfl hB
 |false=>exact hB
noncomputable def Ch(l:List Addr)(G G':Gp):Prop:=∀c o,c∉l→G c=some o→G' c=some o
theorem Ch.refl{l:List Addr}{G:Gp}:Ch l G G:=fun _ _ _ h=>h
theorem Ch.trans{l:List Addr}{G G1 G2:Gp}(a:Ch l G G1)(b:Ch l G1 G2):Ch l G G2:=fun c o n h=>b c o n (a c o n h)
theorem Ch.new{l:List Addr}{G G1:Gp}{a:Addr}{o:MO}(h:Ch l G G1)(n:G1 a=none):Ch l G (up G1 a o):=fun b u hb q=>by
 have:=h b u hb q
 have ne:b≠a:=fun z=>by subst z;rw[n]at this;cases this
 rw[up_ne ne];exact this
theorem Ch.put{l:List Addr}{G G1:Gp}{a:Addr}{o:MO}(h:Ch l G G1)(n:a∈l):Ch l G (up G1 a o):=fun b u hb q=>by
 have ne:b≠a:=fun z=>by subst z;exact hb n
 rw[up_ne ne];exact h b u hb q
theorem Ch.mod'{l:List Addr}{G G1:Gp}{a:Addr}{o:MO}(h:Ch l G G1)(n:G a=none):Ch l G (up G1 a o):=fun b u hb q=>by
 have ne:b≠a:=fun z=>by subst z;rw[n]at q;cases q
 rw[up_ne ne];exact h b u hb q
theorem Ch.mono{l l':List Addr}{G G1:Gp}(h:Ch l G G1)(s:∀a∈l,a∈l'):Ch l' G G1:=fun b u hb q=>h b u (fun z=>hb (s b z)) q
theorem Ch.ge{l:List Addr}{G G1:Gp}(h:Ch l G G1)(n:∀a∈l,G a=none):GE G G1:=fun b u q=>h b u (fun z=>by rw[n b z]at q;cases q) q
theorem GE.ch{l:List Addr}{G G1:Gp}(h:GE G G1):Ch l G G1:=fun b u _ q=>h b u q
noncomputable def Pool(G:Gp)(a:Addr):Prop:=∃x y z:Int,G a=some (.lst [.int x,.int y,.int z])∧0≤x
theorem Pool.new{G:Gp}{a b:Addr}{o:MO}(h:Pool G a)(n:G b=none):Pool (up G b o) a:=by
 obtain⟨x,y,z,e,hx⟩:=h
 exact⟨x,y,z,by rw[up_ne (fun q=>by subst q;rw[n]at e;cases e)];exact e,hx⟩
theorem Pool.ne{G:Gp}{a b:Addr}{o:MO}(h:Pool G a)(n:b≠a):Pool (up G b o) a:=by
 obtain⟨x,y,z,e,hx⟩:=h
 exact⟨x,y,z,by rw[up_ne (Ne.symm n)];exact e,hx⟩
theorem Pool.ch{G G1:Gp}{a:Addr}{l:List Addr}(h:Pool G a)(c:Ch l G G1)(n:a∉l):Pool G1 a:=by
 obtain⟨x,y,z,e,hx⟩:=h
 exact⟨x,y,z,c a _ n e,hx⟩
theorem ne_none{G:Gp}{a b:Addr}{o:MO}(h:G a=some o)(n:G b=none):a≠b:=fun z=>by subst z;rw[h]at n;cases n
theorem Pool.some{G:Gp}{a:Addr}(h:Pool G a):∃o,G a=some o:=by obtain⟨x,y,z,e,_⟩:=h;exact⟨_,e⟩
theorem never_ok{P:Program}{w:World}{K:PySem.W.Frag}{mg:Str→Option Value}{base:Heap}{k:Nat}{f:Addr}{fd:FuncData}{ps:List Str}{sp:Sp2}(h:∀as G Q,¬sp as G Q):Ok2 P w K mg base k f fd ps sp:=
 ⟨fun vs H Q E ⟨as,G,Q2,_,_,q,_⟩=>absurd q (h as G Q2),fun A outer s H args us vs Q E _ _ _ _ ⟨as,G,Q2,_,_,q,_⟩=>absurd q (h as G Q2)⟩
noncomputable def spPool:Sp2:=fun ps G Q=>∃c:Int,ps=[.int c]∧∀a G',G a=none→Pool G' a→Ch [a] G G'→Q (.ref a) G'
noncomputable def spNext:Sp2:=fun ps G Q=>∃(a:Addr) (b:Int),ps=[.ref a,.int b]∧Pool G a∧1≤b∧b≤1000000∧∀(n:Int) G',0≤n→n<b→Pool G' a→Ch [a] G G'→Q (.int n) G'
inductive Pt where
 |none|blank|sign (s:Str)|row (ps:List Pt)|pick (ps:List Pt)|again (p:Pt)|held (n:Str) (p:Pt)|price (n:Int) (p:Pt)
mutual
noncomputable def enc:Pt→PV
 | .none=> .tup [.str "none"]
 | .blank=> .tup [.str "blank"]
 | .sign s=> .tup [.str "sign",.str s]
 | .row ps=> .tup [.str "row",.tup (encs ps)]
 | .pick ps=> .tup [.str "pick",.tup (encs ps)]
 | .again p=> .tup [.str "again",enc p]
 | .held n p=> .tup [.str "held",.str n,enc p]
 | .price n p=> .tup [.str "price",.int n,enc p]
noncomputable def encs:List Pt→List PV
 |[]=>[]
 |p::ps=>enc p::encs ps
end
theorem encs_map:∀ps:List Pt,encs ps=ps.map enc
 |[]=>rfl
 |p::ps=>by show enc p::encs ps=_;rw[encs_map ps];rfl
theorem encs_append(ps qs:List Pt):encs (ps++qs)=encs ps++encs qs:=by rw[encs_map,encs_map,encs_map,List.map_append]
theorem encs_length(ps:List Pt):(encs ps).length=ps.length:=by rw[encs_map,List.length_map]
noncomputable def inner:Pt→List Pt
 | .row ps=>ps
 | .pick ps=>ps
 | .again p=>[p]
 | .held _ p=>[p]
 | .price _ p=>[p]
 |_=>[]
mutual
noncomputable def size:Pt→Nat
 | .row ps=>1+sizes ps
 | .pick ps=>1+sizes ps
 | .again p=>1+size p
 | .held _ p=>1+size p
 | .price _ p=>1+size p
 |_=>1
noncomputable def sizes:List Pt→Nat
 |[]=>0
 |p::ps=>size p+sizes ps
end
theorem size_inner(p:Pt):size p=1+sizes (inner p):=by
 cases p<;>simp[size,inner,sizes]
theorem size_pos(p:Pt):0<size p:=by rw[size_inner];(first|lia|omega)
theorem sizes_append(ps qs:List Pt):sizes (ps++qs)=sizes ps+sizes qs:=by
 induction ps with
 |nil=>simp[sizes]
 |cons p ps ih=>simp[sizes,ih];(first|lia|omega)
theorem length_le_sizes:∀ps:List Pt,ps.length≤sizes ps
 |[]=>Nat.zero_le _
 |p::ps=>by
  have:=length_le_sizes ps
  have:=size_pos p
  simp[sizes];(first|lia|omega)
noncomputable def oneS(c:Nat):Str:=⟨#[c]⟩
theorem join_cps:∀zs:List Str,(Str.join (Str.ofString "") zs).cps.toList=(zs.map fun z=>z.cps.toList).flatten
 |[]=>rfl
 |[z]=>by simp[Str.join]
 |z::y::r=>by
  show(z++Str.ofString "" ++Str.join (Str.ofString "") (y::r)).cps.toList=_
  have h:=join_cps (y::r)
  rw[List.map_cons,List.flatten_cons,←h]
  show(z.cps++(Str.ofString "").cps++(Str.join (Str.ofString "") (y::r)).cps).toList=_
  rw[Array.toList_append,Array.toList_append]
  simp[show(Str.ofString "").cps.toList=[]from rfl]
theorem joinE_cps(zs:List Str):(Txt.join (Str.ofString "") zs).cps.toList=(zs.map fun z=>z.cps.toList).flatten:=by
 have e:Txt.join (Str.ofString "") zs=Str.join (Str.ofString "") zs:=StrLaws.glued_eq_join _ _
 rw[e,join_cps]
theorem join_chars(cs:List Nat):(Txt.join (Str.ofString "") (cs.map oneS)).cps.toList=cs:=by
 rw[joinE_cps]
 induction cs with
 |nil=>rfl
 |cons c cs ih=>rw[List.map_cons,List.map_cons,List.flatten_cons,ih];rfl
theorem signs_at{z:Str}{i:Nat}{x:PV}(h:(signsP z)[i]? =some x):∃c,z.cps.toList[i]? =some c∧x= .str (oneS c):=by
 unfold signsP at h
 rw[List.getElem?_map]at h
 cases e:z.cps.toList[i]? with
 |none=>rw[e]at h;cases h
 |some c=>rw[e]at h;cases h;exact⟨c,rfl,rfl⟩
theorem pure_strs(cs:List Nat):pureL 100 (cs.map fun c=> .str (oneS c))=true:=by
 induction cs with
 |nil=>rfl
 |cons c cs ih=>rw[List.map_cons];unfold pureL;rw[ih];rfl
theorem sum_ones(cs:List Nat):((cs.map oneS).map (·.length)).sum=cs.length:=by
 induction cs with
 |nil=>rfl
 |cons c cs ih=>rw[List.map_cons,List.map_cons,List.sum_cons,ih,List.length_cons];show 1+cs.length=_;(first|lia|omega)
mutual
noncomputable def depth:Pt→Nat
 | .row ps=>1+depths ps
 | .pick ps=>1+depths ps
 | .again p=>1+depth p
 | .held _ p=>1+depth p
 | .price _ p=>1+depth p
 |_=>1
noncomputable def depths:List Pt→Nat
 |[]=>0
 |p::ps=>max (depth p) (depths ps)
end
mutual
noncomputable def canB:Pt→Bool
 | .none=>false
 | .blank=>true
 | .sign _=>false
 | .row ps=>allB ps
 | .pick ps=>anyB ps
 | .again _=>true
 | .held _ p=>canB p
 | .price _ p=>canB p
noncomputable def allB:List Pt→Bool
 |[]=>true
 |p::ps=>canB p&&allB ps
noncomputable def anyB:List Pt→Bool
 |[]=>false
 |p::ps=>canB p||anyB ps
end
theorem allB_append(ps qs:List Pt):allB (ps++qs)=(allB ps&&allB qs):=by
 induction ps with
 |nil=>simp[allB]
 |cons p ps ih=>simp[allB,ih,Bool.and_assoc]
theorem anyB_at:∀{ps:List Pt},anyB ps=true→∃(i:Nat) (p:Pt),ps[i]? =some p∧canB p=true
 |[],e=>by simp[anyB]at e
 |p::ps,e=>by
  simp[anyB]at e
  rcases e with e|e
  ·exact⟨0,p,rfl,e⟩
  ·obtain⟨i,q,h,c⟩:=anyB_at e
   exact⟨i+1,q,by simpa using h,c⟩
theorem size_depth_inner(p:Pt):depth p=1+depths (inner p):=by
 cases p<;>simp[depth,inner,depths]
theorem atI_of{α:Type}{xs:List α}{n:Int}(h0:0≤n)(h1:n<xs.length):∃x,atI xs n=some x∧x∈xs:=by
 have hl:n.toNat<xs.length:=by(first|lia|omega)
 refine⟨xs[n.toNat],?_,List.getElem_mem hl⟩
 have:=atI_nat (xs:=xs) (j:=n.toNat) (v:=xs[n.toNat]) (List.getElem?_eq_getElem hl)
 rwa [show((n.toNat:Nat):Int)=n by(first|lia|omega)]at this
theorem depth_pos(p:Pt):1≤depth p:=by rw[size_depth_inner];(first|lia|omega)
end L3
namespace L3
open PySem L2
mutual
theorem deq_refl:∀(n:Nat) (p:PV),pureP n p=true→deq p p=true
 |_,.non,_=>rfl
 |_,.bl b,_=>by unfold deq;simp
 |_,.int b,_=>by unfold deq;simp
 |_,.str b,_=>by unfold deq;simp
 |n,.tup xs,h=>by
  cases n with
  |zero=>cases h
  |succ n=>unfold deq;exact deqs_refl n xs h
 |n,.ref _,h=>by cases n<;>cases h
 |n,.ty _,h=>by cases n<;>cases h
 |n,.ro _,h=>by cases n<;>cases h
theorem deqs_refl:∀(n:Nat) (xs:List PV),pureL n xs=true→deqs xs xs=true
 |_,[],_=>rfl
 |n,x::xs,h=>by
  unfold pureL at h
  rw[Bool.and_eq_true]at h
  unfold deqs
  rw[deq_refl n x h.1,deqs_refl n xs h.2]
  rfl
end
end L3
namespace L3
open PySem L2
section
variable{G:Gp}{a b:Addr}{xs ys:List PV}{x y p:PV}{i k:Int}{j:Nat}{Q:K2}
theorem inL_i(h:lk G a=some xs)(f1:flatP p=true)(f2:xs.all flatP=true)(q:Q (.bl (inP p xs)) G):in2 false p (.ref a) G Q:=by
 unfold in2;simp only[h];exact⟨f1,f2,q⟩
theorem neP_i(f1:pureP 100 x=true)(f2:pureP 100 y=true)(q:Q (.bl (!deq x y)) G):ne2 x y G Q:=by
 cases x with
 |ref a=>cases f1
 |ty a=>cases f1
 |ro a=>cases f1
 |_=>cases y with
  |ref a=>cases f2
  |ty a=>cases f2
  |ro a=>cases f2
  |_=>exact⟨f1,f2,q⟩
theorem eqP_i(f1:pureP 100 x=true)(f2:pureP 100 y=true)(q:Q (.bl (deq x y)) G):eq2 x y G Q:=by
 cases x with
 |ref a=>cases f1
 |ty a=>cases f1
 |ro a=>cases f1
 |_=>cases y with
  |ref a=>cases f2
  |ty a=>cases f2
  |ro a=>cases f2
  |_=>exact⟨f1,f2,q⟩
end
theorem depth_part{q c:Pt}{k:Nat}(h:(inner q)[k]? =some c):depth c+1≤depth q:=by
 rw[size_depth_inner q]
 have:∀(ps:List Pt) (k:Nat),ps[k]? =some c→depth c≤depths ps:=by
  intro ps
  induction ps with
  |nil=>intro k h;simp at h
  |cons p ps ih=>
   intro k h
   cases k with
   |zero=>simp at h;subst h;simp[depths];(first|lia|omega)
   |succ k=>have:=ih k (by simpa using h);simp[depths];(first|lia|omega)
 have:=this _ k h
 (first|lia|omega)
end L3
namespace PyProof.Rows
open PySem
section
variable{prog:Program}{w:World}{A:Around}{E:Value→Shared→Prop}{s:Shared}
theorem strsAre_items{x:Str}:∀(n:Nat) {vs:List Value},vs.length=n→(∀(j:Nat) (v:Value),vs[j]? =some v→∃(c:Nat) (u:Tok),x.cps[j]? =some c∧v=Value.str ⟨#[c]⟩ u)→n≤x.cps.size→StrsAre vs ((x.cps.toList.take n).map fun c=>⟨#[c]⟩):=by
 intro n
 induction n with
 |zero=>intro vs hl _ _;rw[List.eq_nil_of_length_eq_zero hl];exact .nil
 |succ n ih=>
  intro vs hl h hn
  have e:vs=vs.take n++[vs[n]'(by(first|lia|omega))]:=by
   have:=List.take_append_drop n vs
   rw[List.drop_eq_getElem_cons (by(first|lia|omega)),List.drop_of_length_le (by(first|lia|omega))]at this
   exact this.symm
  obtain⟨c,u,hc,hv⟩:=h n _ (List.getElem?_eq_getElem (by(first|lia|omega)))
  have hc':x.cps.toList[n]? =some c:=by simpa using hc
  rw[e,List.take_add_one,hc',Option.toList_some,List.map_append]
  have one:StrsAre [vs[n]'(by(first|lia|omega))] (List.map (fun c=>(⟨#[c]⟩:Str)) [c]):=by rw[hv];exact .cons _ _ .nil
  have base:=ih (vs:=vs.take n) (by rw[List.length_take];(first|lia|omega)) (fun j v hj=>by
   rw[List.getElem?_take]at hj
   split at hj
   ·exact h j v hj
   ·cases hj) (by(first|lia|omega))
  clear e
  revert base one
  generalize vs.take n=as
  generalize (x.cps.toList.take n).map (fun c=>(⟨#[c]⟩:Str))=ss
  intro one base
  induction base with
  |nil=>exact one
  |cons y t _ ih2=>exact .cons y t ih2
theorem sorted_str{Q:Value→Shared→Prop}(hh:A.handled=none)(x:Str)(t:Tok)(h64:x.cps.size<64)
  (h:∀(s':Shared) (l:Addr) (out:Array Value) (ss':List Str) (e:Nat),(∀b o,s.heap.get? b=some o→s'.heap.get? b=some o)→s'.gens=s.gens→s'.drawn=s.drawn→s'.os=s.os→s.heap.get? l=none→s'.heap.get? l=some (seqObj "list" out e)→StrsAre out.toList ss'→ss'.Perm (x.cps.toList.map fun c=>⟨#[c]⟩)→Q (.ref l) s'):
  wpAny (model prog w) A (call (.builtin "sorted") [.str x t]) Q E s:=by
 refine Calls.call_function_entry kind_sorted plain_sorted entry_sorted (args_sorted1 _) ?_
 unfold Builtin.«sorted»
 refine wpAny_bind (m:=checkCount "sorted" 1 1 _) (wpAny_pure ?_)
 refine wpAny_bind (wpAny_collect_str (A:=A.in1) (show A.in1.handled=none from hh) x t (fun s' acc hk hg hd ho hacc=> ?_) (by rw[sizeLine_eq];(first|lia|omega)))
 have hS:StrsAre acc.toList (x.cps.toList.map fun c=>⟨#[c]⟩):=by
  have:=strsAre_items (x:=x) x.cps.size (vs:=acc.toList) (by simpa using hacc.1) (fun j v hj=>hacc.2 j v (by simpa using hj)) (Nat.le_refl _)
  rwa [List.take_of_length_le (by simp)]at this
 have hl:acc.toList.length<64:=by rw[Array.length_toList,hacc.1];exact h64
 refine wpAny_bind (wpAny_newList ?_)
 have hoL:(s'.heap.push (seqObj "list" acc.toList.toArray 0)).get? s'.heap.objs.size=some (seqObj "list" acc.toList.toArray 0):=Heap.get?_push_size _ rfl
 have hle:s.heap.get? s'.heap.objs.size=none:=by
  cases e:s.heap.get? s'.heap.objs.size with
  |none=>rfl
  |some o=>
   have:=hk _ o e
   rw[Heap.get?_none_of_le (Nat.le_refl _)]at this
   cases this
 show wpAny _ _ _ _ _ {s' with heap:=s'.heap.push (seqObj "list" acc.toList.toArray 0)}
 refine wpAny_bind (wpAny_holding (wpAny_call_entry slot_list_sort ⟨_,hoL,rfl⟩ entry_list_sort (list_sort_treeK strKind_oneLt hoL hS.keysOf (fun v₁ v₂ rest e=>keyKind_strs (by rw[←e];exact hS)) hl fun st' a1 a2=>⟨_,rfl,?_⟩) (args_list_sort _)))
 obtain⟨ss',h1,h2,h3⟩:=sorted_out_str hS a1 a2
 obtain⟨e,he⟩:=sortedHeap_at (out:=(arrOf st').map (·.2)) hoL
 refine wpAny_pure ⟨_,rfl,h _ s'.heap.objs.size _ ss' e (fun b o q=> ?_) hg hd ho hle he h1 h2⟩
 have q':=hk b o q
 have hb:b<s'.heap.objs.size:=Heap.lt_size q'
 show(sortedHeap _ _ _ _).get? b=some o
 rw[sortedHeap_old (Nat.ne_of_lt hb) (Heap.lt_size (Heap.get?_push_of_some _ q'))]
 exact Heap.get?_push_of_some _ q'
end
end PyProof.Rows
namespace PySem
open Sem (wp)
open Builtin
end PySem
namespace L3
open PySem L2
noncomputable def sortedS2:C2:=fun ps G Q=>match ps with
 |[.str z]=>z.length<64∧∀(cs:List Nat) c,cs.Perm z.cps.toList→G c=none→Q (.ref c) (up G c (.lst (cs.map fun c=> .str (oneS c))))
 |_=>False
theorem vals_strs{ns:List Str}{us:List Value}(h:PyProof.Rows.StrsAre us ns):Vals (ns.map V.str) us:=by
 induction h with
 |nil=>exact .nil
 |cons n t _ ih=>exact .cons ⟨t,rfl⟩ ih
theorem strs_D{K:PySem.W.Frag}{H:Hp}:∀(l:List Str),Dvs K H (l.map PV.str) (l.map V.str)
 |[]=>rfl
 |i::l=>⟨_,_,rfl,rfl,strs_D l⟩
section
variable{X:Cx}
theorem c_sortedS(hc:X.calm=true):CallR X (.builtin "sorted") (lowC X.K sortedS2):=by
 intro pins s σ H xs us Q I rs h
 obtain⟨ps,G,Q2,d,rp,h,cl⟩:=h
 unfold sortedS2 at h
 split at h
 ·rename_i z
  obtain⟨h64,h⟩:=h
  obtain⟨v,rfl,dv⟩:=one_arg d
  obtain rfl:v= .str z:=dv
  obtain⟨u,rfl,t,rfl⟩:=rs.one
  refine PyProof.Rows.sorted_str (I.ok.hd hc) z t h64 fun s' l out ss e hk hg hd ho hn he hs hp=> ?_
  obtain⟨cs,hcs,rfl⟩:∃cs:List Nat,cs.Perm z.cps.toList∧ss=cs.map oneS:=by
   refine⟨ss.map fun y=>y.cps.getD 0 0,?_,?_⟩
   ·have:=hp.map fun y=>y.cps.getD 0 0
    rw[List.map_map]at this
    have e2:((fun y:Str=>y.cps.getD 0 0)∘fun c=>(⟨#[c]⟩:Str))=id:=by funext c;rfl
    rwa [e2,List.map_id]at this
   ·rw[List.map_map]
    have hall:∀y∈ss,oneS (y.cps.getD 0 0)=y:=by
     intro y hy
     have:=hp.mem_iff.mp hy
     obtain⟨c,_,rfl⟩:=List.mem_map.mp this
     rfl
    exact(List.map_id ss).symm.trans (List.map_congr_left fun y hy=>(hall y hy).symm)
  have hHl:H l=none:=I.hok.none_of hn
  obtain⟨hp',g',d',t',o'⟩:=s'
  obtain rfl:g'=s.gens:=hg
  obtain rfl:d'=s.drawn:=hd
  obtain rfl:o'=s.os:=ho
  have e1:(cs.map oneS).map V.str=cs.map fun c=>V.str (oneS c):=by rw[List.map_map];rfl
  have e2:(cs.map oneS).map PV.str=cs.map fun c=>PV.str (oneS c):=by rw[List.map_map];rfl
  refine⟨.ref l,upd H l (.lst ((cs.map oneS).map V.str)),I.un (t':=t') (Un.laidN hk hn hHl) (I.hok.laidN hk hHl ?_),rfl,cl _ _ _ _ (h cs l hcs (rp.none hHl)) rfl ?_ (keep_new hHl)⟩
  ·have lm:cs.length=z.length:=by rw[hcs.length_eq,Array.length_toList];rfl
   exact⟨by rw[List.length_map,List.length_map,lm];exact big (by(first|lia|omega)),out.toList,e,vals_strs hs,by simpa using he⟩
  ·rw[←e2]
   exact rp.new hHl (strs_D _)
 ·exact h.elim
end
end L3
namespace PySem
open PyProof.Rows (StrsAre)
section
variable{prog:Program}{w:World}{A:Around}{E:Value→Shared→Prop}{s:Shared}
end
end PySem
namespace PySem
open PyProof.Rows (StrsAre)
section
variable{prog:Program}{w:World}{A:Around}{R:Result→Shared→Prop}{I:Addr}{fp wr:List Addr}{G:Array GenState→Array GenState→Prop}{n:Nat}{P:Nat→Value→Prop}{St:Nat→Shared→Prop}
end
section
variable{prog:Program}{w:World}{A:Around}{E:Value→Shared→Prop}{s:Shared}
end
end PySem
namespace PySem
open PyProof.Rows (StrsAre)
section
variable{M:Model}{A:Around}{E:Value→Shared→Prop}
end
namespace F
end F
end PySem
namespace PySem
open PyProof.Rows (StrsAre)
section
variable{prog:Program}{w:World}{A:Around}{E:Value→Shared→Prop}{s:Shared}{I S T:Addr}{i ep:Nat}{es:Array (Int×Value)}{t:SetTable}{ps:List Nat}
end
end PySem
namespace PySem
open PyProof.Rows (StrsAre)
section
variable{prog:Program}{w:World}{A:Around}{E:Value→Shared→Prop}{s:Shared}{I S T:Addr}{i ep:Nat}{es:Array (Int×Value)}{t:SetTable}{ps:List Nat}
end
end PySem
namespace PySem
open PyProof.Rows (StrsAre)
section
variable{prog:Program}{w:World}{A:Around}{E:Value→Shared→Prop}{s:Shared}{S:Addr}{ks:List Str}
end
end PySem
namespace PySem
open PyProof.Rows
section
variable{prog:Program}{w:World}{A:Around}{E:Value→Shared→Prop}{s:Shared}{S:Addr}{ks:List Str}
end
end PySem
namespace L3
open PySem L2
section
variable{X:Cx}{a b:Expr}{ta tb:E2}{pos:Pos}
end
end L3
namespace PySem
open Sem (wp)
open Builtin
end PySem
namespace L3
open PySem L2
section
variable{X:Cx}{a b:Expr}{ta tb:E2}{pos:Pos}
end
end L3
namespace L3
open PySem L2
noncomputable abbrev itL(t:E2):TI2:=fun τ G R=>t τ G fun p G1=>match p with
 | .ref a=>match lk G1 a with
  |some ps=>R ps (fun G=>lk G a=some ps) G1
  |none=>False
 |_=>False
theorem ji_list{X:Cx}{l tg:Expr}{t:E2}(hl:JE X l t):JI X tg l (itL t):= .of (pi_list hl.h) fun σ H R hPl=>by
 obtain⟨τ,G,R2,rs,rp,h,cl⟩:=hPl
 refine⟨τ,G,_,rs,rp,h,fun p G1 v H1 q d r k=> ?_⟩
 cases p with
 |ref a=>
  obtain rfl:v= .ref a:=d
  dsimp only at q
  split at q
  ·rename_i ps e
   obtain⟨vs,sq,dv⟩:=lk_sq r e
   exact⟨a,rfl,⟨vs,sq⟩,cl _ _ _ _ _ q r k it_lst⟩
  ·exact q.elim
 |_=>exact q.elim
end L3
namespace L3
open PySem L2
noncomputable def asc(z:Str):Prop:=(z.cps.all fun x=>decide (x<128))=true
end L3
namespace L3
open PySem L2
theorem size_mem:∀{ps:List Pt} {c:Pt},c∈ps→size c≤sizes ps
 |p::ps,c,h=>by
  rcases List.mem_cons.mp h with rfl|h
  ·simp only[sizes];(first|lia|omega)
  ·have:=size_mem h;simp only[sizes];(first|lia|omega)
theorem depth_mem:∀{ps:List Pt} {c:Pt},c∈ps→depth c≤depths ps
 |p::ps,c,h=>by
  rcases List.mem_cons.mp h with rfl|h
  ·simp only[depths];(first|lia|omega)
  ·have:=depth_mem h;simp only[depths];(first|lia|omega)
theorem depths_le{n:Nat}:∀{ps:List Pt},(∀c∈ps,depth c≤n)→depths ps≤n
 |[],_=>Nat.zero_le _
 |p::ps,h=>by
  simp only[depths]
  exact Nat.max_le.mpr ⟨h p (by simp),depths_le fun c hc=>h c (by simp[hc])⟩
end L3
namespace L3
open PySem L2
end L3
namespace L3
open PySem L2
end L3
namespace L3
open PySem L2
end L3
namespace L3
open PySem L2
inductive Tr where
 |blank|sign (s:Str)|row (ts:List Tr)|pick (k:Int) (t:Tr)|again (ts:List Tr)|held (n:Str) (t:Tr)|price (n:Int) (t:Tr)
mutual
noncomputable def ent:Tr→PV
 | .blank=> .tup [.str "blank"]
 | .sign s=> .tup [.str "sign",.str s]
 | .row ts=> .tup [.str "row",.tup (ents ts)]
 | .pick k t=> .tup [.str "pick",.int k,ent t]
 | .again ts=> .tup [.str "again",.tup (ents ts)]
 | .held n t=> .tup [.str "held",.str n,ent t]
 | .price n t=> .tup [.str "price",.int n,ent t]
noncomputable def ents:List Tr→List PV
 |[]=>[]
 |t::ts=>ent t::ents ts
end
theorem ents_map:∀ts:List Tr,ents ts=ts.map ent
 |[]=>rfl
 |t::ts=>by show ent t::ents ts=_;rw[ents_map ts];rfl
theorem ents_append(ts us:List Tr):ents (ts++us)=ents ts++ents us:=by rw[ents_map,ents_map,ents_map,List.map_append]
theorem ents_length(ts:List Tr):(ents ts).length=ts.length:=by rw[ents_map,List.length_map]
theorem ents_at{ps:List Tr}{i:Nat}{x:PV}(h:(ents ps)[i]? =some x):∃c,ps[i]? =some c∧x=ent c:=by
 rw[ents_map,List.getElem?_map]at h
 cases e:ps[i]? with
 |none=>rw[e]at h;cases h
 |some c=>rw[e]at h;exact⟨c,rfl,(Option.some.inj h).symm⟩
noncomputable def tinn:Tr→List Tr
 | .row ts=>ts
 | .again ts=>ts
 | .pick _ t=>[t]
 | .held _ t=>[t]
 | .price _ t=>[t]
 |_=>[]
mutual
noncomputable def tsz:Tr→Nat
 | .row ts=>1+tszs ts
 | .again ts=>1+tszs ts
 | .pick _ t=>1+tsz t
 | .held _ t=>1+tsz t
 | .price _ t=>1+tsz t
 |_=>1
noncomputable def tszs:List Tr→Nat
 |[]=>0
 |t::ts=>tsz t+tszs ts
end
mutual
noncomputable def tdp:Tr→Nat
 | .row ts=>1+tdps ts
 | .again ts=>1+tdps ts
 | .pick _ t=>1+tdp t
 | .held _ t=>1+tdp t
 | .price _ t=>1+tdp t
 |_=>1
noncomputable def tdps:List Tr→Nat
 |[]=>0
 |t::ts=>max (tdp t) (tdps ts)
end
theorem tdp_inn(t:Tr):tdp t=1+tdps (tinn t):=by cases t<;>simp[tdp,tinn,tdps]
theorem tdp_pos(t:Tr):1≤tdp t:=by rw[tdp_inn];(first|lia|omega)
theorem tdp_mem:∀{ts:List Tr} {c:Tr},c∈ts→tdp c≤tdps ts
 |p::ps,c,h=>by
  rcases List.mem_cons.mp h with rfl|h
  ·simp only[tdps];(first|lia|omega)
  ·have:=tdp_mem h;simp only[tdps];(first|lia|omega)
theorem tdps_le{n:Nat}:∀{ts:List Tr},(∀c∈ts,tdp c≤n)→tdps ts≤n
 |[],_=>Nat.zero_le _
 |p::ps,h=>by
  simp only[tdps]
  exact Nat.max_le.mpr ⟨h p (by simp),tdps_le fun c hc=>h c (by simp[hc])⟩
mutual
noncomputable def tin:Tr→List Tr
 | .row ts=> .row ts::tins ts
 | .again ts=> .again ts::tins ts
 | .pick k t=> .pick k t::tin t
 | .held n t=> .held n t::tin t
 | .price n t=> .price n t::tin t
 |t=>[t]
noncomputable def tins:List Tr→List Tr
 |[]=>[]
 |t::ts=>tin t++tins ts
end
theorem tin_inn(t:Tr):tin t=t::tins (tinn t):=by cases t<;>simp[tin,tinn,tins]
noncomputable def sgO:Tr→Option Str
 | .sign s=>some s
 |_=>none
noncomputable def tcsL(l:List Tr):List Nat:=((l.filterMap sgO).map fun z=>z.cps.toList).flatten
noncomputable abbrev tcs(t:Tr):List Nat:=tcsL (tin t)
theorem tcsL_append(a b:List Tr):tcsL (a++b)=tcsL a++tcsL b:=by unfold tcsL;rw[List.filterMap_append,List.map_append,List.flatten_append]
theorem tcs_sign(s:Str):tcs (.sign s)=s.cps.toList:=by simp[tcs,tcsL,tin,sgO]
theorem tcs_inn{t:Tr}(h:sgO t=none):tcs t=tcsL (tins (tinn t)):=by
 unfold tcs
 rw[tin_inn]
 unfold tcsL
 rw[List.filterMap_cons,h]
theorem tcs_cons(t:Tr)(ts:List Tr):tcsL (tins (t::ts))=tcs t++tcsL (tins ts):=tcsL_append _ _
theorem tcs_flat:∀ts:List Tr,tcsL (tins ts)=(ts.map tcs).flatten
 |[]=>rfl
 |t::ts=>by rw[tcs_cons,tcs_flat ts];rfl
mutual
theorem ent_pure:∀(p:Tr) (n:Nat),2*tdp p≤n→pureP n (ent p)=true
 | .blank,n,h=>by
  simp[tdp]at h
  obtain⟨n,rfl⟩:∃m,n=m+1:=⟨n-1,by(first|lia|omega)⟩
  simp[ent,pureP,pureL]
 | .sign s,n,h=>by
  simp[tdp]at h
  obtain⟨n,rfl⟩:∃m,n=m+1:=⟨n-1,by(first|lia|omega)⟩
  simp[ent,pureP,pureL]
 | .row ps,n,h=>by
  simp[tdp]at h
  obtain⟨n,rfl⟩:∃m,n=m+2:=⟨n-2,by(first|lia|omega)⟩
  simp[ent,pureP,pureL,ents_pure ps n (by(first|lia|omega))]
 | .again ps,n,h=>by
  simp[tdp]at h
  obtain⟨n,rfl⟩:∃m,n=m+2:=⟨n-2,by(first|lia|omega)⟩
  simp[ent,pureP,pureL,ents_pure ps n (by(first|lia|omega))]
 | .pick s p,n,h=>by
  simp[tdp]at h
  obtain⟨n,rfl⟩:∃m,n=m+1:=⟨n-1,by(first|lia|omega)⟩
  simp[ent,pureP,pureL,ent_pure p n (by(first|lia|omega))]
 | .held s p,n,h=>by
  simp[tdp]at h
  obtain⟨n,rfl⟩:∃m,n=m+1:=⟨n-1,by(first|lia|omega)⟩
  simp[ent,pureP,pureL,ent_pure p n (by(first|lia|omega))]
 | .price s p,n,h=>by
  simp[tdp]at h
  obtain⟨n,rfl⟩:∃m,n=m+1:=⟨n-1,by(first|lia|omega)⟩
  simp[ent,pureP,pureL,ent_pure p n (by(first|lia|omega))]
theorem ents_pure:∀(ps:List Tr) (n:Nat),2*tdps ps≤n→pureL n (ents ps)=true
 |[],n,h=>by simp[ents,pureL]
 |p::ps,n,h=>by
  simp[tdps]at h
  simp[ents,pureL,ent_pure p n (by(first|lia|omega)),ents_pure ps n (by(first|lia|omega))]
end
end L3
namespace L3
open PySem L2
section
variable{X:Cx}{a b e:Expr}{es:List Expr}{ta tb:E2}{t:A2}{p pos:Pos}
theorem jc_sortedS(B:BN X.mg)(hc:X.calm=true)(ha:JA X (e::es) t)(hg:Gl X "sorted" :=by rfl)(he:starEach (e::es) X.env=(false,eval e X.env)::starEach es X.env:=by rfl)(hpl:(backTo pos (starEach es X.env)).any (·.1)=false:=by rfl):JE X (.Call (.Name "sorted" p) (e::es) [] pos) (eCl sortedS2 t):=j_callB (c_sortedS hc) B.sorted boot_sorted ha hg (by decide) (by decide) he hpl
end
end L3
namespace L2
open PySem PySem.Spec PyProof.Rows
section
variable{X:Cx}{scope:Scope}{M:List Str}{ix:List (Option Nat)}{j:Nat}{x:Str}
end
end L2
namespace L3
open PySem L2
section
variable{X:Cx}
end
end L3
namespace L3
open PySem L2
section
variable{prog:Program}{w:World}{A:Around}{E:Value→Shared→Prop}{s:Shared}
end
end L3
namespace L3
open PySem L2
section
variable{X:Cx}{a b c:Expr}{ta tb tc:E2}{pos:Pos}
theorem jt_lelt(ha:JE X a ta)(hb:JE X b tb)(hc:JE X c tc)(hm:lastMarks [.LtE,.Lt] [b,c]=false:=by with_unfolding_all rfl):JT X (.Compare a [.LtE,.Lt] [b,c] pos) (tBl (eChain le2 lt2 ta tb tc)):=jt_chain o_le o_lt ha hb hc hm
end
end L3
namespace L3
open PySem L2
section
variable{K:PySem.W.Frag}{H:Hp}
end
section
variable{X:Cx}{d e:Expr}{td te:E2}{pos p:Pos}
end
end L3
namespace L3
open PySem L2
section
variable{X:Cx}{p:Pos}
end
end L3
namespace L3
open PySem L2
noncomputable def addE2:B2:=fun p q G Q=>match p,q with
 | .tup [],.tup ys=>Q (.tup ys) G
 |p,q=>add2 p q G Q
theorem addET_i{xs ys:List PV}{G:Gp}{Q:K2}(hl:xs.length+ys.length≤16000000)(q:Q (.tup (xs++ys)) G):addE2 (.tup xs) (.tup ys) G Q:=by
 cases xs with
 |nil=>exact q
 |cons x xs=>exact⟨by simp,hl,q⟩
theorem addEI_i{x y:Int}{G:Gp}{Q:K2}(q:Q (.int (x+y)) G):addE2 (.int x) (.int y) G Q:=q
section
variable{X:Cx}{a b:Expr}{ta tb:E2}{pos:Pos}
theorem o_addE:OpR X (binaryOp .Add) (lowB X.K addE2):=by
 intro pins s σ H x y v u Q I rx ry h
 obtain⟨p,q,G,Q2,d1,d2,rp,h,cl⟩:=h
 unfold addE2 at h
 split at h
 ·rename_i ys
  obtain⟨a,vs,rfl,sa,da⟩:=d1
  obtain⟨b,us,rfl,sb,db⟩:=d2
  obtain rfl:vs=[]:=da
  cases rx
  cases ry
  obtain⟨its,r1,p1,_⟩:=I.tuple sa
  obtain⟨its2,r2,p2,_⟩:=I.tuple sb
  obtain rfl:its=[]:=r1.nil_iff.mpr rfl
  obtain⟨⟨cls,dd,data,sl⟩,ho,hc,n,hd⟩:=id p1
  obtain⟨⟨cls2,dd2,data2,sl2⟩,ho2,hc2,n2,hd2⟩:=id p2
  simp only at hc hd hc2 hd2
  subst hc hd hc2 hd2
  exact PySem.concat_meets ⟨_,ho,rfl⟩ ⟨_,ho2,rfl⟩ PySem.noFill_tuple_add PySem.seq_tuple_add PySem.F.slot_tuple_add PySem.F.entry_tuple_add (PySem.F.args_tuple_add_2 _ _)
   (PyProof.Rows.tuple_addW0 a b _ _ n n2 dd dd2 sl sl2 rfl) ⟨ho,ho2,.ref b,H,I,rfl,cl _ _ _ _ h ⟨b,us,rfl,sb,db⟩ rp .refl⟩
 ·exact o_add pins s σ H x y v u Q I rx ry ⟨p,q,G,Q2,d1,d2,rp,h,cl⟩
theorem jb_addE(ha:JE X a ta)(hb:JE X b tb):JE X (.BinOp a .Add b pos) (eOp addE2 ta tb):=j_op o_addE ha hb
end
end L3
namespace PySem
open PyProof.Rows (StrsAre)
section
variable{prog:Program}{w:World}{A:Around}{E:Value→Shared→Prop}{s:Shared}{d:Addr}
end
end PySem
namespace L3
open PySem L2
section
variable{X:Cx}{e:Expr}{te:E2}
end
end L3
namespace L3
open PySem L2
noncomputable def baseS:List Nat:=(Str.ofString "abc []\\|~x.0").cps.toList
noncomputable def oS(s:Str):Prop:=∀c∈s.cps.toList,c∈baseS
mutual
noncomputable def wq:Pt→Prop
 | .none=>True
 | .blank=>True
 | .sign s=>1≤s.length∧s.length≤6∧oS s
 | .row ps=>2≤ps.length∧ps.length≤6∧wqs ps
 | .pick ps=>2≤ps.length∧ps.length≤6∧wqs ps
 | .again p=>canB p=false∧wq p
 | .held n p=>(n.length≤100∧asc n)∧wq p
 | .price n p=>0≤n∧n≤1000∧wq p
noncomputable def wqs:List Pt→Prop
 |[]=>True
 |p::ps=>wq p∧wqs ps
end
theorem wqs_mem:∀{ps:List Pt},wqs ps↔∀p∈ps,wq p
 |[]=>by simp[wqs]
 |p::ps=>by rw[wqs,wqs_mem (ps:=ps)];simp
theorem wq_inn{p c:Pt}(h:wq p)(hc:c∈inner p):wq c:=by
 cases p with
 |none=>cases hc
 |blank=>cases hc
 |sign s=>cases hc
 |row ps=>exact wqs_mem.mp h.2.2 c hc
 |pick ps=>exact wqs_mem.mp h.2.2 c hc
 |again p=>cases List.mem_singleton.mp hc;exact h.2
 |held n p=>cases List.mem_singleton.mp hc;exact h.2
 |price n p=>cases List.mem_singleton.mp hc;exact h.2.2
inductive Fit:Pt→Tr→Prop
 |blank:Fit .blank .blank
 |sign {s:Str} {c:Nat} (h:c∈s.cps.toList):Fit (.sign s) (.sign ⟨#[c]⟩)
 |row {ps:List Pt} {ts:List Tr} (hl:ts.length=ps.length) (h:∀(i:Nat) (p:Pt) (t:Tr),ps[i]? =some p→ts[i]? =some t→Fit p t):Fit (.row ps) (.row ts)
 |pick {ps:List Pt} {i:Nat} {p:Pt} {t:Tr} (hp:ps[i]? =some p) (h:Fit p t):Fit (.pick ps) (.pick (i:Int) t)
 |again {p:Pt} {ts:List Tr} (h:∀t∈ts,Fit p t):Fit (.again p) (.again ts)
 |held {n:Str} {p:Pt} {t:Tr} (h:Fit p t):Fit (.held n p) (.held n t)
 |price {n:Int} {p:Pt} {t:Tr} (h:Fit p t):Fit (.price n p) (.price n t)
noncomputable def FitL(ps:List Pt)(ts:List Tr):Prop:=ts.length=ps.length∧∀(i:Nat) (p:Pt) (t:Tr),ps[i]? =some p→ts[i]? =some t→Fit p t
theorem FitL.nil:FitL [] []:=⟨rfl,fun i p t h=>by simp at h⟩
theorem FitL.snoc{ps:List Pt}{ts:List Tr}{p:Pt}{t:Tr}(h:FitL ps ts)(f:Fit p t):FitL (ps++[p]) (ts++[t]):=by
 refine⟨by simp[h.1],fun i q u hq hu=> ?_⟩
 by_cases hi:i<ps.length
 ·rw[List.getElem?_append_left hi]at hq
  rw[List.getElem?_append_left (by rw[h.1];exact hi)]at hu
  exact h.2 i q u hq hu
 ·rw[List.getElem?_append_right (by(first|lia|omega))]at hq
  rw[List.getElem?_append_right (by rw[h.1];(first|lia|omega)),h.1]at hu
  by_cases h0:i-ps.length=0
  ·rw[h0]at hq hu
   cases hq;cases hu
   exact f
  ·obtain⟨m,hm⟩:∃m,i-ps.length=m+1:=⟨i-ps.length-1,by(first|lia|omega)⟩
   rw[hm]at hq
   simp at hq
theorem FitL.row{ps:List Pt}{ts:List Tr}(h:FitL ps ts):Fit (.row ps) (.row ts):= .row h.1 h.2
end L3
namespace L3
open PySem L2
end L3
namespace L3
open PySem L2
end L3
namespace L2
open PySem PySem.Spec PyProof.Rows
theorem holes(h:Heap):∀S:List Addr,∃b:Heap,(∀a∈S,b.get? a=none)∧∀a,a∉S→b.get? a=h.get? a
 |[]=>⟨h,by simp,fun _ _=>rfl⟩
 |x::S=>by
  obtain⟨b,h1,h2⟩:=holes h S
  refine⟨b.update x fun o=>{o with data:= .freed},fun a ha=> ?_,fun a ha=> ?_⟩
  ·by_cases e:x=a
   ·subst e
    cases hq:(b.update x fun o=>{o with data:= .freed}).get? x with
    |none=>rfl
    |some o=>
     obtain⟨e1,e2⟩:=Heap.get?_some_iff.mp hq
     obtain⟨objs,l⟩:=b
     have e3:(objs.modify x fun o=>{o with data:= .freed})[x]? =some o:=e1
     rw[Array.getElem?_modify,if_pos rfl]at e3
     cases hx:objs[x]? with
     |none=>rw[hx]at e3;cases e3
     |some u=>
      rw[hx]at e3
      cases e3
      cases e2
   ·rw[Heap.get?_update_other _ _ e]
    exact h1 a ((List.mem_cons.mp ha).resolve_left (Ne.symm e))
  ·rw[Heap.get?_update_other _ _ fun e=>ha (by simp[e])]
   exact h2 a fun hm=>ha (by simp[hm])
theorem frames_re{h base b:Heap}:∀{l:List Env},h.FunFrames base l→(∀a∈frs l,b.get? a=none)→h.FunFrames b l
 |[],_,_=>trivial
 |env::l,⟨hk,⟨L,o,hf,hn,ho,hd⟩,hr⟩,q=>by
  have e:frs (env::l)=L::frs l:=by unfold frs;rw[List.filterMap_cons,hf]
  rw[e]at q
  exact⟨hk,⟨L,o,hf,q L (by simp),ho,hd⟩,frames_re hr fun a ha=>q a (by simp[ha])⟩
noncomputable def XTr(h:Heap)(e T:Addr)(cls:Value):Prop:=∃oe vs oT ts,h.get? e=some oe∧oe.cls=cls∧oe.data= .fields vs∧vs[1]? =some (.ref T)∧T≠e∧h.get? T=some oT∧oT.data= .fields ts∧ts[3]? =some .none
noncomputable def LeftS(l:List Env)(e:Addr)(S:List Addr)(cls:Value)(h h':Heap):Prop:=
 (∃T,XTr h' e T cls∧(T∈S∨h.get? T=none))∧(∀b o,b∉frs l→b≠e→b∉S→h.get? b=some o→h'.get? b=some o)∧∀b o,b∈frs l→h.get? b=some o→∃sl,h'.get? b=some {o with slots:=sl}
section
variable{M:Model}{A:Around}{E:Value→Shared→Prop}{s:Shared}
theorem leftS_of{B base:Heap}{l:List Env}{e:Addr}{S:List Addr}{cls:Value}{h h':Heap}(b2:∀a,a∉e::(S++frs l)→B.get? a=h.get? a)(hl:h.FunFrames base l)(x:Heap.Left B l e cls h h'):LeftS l e S cls h h':=by
 obtain⟨x1,x2,⟨oe,vs,T,oT,ts,h1,h2,h3,h4,h5,h6,h7,h8,h9⟩,x4⟩:=x
 refine⟨⟨T,⟨oe,vs,oT,ts,h1,h2,h3,h4,h6,h7,h8,h9⟩,?_⟩,fun b o n1 n2 n3 q=>x1 b o ?_,fun b o hb q=> ?_⟩
 ·by_cases hS:T∈S
  ·exact .inl hS
  ·refine .inr ?_
   rw[←b2 T ?_]
   ·exact h5
   ·intro hm
    rcases List.mem_cons.mp hm with e1|hm
    ·exact h6 e1
    ·rcases List.mem_append.mp hm with hm|hm
     ·exact hS hm
     ·obtain⟨_,o,ho,hnf⟩:=x2.mem hm
      rw[h7]at ho
      cases ho
      exact hnf ts h8
 ·rw[b2 b (by simp[n1,n2,n3])];exact q
 ·obtain⟨_,o',ho',hnf⟩:=hl.mem hb
  rw[q]at ho'
  cases ho'
  exact x4 b o q hnf
theorem leaving_on{base:Heap}{env:Env}{outer:List Env}{e T:Addr}{cls:Value}{Q:Unit→Shared→Prop}
  (hfr:A.frames=some (env::outer)) (hl:s.heap.FunFrames base (env::outer)) (ht:XTr s.heap e T cls)
  (h:∀h',LeftS (env::outer) e [T] cls s.heap h'→Q () {s with heap:=h'}):wpAny M A (leaving env (.ref e)) Q E s:=by
 obtain⟨B,b1,b2⟩:=holes s.heap (e::([T]++frs (env::outer)))
 obtain⟨oe,vs,oT,ts,h1,h2,h3,h4,h6,h7,h8,h9⟩:=ht
 obtain⟨L,_,hf,_⟩:=hl.2.1
 refine wpAny_leaving_next (base:=B) hfr (frames_re hl fun a ha=>b1 a (by simp[ha])) hf ⟨oe,vs,T,oT,ts,h1,h2,h3,h4,b1 T (by simp),h6,h7,h8,h9⟩ (fun b o q=> ?_) (b1 e (by simp)) fun h' x=>h h' (leftS_of b2 hl x)
 by_cases hm:b∈e::([T]++frs (env::outer))
 ·rw[b1 b hm]at q;cases q
 ·rw[←b2 b hm];exact q
theorem leaving_new{base:Heap}{env:Env}{outer:List Env}{e:Addr}{oe:Obj}{vs:Array Value}{Q:Unit→Shared→Prop}
  (hfr:A.frames=some (env::outer)) (hl:s.heap.FunFrames base (env::outer)) (he:s.heap.get? e=some oe) (hd:oe.data= .fields vs) (h1:vs[1]? =some .none)
  (h:∀h',LeftS (env::outer) e [] oe.cls s.heap h'→Q () {s with heap:=h'}):wpAny M A (leaving env (.ref e)) Q E s:=by
 obtain⟨B,b1,b2⟩:=holes s.heap (e::([]++frs (env::outer)))
 obtain⟨L,_,hf,_⟩:=hl.2.1
 refine wpAny_leaving_first (base:=B) hfr (frames_re hl fun a ha=>b1 a (by simp[ha])) hf he (fun b o q=> ?_) (b1 e (by simp)) hd h1 fun h' x=>h h' (leftS_of b2 hl x)
 by_cases hm:b∈e::([]++frs (env::outer))
 ·rw[b1 b hm]at q;cases q
 ·rw[←b2 b hm];exact q
end
noncomputable def CX1(P:Program)(w:World)(C:Addr):CXT:=fun outer H s E e s'=>∃x T H',e= .ref x∧XTr s'.heap x T (.ref C)∧s.heap.get? x=none∧s.heap.get? T=none∧H' x=none∧H' T=none∧s'.os=s.os∧AllBare s'.gens∧
 Un (frs outer) [] H H' s.heap s'.heap∧HOk P w H' s'.heap∧E (.ref C) none H'
end L2
namespace L2
open PySem PySem.Spec PyProof.Rows
section
variable{X:Cx}{pins:List (Addr×Obj)}{σ:St}{H1:Hp}{s1:Shared}{x:Addr}{S:List Addr}{C:Addr}{h':Heap}{E:XK}
theorem left_end(J:Inv X pins σ H1 s1)(hex:X.ex=[])(hloc:X.s₀.heap.get? X.env.locals=none)(hx:H1 x=none)(hx0:X.s₀.heap.get? x=none)(hS:∀t∈S,H1 t=none∧X.s₀.heap.get? t=none)
  (hL:LeftS X.stack x S (.ref C) s1.heap h') (hE:E (.ref C) none H1):CX1 X.prog X.w C X.outer X.H₀ X.s₀ E (.ref x) {s1 with heap:=h'}:=by
 obtain⟨⟨T,tr,hT⟩,k1,k2⟩:=hL
 have nst:∀b o,X.s₀.heap.get? b=some o→b∉X.fs→b∉frs X.stack:=fun b o q n hm=>by
  rcases List.mem_cons.mp (J.stkSub b hm)with e|hm
  ·rw[e,hloc]at q;cases q
  ·exact n hm
 have nx:∀b o,X.s₀.heap.get? b=some o→b≠x:=fun b o q e=>by rw[e,hx0]at q;cases q
 have nS:∀b o,X.s₀.heap.get? b=some o→b∉S:=fun b o q hm=>by rw[(hS b hm).2]at q;cases q
 have go:∀b o o1,X.s₀.heap.get? b=some o→s1.heap.get? b=some o1→∃sl,h'.get? b=some {o1 with slots:=sl}:=fun b o o1 q q1=>by
  by_cases hm:b∈frs X.stack
  ·exact k2 b o1 hm q1
  ·exact⟨o1.slots,k1 b o1 hm (nx b o q) (nS b o q) q1⟩
 have hTn:H1 T=none∧X.s₀.heap.get? T=none:=by
  rcases hT with hT|hT
  ·exact hS T hT
  ·refine⟨J.hok.none_of hT,?_⟩
   cases q:X.s₀.heap.get? T with
   |none=>rfl
   |some o=>
    obtain⟨o',q'⟩:=J.base.there T o q (by rw[hex];simp)
    rw[hT]at q';cases q'
 refine⟨x,T,H1,rfl,tr,hx0,hTn.2,hx,hTn.1,J.os,J.bare,⟨fun b o q n nf _=> ?_,fun b o q n hb _=> ?_,fun b o q n _=>J.base.free b o q n (by rw[hex];simp),fun b o q _=> ?_,J.base.tups,J.base.frzs,J.base.tbls⟩,fun a o e=> ?_,hE⟩
 ·exact k1 b o (nst b o q nf) (nx b o q) (nS b o q) (J.base.keep b o q n nf (by rw[hex];simp))
 ·obtain⟨sl,q1⟩:=J.base.slot b o q n hb (by rw[hex];simp)
  obtain⟨sl',q2⟩:=go b o _ q q1
  exact⟨sl',q2⟩
 ·obtain⟨o',q1⟩:=J.base.there b o q (by rw[hex];simp)
  obtain⟨sl',q2⟩:=go b o _ q q1
  exact⟨_,q2⟩
 ·have nn:∀b,(b=a∨H1 b=some (.own a))→H1 b≠none:=fun b hb z=>by
   rcases hb with rfl|hb
   ·rw[e]at z;cases z
   ·rw[hb]at z;cases z
  exact(J.hok a o e).stay (fun b u hb q=>k1 b u (fun hm=>nn b hb (J.stkFree b hm)) (fun z=>nn b hb (by rw[z];exact hx)) (fun hm=>nn b hb (hS b hm).1) q) (fun _ q=>q) fun _ _ q=>q
end
section
variable{P:Program}{w:World}{K:PySem.W.Frag}{mg:Str→Option Value}{base:Heap}{N:List Str}{qual:Str}{scope:Scope}{f:Addr}{cdv:Value}{A:Around}{outer:List Env}{s:Shared}{H:Hp}{E:XK}{C:Addr}
theorem size_none(h:Heap):h.get? h.objs.size=none:=by
 cases q:h.get? h.objs.size with
 |none=>rfl
 |some o=>exact absurd (Heap.lt_size q) (Nat.lt_irrefl _)
theorem passes1:Passes (CX1 P w C) (cxOf (CX1 P w C) P w K mg base N qual scope f cdv A outer s H E) E:=by
 rintro pins σ H1 s1 e s' I ⟨x,T,H',rfl,tr,nx,nT,hx,hT,os,bare,un,hok,hE⟩
 have J:=I.call' (ch:=[]) os un hok bare (fun b z=>absurd z (by simp))
 have hn:∀a,s1.heap.get? a=none→s.heap.get? a=none:=fun a q=>by
  cases q0:s.heap.get? a with
  |none=>rfl
  |some o=>
   obtain⟨o',q'⟩:=I.base.there a o q0 (by show a∉[];simp)
   rw[q]at q';cases q'
 refine leaving_on (base:=base) J.ok.frames J.stack tr fun h' hL=> ?_
 exact left_end (X:=cxOf (CX1 P w C) P w K mg base N qual scope f cdv A outer s H E) J rfl (size_none _) hx (hn x nx) (fun t ht=>by cases List.mem_singleton.mp ht;exact⟨hT,hn _ nT⟩) hL hE
theorem raised1{pins:List (Addr×Obj)}{σ:St}{H1:Hp}{s1:Shared}{h':Heap}{x:Addr}{us:List Value}(I:Inv (cxOf (CX1 P w C) P w K mg base N qual scope f cdv A outer s H E) pins σ H1 s1)(m:Heap.MadeExcOf s1.heap h' x (.ref C) us)(hE:E (.ref C) none H1):
  (cxOf (CX1 P w C) P w K mg base N qual scope f cdv A outer s H E).xe (.ref x) {s1 with heap:=h'}:=by
 have J:=I.kept (t':=s1.toks) m.keeps
 have hn:s.heap.get? x=none:=by
  cases q0:s.heap.get? x with
  |none=>rfl
  |some o=>
   obtain⟨o',q'⟩:=I.base.there x o q0 (by show x∉[];simp)
   rw[m.new]at q';cases q'
 obtain⟨t,he,_,_⟩:=m.there
 refine leaving_new (base:=base) J.ok.frames J.stack he rfl rfl fun h'' hL=> ?_
 exact left_end (X:=cxOf (CX1 P w C) P w K mg base N qual scope f cdv A outer s H E) J rfl (size_none _) (I.hok.none_of m.new) hn (fun t ht=>by cases ht) hL hE
theorem tail_keeps{h h':Heap}{bmB tl:List Value}(T:OwnTail h bmB tl)(k:∀b o,h.get? b=some o→h'.get? b=some o):OwnTail h' bmB tl:=by
 induction T with
 |base=>exact .base
 |own e n i _ ih=>exact .own (k _ _ e) (n.keeps k) i ih
noncomputable def tRaise(C:Addr)(t:TA)(E:XK):TS:=fun _ σ H=>t σ H fun vs H1=>vs.length≤sizeLine∧E (.ref C) none H1
theorem ps_raise{xn:Str}{np cpos pos:Pos}{e:Expr}{es:List Expr}{t:TA}(q:PySem.W.excIn K C bmV "ValueError.__new__" =true)
  (hg:Gl (cxOf (CX1 P w C) P w K mg base N qual scope f cdv A outer s H E) xn) (hm:mg xn=some (.ref C))
  (ha:PA (cxOf (CX1 P w C) P w K mg base N qual scope f cdv A outer s H E) (e::es) t) (hdb:(xn==("__debug__" :Str))=false:=by decide)
  (he:starEach (e::es) (cxOf (CX1 P w C) P w K mg base N qual scope f cdv A outer s H E).env=(false,eval e (cxOf (CX1 P w C) P w K mg base N qual scope f cdv A outer s H E).env)::starEach es (cxOf (CX1 P w C) P w K mg base N qual scope f cdv A outer s H E).env:=by rfl)
  (hpl:(backTo cpos (starEach (e::es) (cxOf (CX1 P w C) P w K mg base N qual scope f cdv A outer s H E).env)).any (·.1)=false:=by rfl):
  PS (cxOf (CX1 P w C) P w K mg base N qual scope f cdv A outer s H E) (.Raise (some (.Call (.Name xn np) (e::es) [] cpos)) none pos) (tRaise C t E):=by
 intro pins s1 σ H1 D I h
 obtain⟨bm,ns,nm,qn,bs,hd,sn,sub,ab,col,dd,k0,k1,k2,k3,k5,mN,e1,e2,e3,e4⟩:=exc_parts I.ok.mod.kin q
 refine wpAny_Raise_call_subT F.excBase_ValueError (C:=C) (bm:=bm) (nm:=nm) (q:=qn) (N:=ns) (bs:=bs) (hdct:=hd) (sn:=sn) (sub:=sub) (ab:=ab) (col:=col) (dd:=dd) (k0:=k0) (k1:=k1) (k2:=k2) (k3:=k3) (k5:=k5) (e4.hasType (by decide)) (I.ok.hd rfl) hpl e3 ?_
 refine ld_glob I hg hm ⟨rfl,?_⟩ hdb
 have hz:=ha cpos pins s1 σ H1 _ I h
 rw[he]at hz⊢
 refine PySem.Calls.evalArgs_plain (wpAny_mono hz (fun us s2 h2=> ?_) fun _ _ z=>z)
 obtain⟨vs,H2,I2,r2,hl,hE⟩:=h2
 exact⟨rfl,by rw[←r2.length];exact hl,I2.bk _ _ e1,e2.keeps I2.bk,tail_keeps e4 I2.bk,fun h' x hmade=>raised1 I2 hmade hE⟩
end
end L2
namespace L2
open PySem PySem.Spec PyProof.Rows
section
variable{M:Model}{A:Around}{E:Value→Shared→Prop}{s:Shared}
theorem note_on{base:Heap}{env:Env}{outer:List Env}{e T:Addr}{cls:Value}{Q:Unit→Shared→Prop}
  (hfr:A.frames=some (env::outer)) (hl:s.heap.FunFrames base (env::outer)) (ht:XTr s.heap e T cls)
  (h:∀h',LeftS (env::outer) e [T] cls s.heap h'→Q () {s with heap:=h'}):wpAny M A (noteFrame (.ref e) env) (fun _ s₂=>wpAny M A (setFlight (.ref e) none) Q E s₂) E s:=by
 obtain⟨B,b1,b2⟩:=holes s.heap (e::([T]++frs (env::outer)))
 obtain⟨oe,vs,oT,ts,he,hcls,hd,h1,hTe,hT,hdT,h3⟩:=ht
 subst hcls
 obtain⟨L,_,hf,_⟩:=hl.2.1
 have hl':=frames_re (b:=B) hl fun a ha=>b1 a (by simp[ha])
 have hkb:B.StaysIn s.heap:=fun b o q=>by
  by_cases hm:b∈e::([T]++frs (env::outer))
  ·rw[b1 b hm]at q;cases q
  ·rw[←b2 b hm];exact q
 have hnT:B.get? T=none:=b1 T (by simp)
 unfold noteFrame
 simp only[hf]
 refine wpAny_bind (wpAny_field he hd h1 ?_)
 rw[if_pos (show(Value.ref T !=Value.none)=true from by simp)]
 refine wpAny_bind (wpAny_field hT hdT h3 ?_)
 rw[if_neg (show¬((Value.none==rawInt L)=true)from by simp[rawInt])]
 refine wpAny_bind (wpAny_setField hT hdT (Array.getElem?_eq_some_iff.mp h3).1 ?_)
 have other:∀b,b≠T→(s.heap.update T (Obj.mapFields (·.setIfInBounds 3 Value.none))).get? b=s.heap.get? b:=fun b hb=>Heap.get?_update_other _ _ (Ne.symm hb)
 have noRecord:∀b o,s.heap.get? b=some o→(∀vs,o.data≠ .fields vs)→b≠T:=fun b o hb hnf q=>by
  rw[q,hT]at hb;injection hb with hb;subst hb;exact hnf ts hdT
 refine wpAny_newEntry (base:=B) hfr (hl'.of_keeps fun b o hb hnf=>⟨o,(other b (noRecord b o hb hnf)).trans hb,rfl⟩) hf ((other e (Ne.symm hTe)).trans he)
  (fun b o hbo=>(other b fun q=>by rw[q,hnT]at hbo;cases hbo).trans (hkb b o hbo)) (b1 e (by simp)) hd (Array.getElem?_eq_some_iff.mp h1).1
  fun h' hPl=>by obtain⟨x1,x2,x3,x4⟩:=hPl;exact h h' (leftS_of b2 hl ⟨x1,x2,x3,fun b o hb hnf=>x4 b o ((other b (noRecord b o hb hnf)).trans hb) hnf⟩)
theorem flight_on{e T:Addr}{cls:Value}{Q:Unit→Shared→Prop}(ht:XTr s.heap e T cls)
  (h:∀h',(∀b o,b≠T→s.heap.get? b=some o→h'.get? b=some o)→Q () {s with heap:=h'}):wpAny M A (setFlight (.ref e) none) Q E s:=by
 obtain⟨oe,vs,oT,ts,he,hcls,hd,h1,hTe,hT,hdT,h3⟩:=ht
 unfold setFlight
 refine wpAny_bind (wpAny_field he hd h1 ?_)
 rw[if_pos (show(Value.ref T !=Value.none)=true from by simp)]
 exact wpAny_setField hT hdT (Array.getElem?_eq_some_iff.mp h3).1 (h _ fun b o hb q=>by rw[Heap.get?_update_other _ _ (Ne.symm hb)];exact q)
end
theorem un_left{fs:List Addr}{H H':Hp}{h h1 h2:Heap}{x:Addr}{S:List Addr}(u:Un fs [] H H' h h1)(hx:h.get? x=none)(hS:∀t∈S,h.get? t=none)
  (k1:∀b o,b∉fs→b≠x→b∉S→h1.get? b=some o→h2.get? b=some o) (k2:∀b o,b∈fs→b≠x→b∉S→h1.get? b=some o→∃sl,h2.get? b=some {o with slots:=sl}):Un fs [] H H' h h2:=by
 have nx:∀b o,h.get? b=some o→b≠x:=fun b o q e=>by rw[e,hx]at q;cases q
 have nS:∀b o,h.get? b=some o→b∉S:=fun b o q hm=>by rw[hS b hm]at q;cases q
 have go:∀b o o1,h.get? b=some o→h1.get? b=some o1→∃sl,h2.get? b=some {o1 with slots:=sl}:=fun b o o1 q q1=>by
  by_cases hm:b∈fs
  ·exact k2 b o1 hm (nx b o q) (nS b o q) q1
  ·exact⟨o1.slots,k1 b o1 hm (nx b o q) (nS b o q) q1⟩
 refine⟨fun b o q n nf nx'=>k1 b o nf (nx b o q) (nS b o q) (u.keep b o q n nf nx'),fun b o q n hb nx'=> ?_,u.free,fun b o q nx'=> ?_,u.tups,u.frzs,u.tbls⟩
 ·obtain⟨sl,q1⟩:=u.slot b o q n hb nx'
  obtain⟨sl',q2⟩:=go b o _ q q1
  exact⟨sl',q2⟩
 ·obtain⟨o',q1⟩:=u.there b o q nx'
  obtain⟨sl,q2⟩:=go b o _ q q1
  exact⟨_,q2⟩
theorem hok_left{P:Program}{w:World}{H:Hp}{h1 h2:Heap}{x:Addr}{S fs:List Addr}(ok:HOk P w H h1)(hx:H x=none)(hS:∀t∈S,H t=none)(hf:∀b∈fs,H b=none)
  (k1:∀b o,b∉fs→b≠x→b∉S→h1.get? b=some o→h2.get? b=some o):HOk P w H h2:=fun a o e=>by
 have nn:∀b,(b=a∨H b=some (.own a))→H b≠none:=fun b hb z=>by
  rcases hb with rfl|hb
  ·rw[e]at z;cases z
  ·rw[hb]at z;cases z
 exact(ok a o e).stay (fun b u hb q=>k1 b u (fun hm=>nn b hb (hf b hm)) (fun z=>nn b hb (by rw[z];exact hx)) (fun hm=>nn b hb (hS b hm)) q) (fun _ q=>q) fun _ _ q=>q
section
variable{X:Cx}{C:Addr}
end
end L2
namespace L3
open PySem L2 PySem.Spec PyProof.Rows
theorem keep_un{K:PySem.W.Frag}{H H':Hp}(t:∀b xs,H b=some (.tup xs)→H' b=some (.tup xs))(f:∀b o u,H b=some (.frz o u)→H' b=some (.frz o u)):Keep K H H':=
 ⟨fun a xs h=>by
  rcases h with(h|⟨o,h⟩)|h
  ·exact .inl (.inl (t a xs h))
  ·exact .inl (.inr ⟨o,f a o _ h⟩)
  ·exact .inr h,f⟩
noncomputable abbrev Sp3:=List PV→Gp→K2→(Gp→Prop)→Prop
noncomputable def spX(K:PySem.W.Frag)(C:Addr)(sp:Sp3):Sp:=fun vs H Q E=>∃ps G Q2 EX,Dvs K H ps vs∧Rep K H G∧sp ps G Q2 EX∧Cl K H Q2 Q∧∀G' H',EX G'→Rep K H' G'→E (.ref C) none H'
noncomputable abbrev OkX(P:Program)(w:World)(K:PySem.W.Frag)(mg:Str→Option Value)(base:Heap)(C:Addr)(k:Nat)(f:Addr)(fd:FuncData)(ps:List Str)(sp:Sp3):Prop:=FnOk P w K mg base (CX1 P w C) k f fd ps (spX K C sp)
structure CalX(P:Program)(w:World)(K:PySem.W.Frag)(mg:Str→Option Value)(base:Heap)(C:Addr)(k:Nat)(x:Str)(f:Addr)(fd:FuncData)(ps:List Str)(sp:Sp3):Prop where
 ok:OkX P w K mg base C k f fd ps sp
 b:Binds K fd ps []
 kp:PySem.W.keepIn K (.ref f)=true
 m:mg x=some (.ref f)
noncomputable def XW(K:PySem.W.Frag)(C:Addr)(E:XK)(EX:Gp→Prop):Prop:=∀G' H',EX G'→Rep K H' G'→E (.ref C) none H'
section
variable{P:Program}{w:World}{K:PySem.W.Frag}{mg:Str→Option Value}{base:Heap}{C:Addr}
theorem fnX{x qual:Str}{st:Stmt}{f:Addr}{fd:FuncData}{N ps:List Str}{k:Nat}{sp:Sp3}(F:Fun K x qual st f fd)(S:FnScope N ps (defScope st))(len:∀vs G Q EX,sp vs G Q EX→vs.length=ps.length)
  (hbody:∀(cdv:Value) (A:Around) (outer:List Env) (s:Shared) (H:Hp) (E:XK) (as:List PV) (G:Gp) (Q:K2) (EX:Gp→Prop),Room k (A.deeper (PyProof.Rows.envOfC qual (defScope st) s.heap.objs.size f cdv))→sp as G Q EX→XW K C E EX→
   ∃t,JB (cxOf (CX1 P w C) P w K mg base N qual (defScope st) f cdv A outer s H E) (defBody st) t∧t {nx:=fun _ G'=>∃G0,GE G0 G'∧Q .non G0,rt:=fun p G'=>∃G0,GE G0 G'∧Q p G0} (start2 N as) G):OkX P w K mg base C (k+1) f fd ps sp:=by
 obtain⟨oc,od,kV,doc,pm,an,cdv,ct,osl,rfl,lk,hcd⟩:=F.ex
 refine fn_of lk hcd S (fun vs H Q E h=> ?_) (fun A outer s H vs Q E hr h=> ?_)
 ·obtain⟨as,G,Q2,EX,d,_,h,_,_⟩:=h
  rw[d.length];exact len _ _ _ _ h
 obtain⟨as,G,Q2,EX,d,rp,h,cl,hx⟩:=h
 obtain⟨t,j,q⟩:=hbody cdv A outer s H E as G Q2 EX hr h hx
 refine⟨_,j.h,start2 N as,G,_,start_rst d (by rw[len _ _ _ _ h,←S.pre,List.length_take];(first|lia|omega)),rp,q,⟨fun τ G' σ H' ⟨G0,e0,q1⟩ _ r1 k1=>cl _ _ _ _ q1 rfl (r1.sub e0) k1,fun p G' v H' ⟨G0,e0,q1⟩ d1 r1 k1=>cl _ _ _ _ q1 d1 (r1.sub e0) k1,fun _ _ _ _ q1=>q1.elim,fun _ _ _ _ q1=>q1.elim⟩⟩
variable{N:List Str}{qual:Str}{scope:Scope}{f:Addr}{cdv:Value}{A:Around}{outer:List Env}{s:Shared}{H:Hp}{E:XK}{EX:Gp→Prop}
noncomputable abbrev sRaise(t:A2)(EX:Gp→Prop):S2:=fun _ τ G=>t τ G fun ps G1=>ps.length≤1000∧EX G1
theorem js_raise{xn:Str}{np cpos pos:Pos}{e:Expr}{es:List Expr}{t:A2}(hX:XW K C E EX)(q:PySem.W.excIn K C bmV "ValueError.__new__" =true)(hm:mg xn=some (.ref C))
  (ha:JA (cxOf (CX1 P w C) P w K mg base N qual scope f cdv A outer s H E) (e::es) t) (hg:Gl (cxOf (CX1 P w C) P w K mg base N qual scope f cdv A outer s H E) xn:=by rfl) (hdb:(xn==("__debug__" :Str))=false:=by decide)
  (he:starEach (e::es) (cxOf (CX1 P w C) P w K mg base N qual scope f cdv A outer s H E).env=(false,eval e (cxOf (CX1 P w C) P w K mg base N qual scope f cdv A outer s H E).env)::starEach es (cxOf (CX1 P w C) P w K mg base N qual scope f cdv A outer s H E).env:=by rfl)
  (hpl:(backTo cpos (starEach (e::es) (cxOf (CX1 P w C) P w K mg base N qual scope f cdv A outer s H E).env)).any (·.1)=false:=by rfl):
  JS (cxOf (CX1 P w C) P w K mg base N qual scope f cdv A outer s H E) (.Raise (some (.Call (.Name xn np) (e::es) [] cpos)) none pos) (sRaise t EX):=⟨fun pins s1 σ H1 D I h=>by
 obtain⟨τ,G,D2,rs,rp,q2,_⟩:=h
 refine ps_raise q hg hm ha.h hdb he hpl pins s1 σ H1 D I ⟨τ,G,_,rs,rp,q2,fun ps G1 vs H2 q3 d3 r3 k3=> ?_⟩
 have hz:vs.length=ps.length:=d3.length
 exact⟨by rw[hz];exact Nat.le_trans q3.1 (by decide),hX _ _ q3.2 r3⟩⟩
end
section
variable{X:Cx}{C:Addr}
end
end L3
namespace L3
open PySem L2 PySem.Spec PyProof.Rows
section
variable{K:PySem.W.Frag}{H:Hp}{G:Gp}{p C dx:Addr}
theorem dfv_look:∀{fs:List (Str×PV)} {vs:List (Str×V)} {f:Str} {q:PV},DFv K H fs vs→fs.lookup f=some q→∃v,vs.lookup f=some v∧Dv K H q v
 |[],_,_,_,_,e=>by cases e
 |(k,q0)::fs,vs,f,q,h,e=>by
  obtain⟨v,r,rfl,d,z⟩:=h
  rw[List.lookup_cons]at e⊢
  cases hk:(f==k)with
  |true=>rw[hk]at e;cases e;exact⟨v,rfl,d⟩
  |false=>rw[hk]at e;exact dfv_look z e
theorem dfv_none:∀{fs:List (Str×PV)} {vs:List (Str×V)} {f:Str},DFv K H fs vs→fs.lookup f=none→vs.lookup f=none
 |[],_,_,h,_=>by rw[show _=[]from h];rfl
 |(k,q0)::fs,vs,f,h,e=>by
  obtain⟨v,r,rfl,d,z⟩:=h
  rw[List.lookup_cons]at e⊢
  cases hk:(f==k)with
  |true=>rw[hk]at e;cases e
  |false=>rw[hk]at e;exact dfv_none z e
theorem dfv_len:∀{fs:List (Str×PV)} {vs:List (Str×V)},DFv K H fs vs→vs.length=fs.length
 |[],_,h=>by rw[show _=[]from h];rfl
 |(k,q0)::fs,vs,h=>by
  obtain⟨v,r,rfl,d,z⟩:=h
  rw[List.length_cons,List.length_cons,dfv_len z]
theorem keep_ins{vs:List (Str×V)}{o:HO}(h:H p=some (.ins C dx vs)):Keep K H (L2.upd H p o):=keep_mut (fun xs q=>by rcases q with q|⟨_,q⟩<;>(rw[h]at q;cases q)) fun o u q=>by rw[h]at q;cases q
theorem Rep.putI{vs vs0:List (Str×V)}{fs:List (Str×PV)}(r:Rep K H G)(h:H p=some (.ins C dx vs0))(d:DFv K H fs vs):Rep K (L2.upd H p (.ins C dx vs)) (up G p (.ins C dx fs)):=by
 refine r.upd (keep_ins h) (fun a o e ne=>by rw[up_ne ne]at e;exact e) fun o e=> ?_
 rw[up_same]at e;cases e
 exact⟨vs,upd_same,DFv.keep (keep_ins h) _ d⟩
end
noncomputable def fld2(C:Addr)(f:Str)(x:PV)(G:Gp)(Q:K2):Prop:=match x with
 | .ref a=>match G a with
  |some (.ins C' _ fs)=>C'=C∧match fs.lookup f with
   |some q=>Q q G
   |none=>False
  |_=>False
 |_=>False
theorem fld_i{C a dx:Addr}{f:Str}{G:Gp}{Q:K2}{fs:List (Str×PV)}{q:PV}(h:G a=some (.ins C dx fs))(e:fs.lookup f=some q)(hq:Q q G):fld2 C f (.ref a) G Q:=by
 unfold fld2;simp only[h,e];exact⟨trivial,hq⟩
noncomputable abbrev eFld(C:Addr)(t:E2)(f:Str):E2:=fun τ G Q=>t τ G fun x G1=>fld2 C f x G1 Q
theorem j_fld{X:Cx}{C:Addr}{e:Expr}{f:Str}{t:E2}{pos:Pos}(c:Cls X.K C)(n:NoAttr X.K C f)(he:JE X e t)(hb:attributeBase e f X.env (eval e X.env)=eval e X.env:=by rfl):JE X (.Attribute e f pos) (eFld C t f):=
 .of (pe_fld he.h hb) fun σ H Q hPl=>by
  obtain⟨τ,G,Q2,rs,rp,q,cl⟩:=hPl
  refine⟨τ,G,_,rs,rp,q,fun p G1 v H1 q1 d1 r1 k1=> ?_⟩
  unfold fld2 at q1
  split at q1
  ·rename_i a
   split at q1
   ·rename_i C' dx fs hG
    obtain⟨rfl,q1⟩:=q1
    split at q1
    ·rename_i y hl
     obtain rfl:v= .ref a:=d1
     obtain⟨vs,hH,df⟩:=r1 a _ hG
     obtain⟨w',hw,dw⟩:=dfv_look df hl
     exact⟨a,_,dx,vs,w',rfl,hH,c,n,hw,cl _ _ _ _ q1 dw r1 k1⟩
    ·exact q1.elim
   ·exact q1.elim
  ·exact q1.elim
noncomputable def putP2(f:Str)(v:PV):List (Str×PV)→List (Str×PV)
 |[]=>[(f,v)]
 |(g,x)::r=>if g=f then(g,v)::r else(g,x)::putP2 f v r
theorem dfv_put{K:PySem.W.Frag}{H:Hp}{f:Str}{q:PV}{v:V}(d:Dv K H q v):∀{fs:List (Str×PV)} {vs:List (Str×V)},DFv K H fs vs→DFv K H (putP2 f q fs) (putF f v vs)
 |[],_,h=>by rw[show _=[]from h];exact⟨v,[],rfl,d,rfl⟩
 |(k,q0)::fs,vs,h=>by
  obtain⟨v0,r,rfl,d0,z⟩:=h
  unfold putP2 putF
  by_cases hk:k=f
  ·rw[if_pos hk,if_pos hk];exact⟨v,r,rfl,d,z⟩
  ·rw[if_neg hk,if_neg hk];exact⟨v0,_,rfl,d0,dfv_put d z⟩
noncomputable def setF2(C:Addr)(f:Str)(x y:PV)(G:Gp)(Q:Gp→Prop):Prop:=match x with
 | .ref a=>match G a with
  |some (.ins C' dx fs)=>C'=C∧fs.length<1000∧Q (up G a (.ins C dx (putP2 f y fs)))
  |_=>False
 |_=>False
theorem setF_i{C a dx:Addr}{f:Str}{G:Gp}{Q:Gp→Prop}{fs:List (Str×PV)}{y:PV}(h:G a=some (.ins C dx fs))(hl:fs.length<1000)(hq:Q (up G a (.ins C dx (putP2 f y fs)))):setF2 C f (.ref a) y G Q:=by
 unfold setF2;simp only[h];exact⟨trivial,hl,hq⟩
noncomputable abbrev sFld2(C:Addr)(ta tv:E2)(f:Str):S2:=fun D τ G=>tv τ G fun y G1=>ta τ G1 fun x G2=>setF2 C f x y G2 fun G3=>D.nx τ G3
theorem js_fld{X:Cx}{C:Addr}{o value:Expr}{f:Str}{ta tv:E2}{pos pos':Pos}(c:Cls X.K C)(n:NoAttr X.K C f)(ha:JE X o ta)(hv:JE X value tv)(hs:swapsWith value (some (.Attribute o f pos')) pos.line X.env=pure false:=by rfl):
  JS X (.Assign [.Attribute o f pos'] value pos) (sFld2 C ta tv f):= .of (ps_fld ha.h hv.h hs) fun D σ H ⟨τ,G,D2,rs,rp,q,cl⟩=>by
 refine⟨τ,G,_,rs,rp,q,fun y G1 v H1 q1 d1 r1 k1=>⟨τ,G1,_,rs.keep k1,r1,q1,fun x G2 u H2 q2 d2 r2 k2=> ?_⟩⟩
 unfold setF2 at q2
 split at q2
 ·rename_i a
  split at q2
  ·rename_i C' dx fs hG
   obtain⟨rfl,hl,q2⟩:=q2
   obtain rfl:u= .ref a:=d2
   obtain⟨vs,hH,df⟩:=r2 a _ hG
   have kk:Keep X.K H2 (L2.upd H2 a (.ins C' dx (putF f v vs))):=keep_ins hH
   refine⟨a,_,dx,vs,rfl,hH,c,n,by rw[dfv_len df];exact hl,cl.nx _ _ _ _ q2 (rs.keep ((k1.trans k2).trans kk)) (r2.putI hH (dfv_put (d1.keep k2) df)) ((k1.trans k2).trans kk)⟩
  ·exact q2.elim
 ·exact q2.elim
noncomputable def augF2(C:Addr)(f:Str)(x:PV)(tv:E2)(τ:St2)(G:Gp)(Q:Gp→Prop):Prop:=match x with
 | .ref a=>match G a with
  |some (.ins C' _ fs)=>C'=C∧match fs.lookup f with
   |some (.int i)=>tv τ G fun y G1=>match y with
    | .int j=>match G1 a with
     |some (.ins C'' dx' fs')=>C''=C∧fs'.length<1000∧Q (up G1 a (.ins C dx' (putP2 f (.int (i+j)) fs')))
     |_=>False
    |_=>False
   |_=>False
  |_=>False
 |_=>False
noncomputable abbrev sFldAug2(C:Addr)(ta tv:E2)(f:Str):S2:=fun D τ G=>ta τ G fun x G1=>augF2 C f x tv τ G1 fun G3=>D.nx τ G3
theorem js_fldaug{X:Cx}{C:Addr}{o value:Expr}{f:Str}{ta tv:E2}{pos tpos:Pos}(c:Cls X.K C)(n:NoAttr X.K C f)(ha:JE X o ta)(hv:JE X value tv):
  JS X (.AugAssign (.Attribute o f tpos) .Add value pos) (sFldAug2 C ta tv f):= .of (ps_fldaug ha.h hv.h in_add) fun D σ H ⟨τ,G,D2,rs,rp,q,cl⟩=>by
 refine⟨τ,G,_,rs,rp,q,fun x G1 u H1 q1 d1 r1 k1=> ?_⟩
 unfold augF2 at q1
 split at q1
 ·rename_i a
  split at q1
  ·rename_i C' dx fs hG
   obtain⟨rfl,q1⟩:=q1
   split at q1
   ·rename_i i hl
    obtain rfl:u= .ref a:=d1
    obtain⟨vs,hH,df⟩:=r1 a _ hG
    obtain⟨w',hw,dw⟩:=dfv_look df hl
    obtain rfl:w'= .int i:=dw
    refine⟨a,_,dx,vs,_,rfl,hH,c,n,hw,τ,G1,_,rs.keep k1,r1,q1,fun y G2 v H2 q2 d2 r2 k2=> ?_⟩
    split at q2
    ·rename_i j
     split at q2
     ·rename_i C'' dx' fs' hG2
      obtain⟨rfl,hl2,q2⟩:=q2
      obtain rfl:v= .int j:=d2
      obtain⟨vs2,hH2,df2⟩:=r2 a _ hG2
      have kk:Keep X.K H2 (L2.upd H2 a (.ins C'' dx' (putF f (.int (i+j)) vs2))):=keep_ins hH2
      exact⟨i,j,rfl,rfl,dx',vs2,hH2,by rw[dfv_len df2];exact hl2,cl.nx _ _ _ _ q2 (rs.keep ((k1.trans k2).trans kk)) (r2.putI hH2 (dfv_put (q:= .int (i+j)) rfl df2)) ((k1.trans k2).trans kk)⟩
     ·exact q2.elim
    ·exact q2.elim
   ·exact q1.elim
  ·exact q1.elim
 ·exact q1.elim
end L3
namespace L3
open PySem L2 PySem.Spec PyProof.Rows
noncomputable def isI(C:Addr)(m:Str)(x:PV)(G:Gp):Prop:=∃a dx fs,x= .ref a∧G a=some (.ins C dx fs)∧fs.lookup m=none
structure MetX(P:Program)(w:World)(K:PySem.W.Frag)(mg:Str→Option Value)(base:Heap)(D C:Addr)(k:Nat)(m:Str)(f:Addr)(fd:FuncData)(ps:List Str)(sp:Sp3):Prop where
 ok:OkX P w K mg base D k f fd ps sp
 b:Binds K fd ps []
 c:Cls K C
 m:Meth K C m f
structure Met2(P:Program)(w:World)(K:PySem.W.Frag)(mg:Str→Option Value)(base:Heap)(C:Addr)(k:Nat)(m:Str)(f:Addr)(fd:FuncData)(ps:List Str)(sp:Sp2):Prop where
 ok:Ok2 P w K mg base k f fd ps sp
 b:Binds K fd ps []
 c:Cls K C
 m:Meth K C m f
noncomputable abbrev eMetX(C:Addr)(m:Str)(sp:Sp3)(EX:Gp→Prop)(to:E2)(t:A2):E2:=fun τ G Q=>to τ G fun x G1=>isI C m x G1∧t τ G1 fun ps G2=>sp (x::ps) G2 Q EX
section
variable{P:Program}{w:World}{K:PySem.W.Frag}{mg:Str→Option Value}{base:Heap}{D C:Addr}{N:List Str}{qual:Str}{scope:Scope}{f:Addr}{cdv:Value}{A:Around}{outer:List Env}{s:Shared}{H:Hp}{E:XK}{EX:Gp→Prop}
variable{k k':Nat}{m:Str}{f':Addr}{fd:FuncData}{ps:List Str}{o e:Expr}{es:List Expr}{to:E2}{t:A2}{pos apos:Pos}{pl:Sem Bool}
theorem low_metX{sp:Sp3}(hX:XW K D E EX){σ:L2.St}{H1:Hp}{Q:VK}(q:lowE K (eMetX C m sp EX to t) σ H1 Q):tMeth C m (spX K D sp) [] E (lowE K to) (lowA K t) σ H1 Q:=by
 obtain⟨τ,G,Q2,rs,rp,q,cl⟩:=q
 refine⟨τ,G,_,rs,rp,q,fun x G1 v H2 q1 d1 r1 k1=> ?_⟩
 obtain⟨⟨a,dx,fs,rfl,hG,hl⟩,q1⟩:=q1
 obtain rfl:v= .ref a:=d1
 obtain⟨vs,hH,df⟩:=r1 a _ hG
 refine⟨a,dx,vs,rfl,hH,dfv_none df hl,τ,G1,_,rs.keep k1,r1,q1,fun ps G2 us H3 q2 d2 r2 k2=> ?_⟩
 show spX K D sp (.ref a::(us++[])) H3 Q E
 rw[List.append_nil]
 exact⟨.ref a::ps,G2,Q2,EX,⟨.ref a,us,rfl,rfl,d2⟩,r2,q2,cl.keep (k1.trans k2),hX⟩
end
section
variable{X:Cx}{C:Addr}{k k':Nat}{m x:Str}{f':Addr}{fd:FuncData}{ps:List Str}{o e:Expr}{es:List Expr}{to:E2}{t:A2}{pos apos p:Pos}{pl:Sem Bool}
theorem j_met0{sp:Sp2}(M:Met2 X.prog X.w X.K X.mg X.base C k m f' fd ps sp)(hr:Room k' X.A)(hk:k≤k')(ho:JE X o to)
  (ht:eval (.Call (.Attribute o m apos) [] [] pos) X.env=(do
   let ov ←eval o X.env
   standAt apos.atName
   let(fv,first) ←holding [ov] (getMethod ov m pl)
   callWith pos fv first (backTo pos (starEach [] X.env)) (backToKw pos (keywordEach [] X.env))):=by rfl):
  JE X (.Call (.Attribute o m apos) [] [] pos) (fun τ G Q=>to τ G fun x G1=>isI C m x G1∧sp [x] G1 Q):=
 .of (pe_meth0 (pl:=pl) ho.h M.c M.m (M.ok.mono hk) hr M.b .nil pass0 ht) fun σ H1 Q q=>by
  obtain⟨τ,G,Q2,rs,rp,q,cl⟩:=q
  refine⟨τ,G,_,rs,rp,q,fun x G1 v H2 q1 d1 r1 k1=> ?_⟩
  obtain⟨⟨a,dx,fs,rfl,hG,hl⟩,q1⟩:=q1
  obtain rfl:v= .ref a:=d1
  obtain⟨vs,hH,df⟩:=r1 a _ hG
  exact⟨a,dx,vs,rfl,hH,dfv_none df hl,[.ref a],G1,Q2,⟨.ref a,[],rfl,rfl,rfl⟩,r1,q1,cl.keep k1⟩
noncomputable abbrev eMake(C:Addr)(sp:Sp2)(t:A2):E2:=fun τ G Q=>t τ G fun ps G1=>∀x dx,G1 x=none→G1 dx=none→dx≠x→sp (.ref x::ps) (up G1 x (.ins C dx [])) fun v G2=>v= .non∧Q (.ref x) G2
theorem j_make{sp:Sp2}(M:Mk X.K C f')(ok:Ok2 X.prog X.w X.K X.mg X.base k f' fd ps sp)(hb:Binds X.K fd ps [])(hr:Room k' X.A)(hk:k+1≤k')(hm:X.mg x=some (.ref C))(ha:JA X (e::es) t)(hg:Gl X x:=by rfl)
  (hdb:(x==("__debug__" :Str))=false:=by decide) (he:starEach (e::es) X.env=(false,eval e X.env)::starEach es X.env:=by rfl) (hpl:(backTo pos (starEach es X.env)).any (·.1)=false:=by rfl):
  JE X (.Call (.Name x p) (e::es) [] pos) (eMake C sp t):= .of (pe_make M ok (hr.mono hk) hg hm hb .nil pass0 ha.h hdb he hpl) fun σ H Q q=>by
 obtain⟨τ,G,Q2,rs,rp,q,cl⟩:=q
 refine⟨τ,G,_,rs,rp,q,fun ps G1 vs H1 q1 d1 r1 k1=>fun a dx ha hdx ne=> ?_⟩
 have k2:Keep X.K H1 (L2.upd H1 dx (.own a)):=keep_new hdx
 have ha':L2.upd H1 dx (.own a) a=none:=by rw[upd_ne (Ne.symm ne)];exact ha
 have k3:Keep X.K (L2.upd H1 dx (.own a)) (L2.upd (L2.upd H1 dx (.own a)) a (.ins C dx [])):=keep_new ha'
 have rp2:Rep X.K (L2.upd H1 dx (.own a)) G1:=r1.upd k2 (fun _ _ e _=>e) fun o e=>by rw[r1.none hdx]at e;cases e
 have rp3:Rep X.K (L2.upd (L2.upd H1 dx (.own a)) a (.ins C dx [])) (up G1 a (.ins C dx [])):=by
  refine rp2.upd k3 (fun b o e ne=>by rw[up_ne ne]at e;exact e) fun o e=> ?_
  rw[up_same]at e;cases e
  exact⟨[],upd_same,rfl⟩
 show spL X.K sp (.ref a::(vs++[])) _ _ _
 rw[List.append_nil]
 refine⟨.ref a::ps,_,_,⟨.ref a,vs,rfl,rfl,d1.keep (k2.trans k3)⟩,rp3,q1 a dx (r1.none ha) (r1.none hdx) ne,fun v G2 u H2 q2 d2 r2 k4=> ?_⟩
 obtain⟨rfl,q2⟩:=q2
 exact⟨d2,cl _ _ _ _ q2 rfl r2 (((k1.trans k2).trans k3).trans k4)⟩
end
end L3
namespace L2
open PySem PySem.Spec PyProof.Rows
noncomputable def XTa(h:Heap)(e T:Addr)(cls:Value):Prop:=∃oe vs oT ts fl,h.get? e=some oe∧oe.cls=cls∧oe.data= .fields vs∧vs[1]? =some (.ref T)∧T≠e∧h.get? T=some oT∧oT.data= .fields ts∧ts[3]? =some fl
theorem frames_on{h h' b:Heap}:∀{l:List Env},h.FunFrames b l→(∀a∈frs l,∀o,h.get? a=some o→∃sl,h'.get? a=some {o with slots:=sl})→h'.FunFrames b l
 |[],_,_=>trivial
 |env::l,⟨hk,⟨L,o,hf,hn,ho,hd⟩,hr⟩,q=>by
  have e:frs (env::l)=L::frs l:=by unfold frs;rw[List.filterMap_cons,hf]
  rw[e]at q
  obtain⟨sl,q1⟩:=q L (by simp) o ho
  exact⟨hk,⟨L,_,hf,hn,q1,hd⟩,frames_on hr fun a ha=>q a (by simp[ha])⟩
noncomputable def NotedS(l:List Env)(e:Addr)(S:List Addr)(cls:Value)(h h':Heap):Prop:=
 (∃T,XTa h' e T cls∧(T∈S∨h.get? T=none))∧(∀b o,b∉frs l→b≠e→b∉S→h.get? b=some o→h'.get? b=some o)∧∀b o,b∈frs l→h.get? b=some o→∃sl,h'.get? b=some {o with slots:=sl}
section
variable{M:Model}{A:Around}{E:Value→Shared→Prop}{s:Shared}
theorem note_one{base:Heap}{env:Env}{outer:List Env}{e T:Addr}{cls:Value}{Q:Unit→Shared→Prop}
  (hfr:A.frames=some (env::outer)) (hl:s.heap.FunFrames base (env::outer)) (ht:XTr s.heap e T cls)
  (h:∀h',NotedS (env::outer) e [T] cls s.heap h'→Q () {s with heap:=h'}):wpAny M A (noteFrame (.ref e) env) Q E s:=by
 obtain⟨B,b1,b2⟩:=holes s.heap (e::([T]++frs (env::outer)))
 obtain⟨oe,vs,oT,ts,h1,h2,h3,h4,h6,h7,h8,h9⟩:=ht
 obtain⟨L,_,hf,_⟩:=hl.2.1
 have hv0:vs[0]? =some vs[0]! :=by
  have:=(Array.getElem?_eq_some_iff.mp h4).1
  rw[Array.getElem?_eq_getElem (by(first|lia|omega))]
  simp[getElem!_pos,show 0<vs.size by(first|lia|omega)]
 refine wpAny_noteFrame_onW (base:=B) (a0:=vs[0]!) hfr (frames_re hl fun a ha=>b1 a (by simp[ha])) hf ⟨oe,vs,T,oT,ts,h1,⟨h2,hv0⟩,h3,h4,b1 T (by simp),h6,h7,h8,h9⟩ (fun b o q=> ?_) (b1 e (by simp)) fun h' x=>h h' ?_
 ·by_cases hm:b∈e::([T]++frs (env::outer))
  ·rw[b1 b hm]at q;cases q
  ·rw[←b2 b hm];exact q
 ·obtain⟨x1,x2,⟨oe',vs',T',oT',ts',y1,y2,y3,y4,y5,y6,y7,y8,y9⟩,x4⟩:=x
  refine⟨⟨T',⟨oe',vs',oT',ts',_,y1,y2.1,y3,y4,y6,y7,y8,y9⟩,?_⟩,fun b o n1 n2 n3 q=>x1 b o ?_,fun b o hb q=> ?_⟩
  ·by_cases hS:T'∈[T]
   ·exact .inl hS
   ·refine .inr ?_
    rw[←b2 T' ?_]
    ·exact y5
    ·intro hm
     rcases List.mem_cons.mp hm with e1|hm
     ·exact y6 e1
     ·rcases List.mem_append.mp hm with hm|hm
      ·exact hS hm
      ·obtain⟨_,o,ho,hnf⟩:=x2.mem hm
       rw[y7]at ho
       cases ho
       exact hnf ts' y8
  ·rw[b2 b (by simp[n1,n2,n3];simpa using n3)];exact q
  ·obtain⟨_,o',ho',hnf⟩:=hl.mem hb
   rw[q]at ho'
   cases ho'
   exact x4 b o q hnf
theorem leaving_any{base:Heap}{env:Env}{outer:List Env}{e T:Addr}{cls:Value}{Q:Unit→Shared→Prop}
  (hfr:A.frames=some (env::outer)) (hl:s.heap.FunFrames base (env::outer)) (ht:XTa s.heap e T cls)
  (h:∀h',LeftS (env::outer) e [T] cls s.heap h'→Q () {s with heap:=h'}):wpAny M A (leaving env (.ref e)) Q E s:=by
 obtain⟨oe,vs,oT,ts,fl,he,hcls,hd,h1,hTe,hT,hdT,h3⟩:=ht
 subst hcls
 obtain⟨L,_,hf,_⟩:=hl.2.1
 have hsz:3<ts.size:=(Array.getElem?_eq_some_iff.mp h3).1
 have nrec:∀b∈frs (env::outer),b≠T:=fun b hb q=>by
  obtain⟨_,o,ho,hnf⟩:=hl.mem hb
  rw[q,hT]at ho
  cases ho
  exact hnf ts hdT
 unfold leaving
 by_cases hfl:fl=rawInt (L:Int)
 ·subst hfl
  refine wpAny_bind (wpAny_noteFrame_inFlight hf he hd h1 hT hdT h3 ?_)
  unfold setFlight
  refine wpAny_bind (wpAny_field he hd h1 ?_)
  rw[if_pos (show(Value.ref T !=Value.none)=true from by simp)]
  refine wpAny_setField hT hdT hsz (h _ ?_)
  have other:∀b,b≠T→(s.heap.update T (Obj.mapFields (·.setIfInBounds 3 Value.none))).get? b=s.heap.get? b:=fun b hb=>Heap.get?_update_other _ _ (Ne.symm hb)
  have self:(s.heap.update T (Obj.mapFields (·.setIfInBounds 3 Value.none))).get? T=some (Obj.mapFields (·.setIfInBounds 3 Value.none) oT):=by
   refine(Heap.get?_update_self _ hT ?_)
   obtain⟨c,d,dt,sl⟩:=oT
   cases hdT
   rfl
  refine⟨⟨T,⟨oe,vs,_,ts.setIfInBounds 3 .none,(other e (Ne.symm hTe)).trans he,rfl,hd,h1,hTe,self,by obtain⟨c,d,dt,sl⟩:=oT;cases hdT;rfl,by rw[Array.getElem?_setIfInBounds_self_of_lt hsz]⟩,.inl (by simp)⟩,fun b o _ _ nS q=>(other b (by simpa using nS)).trans q,fun b o hb q=>⟨o.slots,(other b (nrec b hb)).trans q⟩⟩
 ·obtain⟨B,b1,b2⟩:=holes s.heap (e::([T]++frs (env::outer)))
  have hl':=frames_re (b:=B) hl fun a ha=>b1 a (by simp[ha])
  have hkb:B.StaysIn s.heap:=fun b o q=>by
   by_cases hm:b∈e::([T]++frs (env::outer))
   ·rw[b1 b hm]at q;cases q
   ·rw[←b2 b hm];exact q
  have hnT:B.get? T=none:=b1 T (by simp)
  refine wpAny_bind ?_
  unfold noteFrame
  simp only[hf]
  refine wpAny_bind (wpAny_field he hd h1 ?_)
  rw[if_pos (show(Value.ref T !=Value.none)=true from by simp)]
  refine wpAny_bind (wpAny_field hT hdT h3 ?_)
  rw[if_neg (show¬((fl==rawInt (L:Int))=true)from by simpa using hfl)]
  refine wpAny_bind (wpAny_setField hT hdT hsz ?_)
  have other:∀b,b≠T→(s.heap.update T (Obj.mapFields (·.setIfInBounds 3 Value.none))).get? b=s.heap.get? b:=fun b hb=>Heap.get?_update_other _ _ (Ne.symm hb)
  have noRecord:∀b o,s.heap.get? b=some o→(∀vs,o.data≠ .fields vs)→b≠T:=fun b o hb hnf q=>by
   rw[q,hT]at hb;injection hb with hb;subst hb;exact hnf ts hdT
  exact wpAny_newEntry (base:=B) hfr (hl'.of_keeps fun b o hb hnf=>⟨o,(other b (noRecord b o hb hnf)).trans hb,rfl⟩) hf ((other e (Ne.symm hTe)).trans he)
   (fun b o hbo=>(other b fun q=>by rw[q,hnT]at hbo;cases hbo).trans (hkb b o hbo)) (b1 e (by simp)) hd (Array.getElem?_eq_some_iff.mp h1).1
   fun h' hPl=>by obtain⟨x1,x2,x3,x4⟩:=hPl;exact h h' (leftS_of b2 hl ⟨x1,x2,x3,fun b o hb hnf=>x4 b o ((other b (noRecord b o hb hnf)).trans hb) hnf⟩)
end
noncomputable def compXe(X:Cx)(cenv:Env)(C:Addr):Value→Shared→Prop:=notedBy (model X.prog X.w) X.A cenv fun x s'=>compPost (model X.prog X.w) X.A X.xe none (fun _ _=>True) .none C (.error x) s'
noncomputable abbrev cxCompX(X:Cx)(M:List Str)(scope:Scope)(C:Addr)(s:Shared)(H:Hp)(fp:List Addr):Cx:=(cxComp X M scope C s H fp).wish (compXe X (compEnvC scope (clOf X.env.cells scope.names []) C X.env) C)
section
variable{P:Program}{w:World}{K:PySem.W.Frag}{mg:Str→Option Value}{base:Heap}{N:List Str}{qual:Str}{scope scope':Scope}{f:Addr}{cdv:Value}{A:Around}{outer:List Env}{s s2:Shared}{H H2:Hp}{E:XK}{D C:Addr}{M:List Str}{fp:List Addr}{pins:List (Addr×Obj)}{σ:St}
theorem passesC(I2:Inv (cxOf (CX1 P w D) P w K mg base N qual scope' f cdv A outer s H E) pins σ H2 s2)(hC:s2.heap.objs.size≤C)(hf:∀b∈fp,FpOk (cxOf (CX1 P w D) P w K mg base N qual scope' f cdv A outer s H E) pins H2 b):
  Passes (CX1 P w D) (cxCompX (cxOf (CX1 P w D) P w K mg base N qual scope' f cdv A outer s H E) M scope C s2 H2 fp) E:=by
 rintro pins1 σ1 H1 s1 e s' I ⟨x,T,H',rfl,tr,nx,nT,hx,hT,os,bare,un,hok,hE⟩
 have J:=I.call' (ch:=[]) os un hok bare (fun b z=>absurd z (by simp))
 have JC:=Inv.unpinned (pins:=[]) (pl:=pins1) (Inv.unwish J)
 have JX:Inv (cxOf (CX1 P w D) P w K mg base N qual scope' f cdv A outer s H E) pins σ H' s':=comp_end I2 hC hf JC (h':=s'.heap) ⟨rfl,fun _ _=>rfl⟩
 have hs2:∀a,s2.heap.get? a=none→s.heap.get? a=none:=fun a q=>by
  cases q0:s.heap.get? a with
  |none=>rfl
  |some o=>
   obtain⟨o',q'⟩:=I2.base.there a o q0 (by show a∉[];simp)
   rw[q]at q';cases q'
 have hJ:∀a,s'.heap.get? a=none→s.heap.get? a=none:=fun a q=>by
  cases q0:s.heap.get? a with
  |none=>rfl
  |some o=>
   obtain⟨o',q'⟩:=JX.base.there a o q0 (by show a∉[];simp)
   rw[q]at q';cases q'
 have h1s:∀a,s1.heap.get? a=none→s.heap.get? a=none:=fun a q=>by
  have II:Inv (cxOf (CX1 P w D) P w K mg base N qual scope' f cdv A outer s H E) pins σ H1 s1:=comp_end I2 hC hf (Inv.unpinned (pins:=[]) (pl:=pins1) (Inv.unwish I)) (h':=s1.heap) ⟨rfl,fun _ _=>rfl⟩
  cases q0:s.heap.get? a with
  |none=>rfl
  |some o=>
   obtain⟨o',q'⟩:=II.base.there a o q0 (by show a∉[];simp)
   rw[q]at q';cases q'
 have hCs:s.heap.get? C=none:=by
  cases q0:s.heap.get? C with
  |none=>rfl
  |some o=>
   obtain⟨o',q'⟩:=I2.base.there C o q0 (by show C∉[];simp)
   exact absurd (Heap.lt_size q') (Nat.not_lt.mpr hC)
 have hCH:H' C=none:=JC.free
 obtain⟨m,hns,_⟩:=JC.loc
 show wpAny (model P w) _ (noteFrame (.ref x) (envOfC qual scope' s.heap.objs.size f cdv)) _ _ s'
 have hstk:s'.heap.FunFrames base (envOfC qual scope' s.heap.objs.size f cdv::outer):=JX.stack
 refine note_one (base:=base) JX.ok.frames hstk tr fun h1 hN=> ?_
 obtain⟨⟨T1,tr1,hT1⟩,k1,k2⟩:=hN
 have hCf:C∉frs (envOfC qual scope' s.heap.objs.size f cdv::outer):=fun hm=>by
  have hz:=(I2.stack.mem hm)
  obtain⟨_,o,ho,_⟩:=hz
  exact absurd (Heap.lt_size ho) (Nat.not_lt.mpr hC)
 have hCfree:H' T1=none∧s.heap.get? T1=none:=by
  rcases hT1 with z|z
  ·cases List.mem_singleton.mp z
   exact⟨hT,h1s _ nT⟩
  ·exact⟨hok.none_of z,hJ _ z⟩
 obtain⟨oC,es,ep,hoC,hdC,hsk,hnf⟩:=id hns
 have hCx:C≠x:=fun z=>by
  subst z
  obtain⟨oe,vs,oT,ts,y1,y2,y3,_⟩:=tr
  have hoC':s'.heap.get? C=some oC:=hoC
  rw[y1]at hoC';cases hoC'
  rw[hdC]at y3;cases y3
 have hCT:C≠T:=fun z=>by
  subst z
  obtain⟨oe,vs,oT,ts,y1,y2,y3,y4,y5,y6,y7,y8⟩:=tr
  have hoC':s'.heap.get? C=some oC:=hoC
  rw[y6]at hoC';cases hoC'
  rw[hdC]at y7;cases y7
 have hC1:h1.get? C=some oC:=k1 C oC hCf hCx (by simpa using hCT) hoC
 refine⟨m,⟨oC,es,ep,hC1,hdC,hsk,hnf⟩,fun h2 hb cenv' hcl=> ?_⟩
 obtain⟨hb1,hb2⟩:=hb
 obtain⟨oe,vs,oT,ts,fl,y1,y2,y3,y4,y5,y6,y7,y8⟩:=tr1
 have hT1C:T1≠C:=fun z=>by
  subst z
  rw[hC1]at y6;cases y6
  rw[hdC]at y7;cases y7
 have z1:h2.get? x=some oe:=(hb2 x (Ne.symm hCx)).trans y1
 have z6:h2.get? T1=some oT:=(hb2 T1 hT1C).trans y6
 have hsz:3<ts.size:=(Array.getElem?_eq_some_iff.mp y8).1
 unfold PySem.passOn
 refine wpAny_bind (wpAny_field z1 y3 y4 ?_)
 rw[if_neg (show¬((Value.ref T1==Value.none)=true)from by simp)]
 unfold setFlight
 refine wpAny_bind (wpAny_bind (wpAny_field z1 y3 y4 ?_))
 rw[if_pos (show(Value.ref T1 !=Value.none)=true from by simp)]
 refine wpAny_setField z6 y7 hsz (wpAny_throw ?_)
 generalize (cenv'.frame.elim Value.none fun f=>rawInt ↑f)=fl'
 have other:∀b,b≠T1→(h2.update T1 (Obj.mapFields (·.setIfInBounds 3 fl'))).get? b=h2.get? b:=fun b hb=>Heap.get?_update_other _ _ (Ne.symm hb)
 have self:(h2.update T1 (Obj.mapFields (·.setIfInBounds 3 fl'))).get? T1=some (Obj.mapFields (·.setIfInBounds 3 fl') oT):=by
  refine(Heap.get?_update_self _ z6 ?_)
  obtain⟨c,d,dt,sl⟩:=oT
  cases y7
  rfl
 have tr3:XTa (h2.update T1 (Obj.mapFields (·.setIfInBounds 3 fl'))) x T1 (.ref D):=⟨oe,vs,_,ts.setIfInBounds 3 fl',fl',(other x (Ne.symm y5)).trans z1,y2,y3,y4,y5,self,by obtain⟨c,d,dt,sl⟩:=oT;cases y7;rfl,by rw[Array.getElem?_setIfInBounds_self_of_lt hsz]⟩
 generalize h2.update T1 (Obj.mapFields (·.setIfInBounds 3 fl'))=h3 at other self tr3⊢
 have nT1f:∀b∈frs (envOfC qual scope' s.heap.objs.size f cdv::outer),b≠T1:=fun b hb z=>by
  subst z
  obtain⟨_,o,ho,hnf'⟩:=hstk.mem hb
  obtain⟨sl,q⟩:=k2 _ o hb ho
  rw[y6]at q;cases q
  exact hnf' ts y7
 have frm:∀b∈frs (envOfC qual scope' s.heap.objs.size f cdv::outer),∀o,s'.heap.get? b=some o→∃sl,h3.get? b=some {o with slots:=sl}:=fun b hb o q=>by
  obtain⟨sl,q1⟩:=k2 b o hb q
  refine⟨sl,?_⟩
  rw[other b (nT1f b hb),hb2 b (fun z=>hCf (by rw[←z];exact hb))]
  exact q1
 have oth3:∀b o,b∉frs (envOfC qual scope' s.heap.objs.size f cdv::outer)→b≠x→b≠T→b≠T1→b≠C→s'.heap.get? b=some o→h3.get? b=some o:=fun b o n1 n2 n3 n4 n5 q=>by
  rw[other b n4,hb2 b n5]
  exact k1 b o n1 n2 (by simpa using n3) q
 show wpAny (model P w) _ (leaving (envOfC qual scope' s.heap.objs.size f cdv) (.ref x)) _ _ _
 refine leaving_any (s:={s' with heap:=h3}) (base:=base) JX.ok.frames (frames_on hstk frm) tr3 fun h4 hL=> ?_
 obtain⟨⟨T2,tr4,hT2⟩,l1,l2⟩:=hL
 refine left_end (X:=cxOf (CX1 P w D) P w K mg base N qual scope' f cdv A outer s H E) (s1:=s') (S:=[T,T1,C]) JX rfl (size_none _) hx (h1s x nx) (fun t ht=> ?_) ⟨⟨T2,tr4,?_⟩,fun b o n1 n2 n3 q=> ?_,fun b o hb q=> ?_⟩ hE
 ·rcases List.mem_cons.mp ht with z|ht
  ·rw[z];exact⟨hT,h1s _ nT⟩
  rcases List.mem_cons.mp ht with z|ht
  ·rw[z];exact hCfree
  cases List.mem_singleton.mp ht
  exact⟨hCH,hCs⟩
 ·rcases hT2 with z|z
  ·cases List.mem_singleton.mp z
   exact .inl (by simp)
  ·by_cases zT:T2=T
   ·exact .inl (by simp[zT])
   by_cases z1':T2=T1
   ·exact .inl (by simp[z1'])
   by_cases zC:T2=C
   ·exact .inl (by simp[zC])
   refine .inr ?_
   cases q0:s'.heap.get? T2 with
   |none=>rfl
   |some o=>
    exfalso
    obtain⟨_,_,_,_,_,_,_,_,w5,_⟩:=tr4
    by_cases hm:T2∈frs (envOfC qual scope' s.heap.objs.size f cdv::outer)
    ·obtain⟨sl,q1⟩:=frm T2 hm o q0
     rw[z]at q1;cases q1
    ·have:=oth3 T2 o hm w5 zT z1' zC q0
     rw[z]at this;cases this
 ·have n3':b≠T∧b≠T1∧b≠C:=by simpa using n3
  exact l1 b o n1 n2 (by simpa using n3'.2.1) (oth3 b o n1 n2 n3'.1 n3'.2.1 n3'.2.2 q)
 ·obtain⟨sl,q1⟩:=frm b hb o q
  obtain⟨sl',q2⟩:=l2 b _ hb q1
  exact⟨sl',q2⟩
end
end L2
namespace L2
open PySem PySem.Spec PyProof.Rows
section
variable{X:Cx}{scope:Scope}{M:List Str}{ix:List (Option Nat)}{j:Nat}{x:Str}
theorem comp_blockX{elt iter:Expr}{px:Pos}{ifs:List Expr}{pos:Pos}{tf:TT}{te:TE}{pins:List (Addr×Obj)}{σ:St}{H:Hp}{s:Shared}{fp:List Addr}{it:Addr}{tn:Nat→Heap→Prop}{J:It}{h1:Heap}{tk:Nat}{Q:VK}{R:Result→Shared→Prop}
  (S:CompScope X.env.scope X.N scope M ix j x) (hc:X.calm=true) (I:Inv X pins σ H s)
  (hF:PF (cxCompX X M scope (s.heap.objs.size+1) s H fp) ifs tf) (hE:PE (cxCompX X M scope (s.heap.objs.size+1) s H fp) elt te)
  (T:Turn X.prog X.w X.K (.Name x px) J fp it tn) (st:tn 0 s.heap) (hf:∀b∈fp,FpOk X pins H b)
  (I0:Inv (cxCompX X M scope (s.heap.objs.size+1) s H fp) [] (cap ix σ) (upd H s.heap.objs.size (.lst [])) {s with heap:=h1,toks:=tk}) (old:∀b o,s.heap.get? b=some o→h1.get? b=some o)
  (q:CompGo J ix j σ tf te Q H s.heap.objs.size)
  (hRe:∀e s',compXe X (compEnvC scope (clOf X.env.cells scope.names []) (s.heap.objs.size+1) X.env) (s.heap.objs.size+1) e s'→notedBy (model X.prog X.w) X.A (compEnvC scope (clOf X.env.cells scope.names []) (s.heap.objs.size+1) X.env) (fun e s'=>R (.error e) s') e s')
  (hR:∀H' s',Inv (cxCompX X M scope (s.heap.objs.size+1) s H fp) [] (cap ix σ) H' s'→Q (.ref s.heap.objs.size) H'→R (.ok .next) s'):
  codeAny (model X.prog X.w) X.A (.compLoop (.ListComp elt [⟨.Name x px,iter,ifs,0⟩] scope pos) 0 (.ref it) (.ref s.heap.objs.size) (compEnvC scope (clOf X.env.cells scope.names []) (s.heap.objs.size+1) X.env)) R {s with heap:=h1,toks:=tk}:=by
 obtain⟨W,⟨m0,w0⟩,turn⟩:=q
 have hD:s.heap.objs.size∉fp:=fun z=>by
  obtain⟨o,e,_⟩:=T.obj 0 s.heap st _ z
  exact absurd (Heap.lt_size e) (Nat.lt_irrefl _)
 have hlt:∀b∈fp,b<s.heap.objs.size:=fun b hb=>by
  obtain⟨o,e,_⟩:=T.obj 0 s.heap st b hb
  exact Heap.lt_size e
 have stat:∀{H':Hp},(∀b∈fp,H' b=none)→∀b∈fp,FpOk (cxCompX X M scope (s.heap.objs.size+1) s H fp) [] H' b:=fun hn b hb=>
  ⟨hn b hb,Nat.ne_of_lt (Nat.lt_succ_of_lt (hlt b hb)),I0.ok.exfs b hb,.inl hb,(I0.ok.exf b hb).2,fun p hp=>absurd (show p∈([]:List (Addr×Obj))from hp) (by simp)⟩
 have own:=cap_own S.own σ
 refine compLoop_own rfl (fun n s'=>∃i H',Inv (cxCompX X M scope (s.heap.objs.size+1) s H fp) [] (cap ix σ) H' s'∧tn i s'.heap∧(∀b∈fp,H' b=none)∧W i n H') ?_ m0
  ⟨0,_,I0,T.keep 0 _ _ st fun b _ o e=>old b o e,fun b hb=>by rw[upd_ne (Nat.ne_of_lt (hlt b hb))];exact(hf b hb).1,w0⟩
 rintro n s3 ⟨i,H3,I3,st3,fr3,w3⟩
 rcases turn i n H3 w3 with⟨stop,qn⟩|⟨go,step⟩
 ·refine wpAny_mono (T.done (cxCompX X M scope (s.heap.objs.size+1) s H fp) rfl rfl rfl hc i [] s3 (cap ix σ) H3 (fun _ _=>False) I3 (stat fr3) st3 stop) (fun r s4 hPl=> ?_) (fun _ _ z=>z.elim)
  obtain⟨hr,I4⟩:=hPl
  subst hr
  exact hR H3 s4 I4 qn
 ·refine wpAny_mono (T.item (cxCompX X M scope (s.heap.objs.size+1) s H fp) rfl rfl rfl hc i [] s3 (cap ix σ) H3 (fun _ _=>False) I3 (stat fr3) st3 go) (fun r s4 hPl=> ?_) (fun _ _ z=>z.elim)
  obtain⟨u,hr,h4⟩:=hPl
  subst hr
  refine wpAny_mono h4 (fun _ s5 hPl=> ?_) (fun _ _ z=>z.elim)
  obtain⟨y,H5,I5,r5,y5,st5,fr5⟩:=hPl
  have I5':=I5.pinned (stat fr5) (T.obj _ _ st5)
  have pg:PG (cxCompX X M scope (s.heap.objs.size+1) s H fp) (.Name x px) (gName j):=
   pg_name S.nd S.tgt (.inl (by show(relabel scope X.env).names.lookup x=some .local;exact lookup_relabel_local S.loc)) (.inr (by show(relabel scope X.env).names.lookup x=some .local;exact lookup_relabel_local S.loc))
  refine wpAny_mono (pg _ s5 (cap ix σ) H5 y u (fun σ2 H2=>σ2=(cap ix σ).set j (some y)∧H2=H5) I5' r5 ⟨rfl,rfl⟩) (fun _ s6 hPl=> ?_) hRe
  obtain⟨σ6,H6,I6,e6,eh6⟩:=hPl
  subst e6;subst eh6
  have again:∀{H7:Hp} {s7:Shared},Inv (cxCompX X M scope (s.heap.objs.size+1) s H fp) ([]++pinsAt fp s5.heap) ((cap ix σ).set j (some y)) H7 s7→(∃m',m'<n∧W (i+1) m' H7)→
    ∃m,m<n∧∃i H',Inv (cxCompX X M scope (s.heap.objs.size+1) s H fp) [] (cap ix σ) H' s7∧tn i s7.heap∧(∀b∈fp,H' b=none)∧W i m H':=fun{H7 s7} I7 ⟨m',hm,w7⟩=>by
   have Iw:Inv (cxCompX X M scope (s.heap.objs.size+1) s H fp) [] (cap ix σ) H7 s7:=(Inv.unpinned (pins:=[]) I7).weak (by simp) (set_weak own)
   refine⟨m',hm,i+1,H7,Iw,T.keep _ _ _ st5 fun b hb o e=>(I7.pin (b,o) (List.mem_append_right _ (List.mem_append_right _ (mem_pinsAt hb e)))).1,fun b hb=> ?_,w7⟩
   obtain⟨o,e,d⟩:=T.obj _ _ st5 b hb
   exact(I7.pin (b,o) (List.mem_append_right _ (List.mem_append_right _ (mem_pinsAt hb e)))).2.1
  refine wpAny_mono (hF _ s6 _ _ _ I6 (step y _ y5)) (fun b s7 hPl=> ?_) hRe
  obtain⟨H7,I7,q7⟩:=hPl
  cases b with
  |false=>
   simp only[Bool.false_eq_true,if_false]at q7⊢
   exact again I7 q7
  |true=>
   simp only[if_true]at q7⊢
   refine wpAny_mono (hE _ s7 _ H7 _ I7 q7) (fun v s8 hPl=> ?_) hRe
   obtain⟨z,H8,I8,r8,ys,hy,hz,q8⟩:=hPl
   refine wpAny_mono (mt_append (X:=cxCompX X M scope (s.heap.objs.size+1) s H fp) _ s8 _ H8 (.ref s.heap.objs.size) [z] (.ref s.heap.objs.size) [v] (fun _ H'=>H'=upd H8 s.heap.objs.size (.lst (ys++[z]))) I8 rfl (.cons r8 .nil) ⟨s.heap.objs.size,ys,z,rfl,rfl,hy,hz,rfl⟩) (fun w s9 hPl=> ?_) hRe
   obtain⟨_,H9,I9,_,e9⟩:=hPl
   subst e9
   exact again I9 q8
theorem pe_compX{elt iter:Expr}{px:Pos}{ifs:List Expr}{pos:Pos}{wi:TI}{tf:TT}{te:TE}(S:CompScope X.env.scope X.N scope M ix j x)(hc:X.calm=true)(hi:PI X (.Name x px) iter wi)
  (hb:∀C s H fp pins σ,Inv X pins σ H s→s.heap.objs.size≤C→(∀b∈fp,FpOk X pins H b)→PF (cxCompX X M scope C s H fp) ifs tf∧PE (cxCompX X M scope C s H fp) elt te) (hs:∀x,foldedSetIterable iter X.env x=pure x:=by intro _;rfl):
  PE X (.ListComp elt [⟨.Name x px,iter,ifs,0⟩] scope pos) (tComp wi ix j tf te):=by
 intro pins s σ H Q I h
 rw[eval_ListComp]
 refine wpAny_comprehension_free (use:=none) rfl hs (closureFor_cl fun y hy e=>I.ok.has y.1 (S.free y hy e)) S.kind S.names (wpAny_mono (hi pins s σ H _ I h) (fun xv s₁ h₁=>wpAny_mono h₁ (fun it s₂ h₂=> ?_) fun _ _ e=>e) fun _ _ e=>e)
 obtain⟨it,fp,tn,J,H2,rfl,I2,T,st2,f2,q⟩:=h₂
 refine wpAny_newObj_type (wpAny_newFunctionEnv S.nocell (by intro y hy;simp at hy) (fun h₁ hns₁ hsb₁=> ?_) S.kind)
 dsimp only at hns₁ hsb₁⊢
 have hC:(s₂.heap.push {cls:= .type "list",dict:=none,data:= .seq ([]:List Value).toArray}).objs.size=s₂.heap.objs.size+1:=Heap.size_push ..
 rw[hC]at hns₁ hsb₁⊢
 have below:∀b,b<s₂.heap.objs.size→b≠s₂.heap.objs.size+1:=fun b hb=>Nat.ne_of_lt (Nat.lt_succ_of_lt hb)
 have old:∀b o,s₂.heap.get? b=some o→h₁.get? b=some o:=fun b o e=>hsb₁.extBut b o (below b (Heap.lt_size e)) (Heap.get?_push_of_some _ (Heap.get?_push_of_some _ e))
 have hD:h₁.get? s₂.heap.objs.size=some {cls:= .type "list",data:= .seq ([]:List Value).toArray 0}:=hsb₁.extBut _ _ (Nat.ne_of_lt (Nat.lt_succ_self _)) (Heap.get?_push_of_some _ (Heap.get?_push_size _ rfl))
 have ns:h₁.Ns (s₂.heap.objs.size+1) fun _=>none:=hns₁
 have hft:∀b∈fp,b<s₂.heap.objs.size:=fun b hb=>by
  obtain⟨o,e,_⟩:=T.obj 0 s₂.heap st2 b hb
  exact Heap.lt_size e
 have I0:=((comp_start (h1:=h₁) S I2 f2 hft old hD ns).tok s₂.toks).wish (compXe X (compEnvC scope (clOf X.env.cells scope.names []) (s₂.heap.objs.size+1) X.env) (s₂.heap.objs.size+1))
 have hfr:H2 s₂.heap.objs.size=none:=I2.hok.fresh (Nat.le_refl _)
 have loop:codeAny (model X.prog X.w) X.A (.compLoop (.ListComp elt [⟨.Name x px,iter,ifs,0⟩] scope pos) 0 (.ref it) (.ref s₂.heap.objs.size) (compEnvC scope (clOf X.env.cells scope.names []) (s₂.heap.objs.size+1) X.env))
   (compPost (model X.prog X.w) X.A X.xe none (EP X pins σ Q) (.ref s₂.heap.objs.size) (s₂.heap.objs.size+1)) {s₂ with heap:=h₁,toks:=s₂.toks}:=by
  refine comp_blockX (Q:=Q) S hc I2 (hb _ _ _ _ _ _ I2 (Nat.le_succ _) f2).1 (hb _ _ _ _ _ _ I2 (Nat.le_succ _) f2).2 T st2 f2 I0 old (q _ hfr) (fun _ _ z=>z) fun H' s' I' qq=> ?_
  obtain⟨m,hn,_⟩:=I'.loc
  exact⟨m,hn,fun h' hb'=>⟨.ref s₂.heap.objs.size,H',comp_end I2 (Nat.le_succ _) f2 I'.unwish hb',rfl,qq⟩⟩
 exact codeAny_compStart_list loop (T.self _ 0 _ _ _ (T.keep 0 _ _ st2 fun b _ o e=>old b o e) loop)
end
end L2
namespace L3
open PySem L2 PySem.Spec PyProof.Rows
section
variable{P:Program}{w:World}{K:PySem.W.Frag}{mg:Str→Option Value}{base:Heap}{D C:Addr}{N:List Str}{qual:Str}{scope':Scope}{f:Addr}{cdv:Value}{A:Around}{outer:List Env}{s:Shared}{H:Hp}{E:XK}
theorem j_compX{scope:Scope}{M:List Str}{ix:List (Option Nat)}{j:Nat}{x:Str}{elt iter:Expr}{px pos:Pos}{ifs:List Expr}{ti:TI2}{tf:T2}{te:E2}
  (S:compOkB (cxOf (CX1 P w D) P w K mg base N qual scope' f cdv A outer s H E).env.scope N scope M ix j x=true) (hi:JI (cxOf (CX1 P w D) P w K mg base N qual scope' f cdv A outer s H E) (.Name x px) iter ti)
  (hb:∀C s2 H2 fp,Passes (CX1 P w D) (cxCompX (cxOf (CX1 P w D) P w K mg base N qual scope' f cdv A outer s H E) M scope C s2 H2 fp) E→
   JF (cxCompX (cxOf (CX1 P w D) P w K mg base N qual scope' f cdv A outer s H E) M scope C s2 H2 fp) ifs tf∧JE (cxCompX (cxOf (CX1 P w D) P w K mg base N qual scope' f cdv A outer s H E) M scope C s2 H2 fp) elt te)
  (hs:∀x,foldedSetIterable iter (cxOf (CX1 P w D) P w K mg base N qual scope' f cdv A outer s H E).env x=pure x:=by intro _;rfl):
  JE (cxOf (CX1 P w D) P w K mg base N qual scope' f cdv A outer s H E) (.ListComp elt [⟨.Name x px,iter,ifs,0⟩] scope pos) (eComp ti ix j tf te):=
 .of (pe_compX (compS S) rfl hi.h (fun C s2 H2 fp pins σ I hC hf=>⟨(hb C s2 H2 fp (passesC I hC hf)).1.h,(hb C s2 H2 fp (passesC I hC hf)).2.h⟩) hs) fun σ H Q q=>low_comp q
end
section
variable{X:Cx}{D C:Addr}{E:XK}{EX:Gp→Prop}
variable{k k':Nat}{m:Str}{f':Addr}{fd:FuncData}{ps:List Str}{o e:Expr}{es:List Expr}{to:E2}{t:A2}{pos apos:Pos}{pl:Sem Bool}
theorem j_metP{sp:Sp3}(hp:Passes (CX1 X.prog X.w D) X E)(hX:XW X.K D E EX)(Mt:MetX X.prog X.w X.K X.mg X.base D C k m f' fd ps sp)(hr:Room k' X.A)(hk:k≤k')(ho:JE X o to)(ha:JA X (e::es) t)
  (hst:starEach (e::es) X.env=(false,eval e X.env)::starEach es X.env:=by rfl) (hpl:(backTo pos (starEach es X.env)).any (·.1)=false:=by rfl)
  (ht:eval (.Call (.Attribute o m apos) (e::es) [] pos) X.env=(do
   let ov ←eval o X.env
   standAt apos.atName
   let(fv,first) ←holding [ov] (getMethod ov m pl)
   callWith pos fv first (backTo pos (starEach (e::es) X.env)) (backToKw pos (keywordEach [] X.env))):=by rfl):
  JE X (.Call (.Attribute o m apos) (e::es) [] pos) (eMetX C m sp EX to t):=
 .of (pe_meth (pl:=pl) ho.h Mt.c Mt.m (Mt.ok.mono hk) hr Mt.b .nil hp ha.h hst hpl ht) fun σ H1 Q q=>low_metX hX q
end
end L3
namespace L3
open PySem L2 PySem.Spec PyProof.Rows
section
variable{X:Cx}{D:Addr}{k k':Nat}{x:Str}{f':Addr}{fd:FuncData}{ps:List Str}{sp:Sp3}{e:Expr}{es:List Expr}{t:A2}{pos p:Pos}{E:XK}{EX:Gp→Prop}
end
end L3
namespace L2
open PySem PySem.Spec PyProof.Rows
theorem tupleExact_yes{prog:Program}{w:World}{A:Around}{E:Value→Shared→Prop}{s:Shared}{t:Addr}{items:Array Value}{Q:Bool→Shared→Prop}(ht:IsTup s.heap t items)(h:Q true s):wpAny (model prog w) A (Builtin.Tuple.tupleIsExact (.ref t)) Q E s:=by
 unfold Builtin.Tuple.tupleIsExact
 exact wpAny_bind (wpAny_typeOf ht.typeIs (wpAny_pure h))
theorem getItem_tuple_whole{prog:Program}{w:World}{A:Around}{E:Value→Shared→Prop}{s:Shared}{t sl:Addr}{items:Array Value}{vl vu:Value}{lo hi:Option Int}{Q:Value→Shared→Prop}(ht:IsTup s.heap t items)(hs:s.heap.IsSliceOf sl vl vu .none)(pl:IsPart vl lo)(pu:IsPart vu hi)
  (hw:HT.sIx items.size 0 lo=0∧HT.sIx items.size items.size hi=items.size) (h:Q (.ref t) s):wpAny (model prog w) A (getItem (.ref t) (.ref sl)) Q E s:=by
 obtain⟨os,hos,hcs,hds⟩:=id hs
 have hTs:s.TypeIs (.ref sl) "slice" :=⟨os,hos,hcs⟩
 unfold getItem
 try with_reducible refine wpAny_holding ?_
 first|refine wpAny_bind (wpAny_pure ?_)|skip
 refine wpAny_bind (wpAny_sequenceKey ht.typeIs (by decide) ?_)
 refine wpAny_bind (wpAny_callSpecial?_slot (name:=Str.ofString "__getitem__") ht.typeIs PyProof.Rows.slot_tuple_getitem
  (wpAny_call_entry PyProof.Rows.slot_tuple_getitem ht.typeIs entry_tuple_getitem ?_ (args_tuple_getitem _ _)))
 show wpAny _ _ (Builtin.Tuple.tupleItemsOf (.ref t)>>=_) _ _ s
 refine wpAny_bind (tupleItemsOf_ ht ?_)
 refine wpAny_bind (wpAny_typeOf hTs ?_)
 rw[if_pos (by decide)]
 refine wpAny_bind (HT.sliceApplied_gen hs pl pu ?_)
 have hyes:(((HT.sIx items.size 0 lo:Nat):Int)==0&&(1:Int)==1&&(HT.sIx items.size items.size hi-HT.sIx items.size 0 lo)==items.size)=true:=by
  rw[hw.1,hw.2];simp
 show wpAny _ _ (if(((HT.sIx items.size 0 lo:Nat):Int)==0&&(1:Int)==1&&(HT.sIx items.size items.size hi-HT.sIx items.size 0 lo)==items.size)=true then _ else _) _ _ s
 rw[if_pos hyes]
 refine wpAny_bind (tupleExact_yes ht ?_)
 rw[if_pos rfl]
 first
  |exact wpAny_bind (wpAny_rule (wpAny_pure ⟨_,rfl,wpAny_pure h⟩))
  |exact wpAny_bind (wpAny_bind (wpAny_rule (wpAny_pure ⟨_,rfl,wpAny_pure h⟩)))
  |exact wpAny_bind (wpAny_rule ⟨_,rfl,wpAny_pure h⟩)
noncomputable def rSlW(K:PySem.W.Frag):V→Option Int→Option Int→Hp→VK→Prop:=fun x lo hi H Q=>∃a xs,x= .ref a∧SqT K H a xs∧(HT.sIx xs.length 0 lo=0∧HT.sIx xs.length xs.length hi=xs.length)∧Q (.ref a) H
theorem sl_whole{X:Cx}:SlR X (rSlW X.K):=by
 intro pins s σ H x v vl vu lo hi sl Q I rx hs pl pu h
 obtain⟨a,xs,rfl,hx,hw,q⟩:=h
 cases rx
 obtain⟨its,r,ht,hz⟩:=I.tuple hx
 have hlen:its.toArray.size=xs.length:=by rw[List.size_toArray];exact r.length.symm
 refine⟨"tuple",_,PyProof.Rows.slot_tuple_getitem.lookup,ht.typeIs,?_⟩
 exact getItem_tuple_whole ht hs pl pu (by rw[hlen];exact hw) ⟨.ref a,H,I,rfl,q⟩
end L2
namespace L3
open PySem L2 PySem.Spec PyProof.Rows
noncomputable def slT2:PV→Option Int→Option Int→Gp→K2→Prop:=fun p lo hi G Q=>match p with
 | .tup xs=>Q (.tup (cutP xs lo hi)) G
 | .str z=>z.length≤16000000∧Q (.str (Txt.slice z lo hi)) G
 |_=>False
noncomputable abbrev eSlT(te:E2)(tl th:O2):E2:=fun τ G Q=>te τ G fun x G1=>tl τ G1 fun l G2=>th τ G2 fun u G3=>slT2 x l u G3 Q
section
variable{X:Cx}{e:Expr}{te:E2}{lo hi:Option Expr}{tl th:O2}{pos p2:Pos}
theorem s_allT:SlR X (lowSl X.K slT2):=by
 intro pins s σ H x v vl vu lo hi sl Q I rx hs pl pu h
 obtain⟨p,G,Q2,d,rp,h,cl⟩:=h
 unfold slT2 at h
 split at h
 ·rename_i xs
  by_cases hw:HT.sIx xs.length 0 lo=0∧HT.sIx xs.length xs.length hi=xs.length
  ·have e:cutP xs lo hi=xs:=by
    unfold cutP
    rw[hw.1,hw.2]
    simp
   rw[e]at h
   have d0:=d
   obtain⟨a,vs,rfl,sa,da⟩:=d
   exact sl_whole pins s σ H _ v vl vu lo hi sl Q I rx hs pl pu ⟨a,vs,rfl,sa,by rw[da.length];exact hw,cl _ _ _ _ h d0 rp .refl⟩
  ·exact s_all pins s σ H x v vl vu lo hi sl Q I rx hs pl pu ⟨.tup xs,G,Q2,d,rp,⟨hw,h⟩,cl⟩
 ·rename_i z
  exact s_all pins s σ H x v vl vu lo hi sl Q I rx hs pl pu ⟨.str z,G,Q2,d,rp,h,cl⟩
 ·exact h.elim
theorem j_sliceT(he:JE X e te)(hl:JO X lo tl)(hu:JO X hi th):JE X (.Subscript e (.Slice lo hi none p2) pos) (eSlT te tl th):= .of (pe_slice s_allT he.h hl.h hu.h) fun σ H Q hPl=>by
 obtain⟨τ,G,Q2,rs,rp,q,cl⟩:=hPl
 refine⟨τ,G,_,rs,rp,q,fun p G1 v H1 q1 d1 r1 k1=>⟨τ,G1,_,rs.keep k1,r1,q1,fun l G2 H2 q2 r2 k2=>⟨τ,G2,_,rs.keep (k1.trans k2),r2,q2,fun u G3 H3 q3 r3 k3=> ?_⟩⟩⟩
 exact⟨p,G3,Q2,d1.keep (k2.trans k3),r3,q3,cl.keep ((k1.trans k2).trans k3)⟩
end
end L3
namespace L3
open PySem L2
end L3
namespace L3
open PySem L2
inductive UseE:Prop
 |mk
section
variable{X:Cx}{a b c e tg:Expr}{es:List Expr}{ta tb te:E2}{t:A2}{pos pos' p p2 p3:Pos}{x y z:Str}{i j k n:Nat}{lo hi:Option Expr}{tl th:O2}
theorem jaE(u:UseE)(ha:JE X a ta)(hb:JE X b tb):JE X (.BinOp a .Add b pos) (eOp addE2 ta tb):=jb_addE ha hb
theorem jsE(u:UseE)(he:JE X e te)(hl:JO X lo tl)(hu:JO X hi th):JE X (.Subscript e (.Slice lo hi none p2) pos) (eSlT te tl th):=j_sliceT he hl hu
theorem jsS(i:Nat)(he:JE X e ta)(hN:X.N.Nodup)(hi:X.N[i]? =some x:=by rfl)(hx:Loc X.env.scope x:=by first|exact Or.inl rfl|exact Or.inr rfl)(hs:swapsWith e (some (.Name x pos')) pos.line X.env=pure false:=by rfl)
  (hf:X.fn x=true∨X.env.scope.names.lookup x=some .local:=by first|exact .inl rfl|exact .inr rfl):JS X (.Assign [.Name x pos'] e pos) (sAsg ta (gN i)):=js_set he hN hi hx hs hf
theorem jgS(i:Nat)(hN:X.N.Nodup)(hi:X.N[i]? =some x:=by rfl)(hx:Loc X.env.scope x:=by first|exact Or.inl rfl|exact Or.inr rfl)(hf:X.fn x=true∨X.env.scope.names.lookup x=some .local:=by first|exact .inl rfl|exact .inr rfl):JG X (.Name x pos) (gN i):=jg_name hN hi hx hf
theorem jgS2(i:Nat)(hN:X.N.Nodup)(hc:X.calm=true:=by rfl)(hi:X.N[i]? =some x:=by rfl)(hx:Loc X.env.scope x:=by first|exact Or.inl rfl|exact Or.inr rfl)(hj:X.N[i+1]? =some y:=by rfl)(hy:Loc X.env.scope y:=by first|exact Or.inl rfl|exact Or.inr rfl)
  (hf:X.fn x=true∨X.env.scope.names.lookup x=some .local:=by first|exact .inl rfl|exact .inr rfl) (hf2:X.fn y=true∨X.env.scope.names.lookup y=some .local:=by first|exact .inl rfl|exact .inr rfl):
  JG X (.Tuple [.Name x p,.Name y p2] k pos) (gN2 i (i+1)):=jg_name2 hc hN hi hx hj hy hf hf2
end
end L3
namespace L2
open PySem PySem.Spec PyProof.Rows
section
variable{X:Cx}{C:Addr}
end
end L2
namespace L3
open PySem L2 PySem.Spec PyProof.Rows
section
variable{X:Cx}{C:Addr}
end
end L3
namespace L2
open PySem PySem.Spec PyProof.Rows
section
variable{prog:Program}{w:World}{A:Around}{E:Value→Shared→Prop}{s:Shared}{a₀:Array Keyed}{κ:PyProof.Rows.KeyKind}
end
end L2
namespace L3
open PySem L2 PySem.Spec PyProof.Rows
section
variable{X:Cx}
end
end L3
namespace PySem
open PyProof.Rows (StrsAre)
section
variable{prog:Program}{w:World}{A:Around}{E:Value→Shared→Prop}{s:Shared}
end
end PySem
namespace L3
open PySem L2
section
variable{X:Cx}{e:Expr}{te:E2}
end
end L3
namespace L3
open PySem L2
section
variable{X:Cx}{a b e:Expr}{ta tb te:E2}{p pos p2:Pos}
end
end L3
namespace PySem
open AutoSeq1 (wpAny_loadPart')
section
variable{prog:Program}{w:World}{A:Around}{E:Value→Shared→Prop}{s:Shared}
end
end PySem
namespace L2
open PySem
section
variable{X:Cx}
end
end L2
namespace L3
open PySem L2
section
variable{X:Cx}{a:Expr}{ta:A2}{p pos tp:Pos}{elts:List Expr}{x1:Nat}
end
end L3
namespace L3
open PySem L2
section
variable{X:Cx}
end
end L3
namespace L3
open PySem L2
section
variable{X:Cx}{a b:Expr}{ta tb:E2}{pos:Pos}
end
end L3
namespace L2
open PySem PySem.Spec PyProof.Rows
section
variable{X:Cx}{scope:Scope}{M:List Str}{ix:List (Option Nat)}{j:Nat}{x:Str}
theorem ps_comp2{elt iter:Expr}{px px2 pt py pos spos:Pos}{kt j2:Nat}{x2:Str}{ifs:List Expr}{wi:TI}{tf:TT}{te:TE}{i:Nat}{y:Str}(hN:X.N.Nodup)(hi:X.N[i]? =some y)(hy:X.env.scope.names.lookup y=some .local)
  (S:CompScope X.env.scope X.N scope M ix j x) (S2:CompTwo scope M ix j2 x2) (hc:X.calm=true) (hit:PI X (tT2 x x2 px px2 kt pt) iter wi)
  (hb:∀C s H fp,PF (cxComp X M scope C s H fp) ifs tf∧PE (cxComp X M scope C s H fp) elt te)
  (hsw:swapsWith (.ListComp elt [⟨tT2 x x2 px px2 kt pt,iter,ifs,0⟩] scope pos) (some (.Name y py)) spos.line X.env=pure true:=by rfl) (hs:∀x,foldedSetIterable iter X.env x=pure x:=by intro _;rfl):
  PS X (.Assign [.Name y py] (.ListComp elt [⟨tT2 x x2 px px2 kt pt,iter,ifs,0⟩] scope pos) spos) (tAsg (tComp2 X.K wi ix j j2 tf te) (gName i)):=by
 intro pins s σ H D I h
 rw[exec_Assign_Name_used _ _ _ _ hsw]
 refine wpAny_bind (wpAny_standAt (wpAny_bind ?_))
 show wpAny _ X.A (do let _ ←comprehension (.ListComp elt [⟨tT2 x x2 px px2 kt pt,iter,ifs,0⟩] scope pos) scope X.env _ (newList []) false (eval iter X.env) (some (assign (.Name y py) X.env))) _ _ s
 refine wpAny_bind (wpAny_mono (wpAny_comprehension_free (use:=some (assign (.Name y py) X.env)) (Q:=fun _ s'=>SP X pins D .next s') rfl hs (closureFor_cl fun y hy e=>I.ok.has y.1 (S.free y hy e)) S.kind S.names
  (wpAny_mono (hit pins s σ H _ I h) (fun xv s₁ h₁=>wpAny_mono h₁ (fun it s₂ h₂=> ?_) fun _ _ e=>e) fun _ _ e=>e)) (fun _ s' hq=>wpAny_pure (wpAny_pure hq)) fun _ _ e=>e)
 obtain⟨it,fp,tn,J,H2,rfl,I2,T,st2,f2,q⟩:=h₂
 refine wpAny_newObj_type (wpAny_newFunctionEnv S.nocell (by intro y hy;simp at hy) (fun h₁ hns₁ hsb₁=> ?_) S.kind)
 dsimp only at hns₁ hsb₁⊢
 have hC:(s₂.heap.push {cls:= .type "list",dict:=none,data:= .seq ([]:List Value).toArray}).objs.size=s₂.heap.objs.size+1:=Heap.size_push ..
 rw[hC]at hns₁ hsb₁⊢
 have below:∀b,b<s₂.heap.objs.size→b≠s₂.heap.objs.size+1:=fun b hb=>Nat.ne_of_lt (Nat.lt_succ_of_lt hb)
 have old:∀b o,s₂.heap.get? b=some o→h₁.get? b=some o:=fun b o e=>hsb₁.extBut b o (below b (Heap.lt_size e)) (Heap.get?_push_of_some _ (Heap.get?_push_of_some _ e))
 have hD:h₁.get? s₂.heap.objs.size=some {cls:= .type "list",data:= .seq ([]:List Value).toArray 0}:=hsb₁.extBut _ _ (Nat.ne_of_lt (Nat.lt_succ_self _)) (Heap.get?_push_of_some _ (Heap.get?_push_size _ rfl))
 have hft:∀b∈fp,b<s₂.heap.objs.size:=fun b hb=>by
  obtain⟨o,e,_⟩:=T.obj 0 s₂.heap st2 b hb
  exact Heap.lt_size e
 have I0:=(comp_start (h1:=h₁) S I2 f2 hft old hD hns₁).tok s₂.toks
 have hfr:H2 s₂.heap.objs.size=none:=I2.hok.fresh (Nat.le_refl _)
 have loop:codeAny (model X.prog X.w) X.A (.compLoop (.ListComp elt [⟨tT2 x x2 px px2 kt pt,iter,ifs,0⟩] scope pos) 0 (.ref it) (.ref s₂.heap.objs.size) (compEnvC scope (clOf X.env.cells scope.names []) (s₂.heap.objs.size+1) X.env))
   (compPost (model X.prog X.w) X.A X.xe (some (assign (.Name y py) X.env)) (fun _ s'=>SP X pins D .next s') (.ref s₂.heap.objs.size) (s₂.heap.objs.size+1)) {s₂ with heap:=h₁,toks:=s₂.toks}:=by
  refine comp_block2 (Q:=fun v H'=>gName i v σ H' D.nx) S S2 hc I2 (hb _ _ _ _).1 (hb _ _ _ _).2 T st2 f2 I0 old (q _ hfr) fun H' s' I' qq=> ?_
  show wpAny _ X.A (assign (.Name y py) X.env (.ref s₂.heap.objs.size)) _ _ s'
  have J1:Inv X pins σ H' s':=comp_end (h':=s'.heap) I2 (Nat.le_succ _) f2 I' (.refl ..)
  obtain⟨m,hn,_⟩:=I'.loc
  obtain⟨oC,es,ep,hoC,hd,hrest⟩:=id hn
  have nL:s₂.heap.objs.size+1≠X.env.locals:=Nat.ne_of_gt (Nat.lt_succ_of_lt I2.lt)
  have nF:s₂.heap.objs.size+1∉X.fs:=I2.nofs (Nat.le_succ _)
  have hHC:H' (s₂.heap.objs.size+1)=none:=I'.free
  have J2:Inv X (pins++[(s₂.heap.objs.size+1,oC)]) σ H' s':=J1.pins_of fun p hp=>(List.mem_append.mp hp).elim (fun z=>J1.pin p (List.mem_append_right _ z)) fun z=>by
   have e:p=(s₂.heap.objs.size+1,oC):=List.mem_singleton.mp z
   subst e
   exact⟨hoC,hHC,nL,nF,fun v z=>by rw[hd]at z;cases z⟩
  refine wpAny_assign_Name (store_ok (v:= .ref s₂.heap.objs.size) J2 hN hi (.inl hy) rfl (fun s'' J3=> ?_) (.inr hy))
  have hoC2:s''.heap.get? (s₂.heap.objs.size+1)=some oC:=(J3.pin (s₂.heap.objs.size+1,oC) (List.mem_append_right _ (List.mem_append_right _ (List.mem_singleton.mpr rfl)))).1
  refine⟨m,⟨oC,es,ep,hoC2,hd,hrest⟩,fun h' hb'=> ?_⟩
  have J4:Inv X pins (σ.set i (some (.ref s₂.heap.objs.size))) H' s'':=J3.unpinned
  refine⟨_,H',J4.turned (t':=s''.toks) (it:=s₂.heap.objs.size+1) (fun b o hne e=>hb'.extBut b o hne e) hHC nL (.inr (Nat.le_trans I2.sz (Nat.le_succ _))) (fun z c e1 e2=> ?_) (fun p hp e2=> ?_),qq⟩
  ·obtain⟨v,qc⟩:=I2.cell z c e1
   have:=qc.lt
   rw[e2]at this
   exact absurd (Nat.lt_of_succ_lt this) (Nat.lt_irrefl _)
  ·have:=Heap.lt_size (I2.pin p hp).1
   rw[e2]at this
   exact absurd (Nat.lt_of_succ_lt this) (Nat.lt_irrefl _)
 exact codeAny_compStart_list loop (T.self _ 0 _ _ _ (T.keep 0 _ _ st2 fun b _ o e=>old b o e) loop)
end
end L2
namespace L3
open PySem L2
section
variable{X:Cx}
theorem js_comp2{scope:Scope}{M:List Str}{ix:List (Option Nat)}{j j2 n kt:Nat}{x x2 y:Str}{elt iter:Expr}{px px2 pt py pos spos:Pos}{ifs:List Expr}{ti:TI2}{tf:T2}{te:E2}(hN:X.N.Nodup)(hi:X.N[n]? =some y)(hy:X.env.scope.names.lookup y=some .local)
  (S:compOkB X.env.scope X.N scope M ix j x=true) (S2:CompTwo scope M ix j2 x2) (hc:X.calm=true) (hit:JI X (tT2 x x2 px px2 kt pt) iter ti)
  (hb:∀C s H fp,JF (cxComp X M scope C s H fp) ifs tf∧JE (cxComp X M scope C s H fp) elt te)
  (hsw:swapsWith (.ListComp elt [⟨tT2 x x2 px px2 kt pt,iter,ifs,0⟩] scope pos) (some (.Name y py)) spos.line X.env=pure true:=by rfl) (hs:∀x,foldedSetIterable iter X.env x=pure x:=by intro _;rfl):
  JS X (.Assign [.Name y py] (.ListComp elt [⟨tT2 x x2 px px2 kt pt,iter,ifs,0⟩] scope pos) spos) (sAsg (eComp2 ti ix j j2 tf te) (gN n)):= .of (ps_comp2 hN hi hy (compS S) S2 hc hit.h (fun C s H fp=>⟨(hb C s H fp).1.h,(hb C s H fp).2.h⟩) hsw hs) fun D σ H ⟨τ,G,D2,rs,rp,q,cl⟩=>by
 exact low_comp2 (X:=X) ⟨τ,G,_,rs,rp,q,fun p G1 v H1 q1 d1 r1 k1=>cl.nx _ _ _ _ q1 ((rs.keep k1).set d1 n) r1 k1⟩
end
end L3
namespace L3
open PySem L2
end L3
namespace L3
open PySem L2
section
variable{X:Cx}
end
end L3
namespace L3
open PySem L2
section
open PySem.SeqAt PySem.SeqRoads2
open PyProof.Rows (IntsAre)
open PySem.AutoSeq1 (wpAny_loadPart')
open PySem.MeetsSeq PySem.MeetsSeq2 PySem.MeetsSeq3
end
section
variable{X:Cx}
end
end L3
namespace L2
open PySem PySem.Spec PyProof.Rows PySem.W
section
variable{prog:Program}{w:World}{A:Around}{E:Value→Shared→Prop}{s:Shared}{κ:SortKind}{it:Array Keyed}
end
end L2
namespace L3
open PySem L2 PyProof.Rows
section
variable{X:Cx}
end
end L3
namespace L3
open PySem L2 PySem.Spec PyProof.Rows
section
variable{X:Cx}{C D:Addr}{E:XK}{EX:Gp→Prop}{k k':Nat}{m x:Str}{f':Addr}{fd:FuncData}{ps:List Str}{o e:Expr}{es:List Expr}{to:E2}{t:A2}{pos apos p:Pos}{pl:Sem Bool}
end
end L3
namespace L2
open PySem PySem.Spec PyProof.Rows
section
variable{M:Model}{A:Around}{E:Value→Shared→Prop}
variable{nm q:Str}{C N:Addr}{bs bm:List Value}{hdct:Bool}{sn:List Str}{sub:List Value}{ab:Bool}{col:Option Bool}{dd:Option Addr}{k0 k1 k2 k3 k5:Option Value}{newId:String}
variable{nm' q':Str}{C' N':Addr}{bs' bm':List Value}{hdct':Bool}{sn':List Str}{sub':List Value}{ab':Bool}{col':Option Bool}{dd':Option Addr}{k0' k1' k2' k3' k5':Option Value}{newId':String}
theorem excMatches_ref{h:Heap}{g:Array GenState}{d:Drawn}{t:Nat}{os:OsState}{e:Addr}{oe:Obj}{Q:Bool→Shared→Prop}
  (hC:h.get? C=some (excClassObj nm q C N bs bm hdct sn sub ab col dd k0 k1 k2 k3 k5 newId)) (hG:h.get? C'=some (excClassObj nm' q' C' N' bs' bm' hdct' sn' sub' ab' col' dd' k0' k1' k2' k3' k5' newId'))
  (he:h.get? e=some oe) (hcls:oe.cls= .ref C) (hbase:bm'.contains (.type "BaseException")=true) (hin:(Value.ref C::bm).contains (.ref C')=true)
  (hq:Q true ⟨h,g,d,t,os⟩):wpAny M A (excMatches (.ref e) (.ref C')) Q E ⟨h,g,d,t,os⟩:=by
 have hcB:(Value.ref C'::bm').contains (.type "BaseException")=true:=by rw[List.contains_cons,hbase,Bool.or_true]
 have f:=tc_notTuple
 unfold excMatches
 repeat (first|(with_reducible refine wpAny_loadPart_at he ?_;rw[hcls])|with_reducible refine wpAny_loadPart_at hC ?_|with_reducible refine wpAny_loadPart_at hG ?_|(with_reducible refine wpAny_isSubtype_exc hG ?_;rw[hcB])|(with_reducible refine wpAny_isSubtype_exc hC ?_;rw[hin])|wp_step)
 exact hq
end
noncomputable def excHas(K:PySem.W.Frag)(C G:Addr):Bool:=match K.lookup C with
 |some ⟨_,_,.cls cd,_⟩=>(cd.mro).contains (.ref G)
 |_=>false
noncomputable def Cx.inX(X:Cx)(e:Value):Cx:={X with A:=X.A.mark (some e),calm:=false,xe:=fun _ _=>False}
section
variable{X:Cx}{pins:List (Addr×Obj)}{σ:St}{H:Hp}{s:Shared}{e:Value}
theorem Inv.inX(I:Inv X pins σ H s)(e:Value):Inv (X.inX e) pins σ H s:=
 ⟨⟨I.ok.mod,I.ok.kind,I.ok.glob,I.ok.blt,I.ok.above,I.ok.inj,I.ok.has,I.ok.cab,(fun z=>nomatch z),I.ok.frames,I.ok.stk,I.ok.exf,I.ok.bs,I.ok.bsz,I.ok.noex,I.ok.exfs,I.ok.funs,I.ok.frf⟩,I.os,I.bare,I.base,I.loc,I.cell,I.free,I.freeC,I.pin,I.hok,I.len⟩
theorem Inv.outX(ok:X.Ok)(I:Inv (X.inX e) pins σ H s):Inv X pins σ H s:=⟨ok,I.os,I.bare,I.base,I.loc,I.cell,I.free,I.freeC,I.pin,I.hok,I.len⟩
theorem Inv.gone{M:Model}{A:Around}{E:Value→Shared→Prop}{j:Nat}{n:Str}{pos:Pos}{Q:Unit→Shared→Prop}(I:Inv X pins σ H s)(hN:X.N.Nodup)(hi:X.N[j]? =some n)(hl:X.env.scope.names.lookup n=some .local)
  (h:∀s',Inv X pins (σ.set j none) H s'→Q () s'):wpAny M A (do bindName X.env n .none;unbindBehindTheSuite X.env n pos) Q E s:=by
 obtain⟨m,hn,hlk⟩:=id I.loc
 have hcls:(X.env.scope.kind== .class||(X.env.scope.kind== .module&&X.env.locals !=X.env.globals))=false:=by rw[I.ok.kind];rfl
 have hiσ:j<σ.length:=by rw[I.len];exact(List.getElem?_eq_some_iff.mp hi).1
 have cne:=I.cne
 have tracked:∀{a:Addr} {h':Heap},(∃o,s.heap.get? a=some o∧H a=none)→Heap.SameBut a s.heap h'→HOk X.prog X.w H h':=fun{a h'} ha hs b ob e=>by
  obtain⟨_,_,hfree⟩:=ha
  refine(I.hok b ob e).stay (fun c w' hc q=>(hs.2 c ?_).trans q) (fun _ q=>q) fun _ _ q=>q
  rintro rfl
  rcases hc with rfl|hc
  ·rw[hfree]at e;cases e
  ·rw[hfree]at hc;cases hc
 refine wpAny_nameGoes_keeps hl hn hcls fun h' v hn' hs=> ?_
 obtain⟨oL,_,_,hoL,_⟩:=id hn
 refine h _ ⟨I.ok,I.os,I.bare,⟨fun b o e n hb hx=> ?_,fun b o e n hb hx=> ?_,I.base.free,fun b o e hx=> ?_,I.base.tups,I.base.frzs,I.base.tbls⟩,⟨_,hn',fun k y v' e1 e2 e3=> ?_⟩,fun y c e=> ?_,I.free,I.freeC,fun p hp=> ?_,tracked ⟨oL,hoL,I.free⟩ hs,by simpa using I.len⟩
 ·exact(hs.2 b (Nat.ne_of_lt (Nat.lt_of_lt_of_le (Heap.lt_size e) I.ok.above))).trans (I.base.keep b o e n hb hx)
 ·obtain⟨sl,e1⟩:=I.base.slot b o e n hb hx
  exact⟨sl,(hs.2 b (Nat.ne_of_lt (Nat.lt_of_lt_of_le (Heap.lt_size e) I.ok.above))).trans e1⟩
 ·obtain⟨o',e1⟩:=I.base.there b o e hx
  exact⟨o',(hs.2 b (Nat.ne_of_lt (Nat.lt_of_lt_of_le (Heap.lt_size e) I.ok.above))).trans e1⟩
 ·by_cases hj:k=j
  ·subst hj
   rw[List.getElem?_set_self hiσ]at e2
   cases e2
  ·rw[List.getElem?_set_ne (Ne.symm hj)]at e2
   obtain⟨u',r',q⟩:=hlk k y v' e1 e2 e3
   refine⟨u',r',?_⟩
   rcases q with⟨k,e⟩|⟨k,c,e,z⟩
   ·refine .inl ⟨k,?_⟩
    have:y≠n:=fun e=>hj (nodup_ix hN e1 (e▸hi))
    simp[this,e]
   ·exact .inr ⟨k,c,e,z.sameBut hs (cne y c e)⟩
 ·obtain⟨w',z⟩:=I.cell y c e
  exact⟨w',z.sameBut hs (cne y c e)⟩
 ·obtain⟨e,n,ne,nf,d⟩:=I.pin p hp
  exact⟨(hs.2 p.1 ne).trans e,n,ne,nf,d⟩
end
noncomputable def Ends.drop(D:Ends)(j:Nat):Ends:={nx:=fun σ H=>D.nx (σ.set j none) H,rt:=D.rt,bk:=fun σ H=>D.bk (σ.set j none) H,ct:=fun σ H=>D.ct (σ.set j none) H}
section
variable{X:Cx}{C:Addr}
theorem caught_as{xc n:Str}{np p3:Pos}{b0:Stmt}{suite:List Stmt}{tb:TS}{G:Addr}{j:Nat}{pins:List (Addr×Obj)}{σ:St}{H1:Hp}{s1 s':Shared}{D:Ends}{E:XK}{ex:Value}{env:Env}{outer:List Env}(hst:X.stack=env::outer)(henv:X.env=env)
  (I2:Inv X pins σ H1 s1) (hq:CX1 X.prog X.w C X.stack H1 s1 E ex s')
  (q:PySem.W.excIn X.K C bmV "ValueError.__new__" =true) (qg:PySem.W.excIn X.K G bmV "ValueError.__new__" =true) (hup:excHas X.K C G=true) (hgc:Gl X xc) (hmc:X.mg xc=some (.ref G)) (hN:X.N.Nodup) (hj:X.N[j]? =some n) (hl:X.env.scope.names.lookup n=some .local)
  (hE:∀H' x,E (.ref C) none H'→(∀b xs,H1 b=some (.tup xs)→H' b=some (.tup xs))→(∀b o u,H1 b=some (.frz o u)→H' b=some (.frz o u))→H' x=none→tb (D.drop j) (σ.set j (some (.ref x))) (upd H' x (excO x C)))
  (hs:∀x:Addr,PSs (X.inX (.ref x)) (b0::suite) tb) (hdc:(xc==("__debug__" :Str))=false:=by decide):
  wpAny (model X.prog X.w) X.A (noteFrame ex X.env) (fun _ s₂=>wpAny (model X.prog X.w) X.A (setFlight ex none) (fun _ s₃=>wpAny (model X.prog X.w) X.A (handleBy ex X.env [.ExceptHandler (some (.Name xc np)) (some n) (b0::suite) p3]) (SP X pins D) X.xe s₃) X.xe s₂) X.xe s':=by
 obtain⟨x,T,H',rfl,tr,nx,nT,hx,hT,os,bare,un,hok,hEE⟩:=hq
 subst henv
 obtain⟨hh,g,d,tk,os'⟩:=s'
 have J:=I2.call' (ch:=[]) os un hok bare (fun b z=>absurd z (by simp))
 have hstk:=J.stack
 rw[hst]at hstk
 have hfr:X.A.frames=some (X.env::outer):=by rw[J.ok.frames,hst]
 refine note_on (base:=X.base) hfr hstk tr fun h' hL=> ?_
 obtain⟨⟨T',tr',hT'⟩,k1,k2⟩:=hL
 rw[←hst]at k1 k2
 have hTn:H' T'=none∧s1.heap.get? T'=none:=by
  rcases hT' with hT'|hT'
  ·cases List.mem_singleton.mp hT'
   exact⟨hT,nT⟩
  ·refine⟨hok.none_of hT',?_⟩
   cases q0:s1.heap.get? T' with
   |none=>rfl
   |some o=>
    obtain⟨o',q'⟩:=un.there T' o q0 (by simp)
    rw[hT']at q';cases q'
 have un2:Un (frs X.stack) [] H1 H' s1.heap h':=un_left (S:=[T]) un nx (fun t ht=>by cases List.mem_singleton.mp ht;exact nT) k1 fun b o hb _ _ q0=>k2 b o hb q0
 have hok2:HOk X.prog X.w H' h':=hok_left (S:=[T]) hok hx (fun t ht=>by cases List.mem_singleton.mp ht;exact hT) J.stkFree k1
 have J2:=I2.call' (s':=⟨h',g,d,tk,os'⟩) (ch:=[]) os un2 hok2 bare (fun b z=>absurd z (by simp))
 obtain⟨bm,ns,nm,qn,bs,hd,sn,sub,ab,col,dd,c0,c1,c2,c3,c5,mN,e1,e2,e3,e4⟩:=exc_parts I2.ok.mod.kin q
 obtain⟨bm',ns',nm',qn',bs',hd',sn',sub',ab',col',dd',c0',c1',c2',c3',c5',mN',e1',e2',e3',e4'⟩:=exc_parts I2.ok.mod.kin qg
 have hin:(Value.ref C::bm).contains (.ref G)=true:=by
  unfold excHas at hup
  split at hup
  ·rename_i ho
   have:=I2.ok.mod.kin _ _ ho
   rw[e1]at this
   injection this with this
   injection this with _ _ h3 _
   injection h3 with h3
   rw[←h3]at hup
   exact hup
  ·cases hup
 refine wpAny_handleBy_cons (codeAny_handlers_test ?_) (by intro z;cases z)
 refine Calls.Name_function_global J2.ok.kind hgc (Calls.loadGlobal_global (by rw[J2.ok.glob];exact J2.mod.glob.keeps J2.bk) hmc ?_) hdc
 obtain⟨oe,vs',oT,ts,he1,he2,he3,he4,he5,he6,he7,he8⟩:=id tr'
 refine excMatches_ref (J2.bk _ _ e1) (J2.bk _ _ e1') he1 he2 (e4'.hasType (by decide)) hin ?_
 refine codeAny_handlers_suite_as (flight_on (s:=⟨h',g,d,tk,os'⟩) tr' fun h'' k3=> ?_)
 have un3:Un (frs X.stack) [] H1 H' s1.heap h'':=un_left (S:=[T']) un2 nx (fun t ht=>by cases List.mem_singleton.mp ht;exact hTn.2) (fun b o _ _ hS q0=>k3 b o (by simpa using hS) q0) fun b o _ _ hS q0=>⟨o.slots,k3 b o (by simpa using hS) q0⟩
 have hok3:HOk X.prog X.w H' h'':=hok_left (S:=[T']) hok2 hx (fun t ht=>by cases List.mem_singleton.mp ht;exact hTn.1) J.stkFree fun b o _ _ hS q0=>k3 b o (by simpa using hS) q0
 have J3:=I2.call' (s':=⟨h'',g,d,tk,os'⟩) (ch:=[]) os un3 hok3 bare (fun b z=>absurd z (by simp))
 have hxe:h''.get? x=some oe:=k3 x oe (Ne.symm he5) he1
 have un4:Un (frs X.stack) [] H1 (upd H' x (excO x C)) s1.heap h'':=⟨un3.keep,un3.slot,fun b o q n hb=>by rw[upd_ne (fun z=>by rw[z,nx]at q;cases q)];exact un3.free b o q n hb,un3.there,
  fun b xs q=>by rw[upd_ne (ne_of_none (un3.tups b xs q) hx)];exact un3.tups b xs q,fun b o u q=>by rw[upd_ne (ne_of_none (un3.frzs b o u q) hx)];exact un3.frzs b o u q,fun b ps q=>by
   obtain⟨qs,e⟩:=un3.tbls b ps q
   exact⟨qs,by rw[upd_ne (ne_of_none e hx)];exact e⟩⟩
 have hok4:HOk X.prog X.w (upd H' x (excO x C)) h'':=hok3.laidN (fun _ _ z=>z) hx ⟨⟨oe,hxe,he2⟩,⟨_,hxe⟩,XAt.stay⟩
 have J4:=I2.call' (s':=⟨h'',g,d,tk,os'⟩) (ch:=[]) os un4 hok4 bare (fun b z=>absurd z (by simp))
 have ok:=I2.ok
 refine store_ok J4 hN hj (.inl hl) (v:= .ref x) rfl (fun s4 J5=> ?_) (.inr hl)
 refine wpAny_mono (hs x pins s4 _ _ (D.drop j) (J5.inX (.ref x)) (hE H' x hEE un.tups un.frzs hx)) (fun f s5 h5=> ?_) fun _ _ z=>z.elim
 cases f with
 |next=>obtain⟨σ',H5,I5,q5⟩:=h5;exact(I5.outX ok).gone hN hj hl fun s6 I6=>⟨_,H5,I6,q5⟩
 |brk=>obtain⟨σ',H5,I5,q5⟩:=h5;exact(I5.outX ok).gone hN hj hl fun s6 I6=>⟨_,H5,I6,q5⟩
 |cont=>obtain⟨σ',H5,I5,q5⟩:=h5;exact(I5.outX ok).gone hN hj hl fun s6 I6=>⟨_,H5,I6,q5⟩
 |ret u=>obtain⟨v,σ',H5,I5,r5,q5⟩:=h5;exact(I5.outX ok).gone hN hj hl fun s6 I6=>⟨v,_,H5,I6,r5,q5⟩
end
end L2
namespace L3
open PySem L2 PySem.Spec PyProof.Rows
noncomputable abbrev D2.drop(D:D2)(j:Nat):D2:={nx:=fun τ G=>D.nx (st τ j none) G,rt:=D.rt,bk:=fun τ G=>D.bk (st τ j none) G,ct:=fun τ G=>D.ct (st τ j none) G}
theorem RSt.drop{K:PySem.W.Frag}{H:Hp}{σ:L2.St}{τ:St2}(r:RSt K H σ τ)(j:Nat):RSt K H (σ.set j none) (st τ j none):=by
 rw[st_set]
 refine⟨by simp[r.1],fun i q e=> ?_⟩
 by_cases hj:j=i
 ·subst hj
  have hi:j<τ.length:=by
   have:=(List.getElem?_eq_some_iff.mp e).1
   simpa using this
  rw[List.getElem?_set_self hi]at e
  cases e
 ·rw[List.getElem?_set_ne hj]at e⊢
  exact r.2 i q e
theorem ClD.drop{K:PySem.W.Frag}{H:Hp}{D:L3.D2}{D':Ends}(c:ClD K H D D')(j:Nat):ClD K H (D.drop j) (D'.drop j):=
 ⟨fun τ G σ H' q r rp k=>c.nx _ _ _ _ q (r.drop j) rp k,c.rt,fun τ G σ H' q r rp k=>c.bk _ _ _ _ q (r.drop j) rp k,fun τ G σ H' q r rp k=>c.ct _ _ _ _ q (r.drop j) rp k⟩
noncomputable def isX2(K:PySem.W.Frag):C2:=fun ps G Q=>match ps with
 |[.ref x,.ref c]=>∃D b,G x=some (.exc D)∧ExcK K D∧PySem.W.kitOne K (.ref D) (.ref c)=some b∧Q (.bl b) G
 |[.ref x,.ty T]=>∃D b,G x=some (.exc D)∧ExcK K D∧PySem.W.kitOne K (.ref D) (.type T)=some b∧Q (.bl b) G
 |[.ref x,.tup cs]=>∃(D:Addr) (az:List Addr) (b:Bool),cs=az.map PV.ref∧G x=some (.exc D)∧ExcK K D∧PySem.W.kitAny K (.ref D) (az.map Value.ref)=some b∧Q (.bl b) G
 |_=>False
theorem refs_of{K:PySem.W.Frag}{H:Hp}:∀{az:List Addr} {vs:List V} {us:List Value},Dvs K H (az.map PV.ref) vs→Vals vs us→us=az.map Value.ref
 |[],vs,us,d,r=>by
  obtain rfl:vs=[]:=d
  cases r;rfl
 |a::az,vs,us,d,r=>by
  obtain⟨v,vr,rfl,d1,d2⟩:=d
  obtain rfl:v= .ref a:=d1
  cases r with
  |cons r1 r2=>
   cases r1
   rw[refs_of d2 r2];rfl
section
variable{X:Cx}{a b e:Expr}{ta tb:E2}{t:A2}{es:List Expr}{p pos:Pos}
theorem c_isX:CallR X (.builtin "isinstance") (lowC X.K (isX2 X.K)):=by
 intro pins s σ H xs us Q I rs h
 obtain⟨ps,G,Q2,d,rp,h,cl⟩:=h
 unfold isX2 at h
 split at h
 ·rename_i x c
  obtain⟨v,vr,rfl,d1,v2,vr2,rfl,d2,d3⟩:=d
  obtain rfl:vr2=[]:=d3
  obtain rfl:v= .ref x:=d1
  obtain rfl:v2= .ref c:=d2
  obtain⟨D,b,hG,hx,hk,q⟩:=h
  exact call_isinstX pins s σ H _ us Q I rs ⟨x,D,.ref c,.ref c,b,rfl,rp x _ hG,hx,rfl,hk,cl _ _ _ _ q rfl rp .refl⟩
 ·rename_i x T
  obtain⟨v,vr,rfl,d1,v2,vr2,rfl,d2,d3⟩:=d
  obtain rfl:vr2=[]:=d3
  obtain rfl:v= .ref x:=d1
  obtain rfl:v2= .ty T:=d2
  obtain⟨D,b,hG,hx,hk,q⟩:=h
  exact call_isinstX pins s σ H _ us Q I rs ⟨x,D,.ty T,.type T,b,rfl,rp x _ hG,hx,rfl,hk,cl _ _ _ _ q rfl rp .refl⟩
 ·rename_i x cs
  obtain⟨v,vr,rfl,d1,v2,vr2,rfl,d2,d3⟩:=d
  obtain rfl:vr2=[]:=d3
  obtain rfl:v= .ref x:=d1
  obtain⟨a,ws,rfl,hs,dw⟩:=d2
  obtain⟨D,az,b,rfl,hG,hx,hk,q⟩:=h
  obtain⟨u,u2,rfl,ru,ru2⟩:=rs.two
  cases ru
  cases ru2
  obtain⟨its,rv,⟨o,ho,hc,n,hd⟩,_⟩:=I.tuple hs
  have hE:=rp x _ hG
  have pX:XAt x D s.heap:=(I.hok x _ hE).1
  have ei:=refs_of dw rv
  subst ei
  obtain⟨oc,odd,oda,osl⟩:=o
  dsimp only at hc hd
  subst hc hd
  exact PySem.W.kia_tup (kitx_exc hx) I.kIn pX ho hk (fun z=>nomatch z) fun tk=>⟨.bl b,H,I.tok tk,rfl,cl _ _ _ _ q rfl rp .refl⟩
 ·exact h.elim
theorem jc_isX(B:BN X.mg)(ha:JA X (e::es) t)(hg:Gl X "isinstance" :=by rfl)(he:starEach (e::es) X.env=(false,eval e X.env)::starEach es X.env:=by rfl)(hpl:(backTo pos (starEach es X.env)).any (·.1)=false:=by rfl):JE X (.Call (.Name "isinstance" p) (e::es) [] pos) (eCl (isX2 X.K) t):=j_callB c_isX B.isinstance boot_isinst ha hg (by decide) (by decide) he hpl
theorem j_gref{x:Str}{c:Addr}(hm:X.mg x=some (.ref c))(hg:Gl X x:=by rfl)(hd:(x==("__debug__" :Str))=false:=by decide):JE X (.Name x pos) (eC (.ref c)):=j_glob (v:= .ref c) hm rfl (fun _=>rfl) hg hd
theorem boot_VE:bootBuiltins "ValueError" =some (.type "ValueError"):=by decide+kernel
theorem jn_VE(hm:X.mg "ValueError" =none)(hg:Gl X "ValueError" :=by rfl):JE X (.Name "ValueError" pos) (eC (.ty "ValueError")):=j_ty hm boot_VE hg
end
end L3
namespace L2
open PySem PySem.Spec PyProof.Rows
end L2
namespace L3
open PySem L2
end L3
namespace L3
open PySem L2
section
variable{X:Cx}{d e f:Expr}{td te tf:E2}{pos apos cpos p:Pos}
end
section
variable{P:Program}{w:World}{K:PySem.W.Frag}{mg:Str→Option Value}{base:Heap}
end
end L3
namespace L2
open PySem PySem.Spec PyProof.Rows
end L2
namespace L3
open PySem L2
end L3
namespace PySem
section
variable{prog:Program}{w:World}{A:Around}{E:Value→Shared→Prop}{s:Shared}{d:Addr}
end
end PySem
namespace L3
open PySem L2
end L3
namespace L3
open PySem L2
structure AtF(K:PySem.W.Frag)(C:Addr)(f:Str):Prop where
 c:Cls K C
 n:NoAttr K C f
end L3
namespace L3
open PySem L2
theorem jc_isXK{X:Cx}{K:PySem.W.Frag}{D:Addr}{e:Expr}{es:List Expr}{t:A2}{p pos:Pos}(xk:ExcK K D)(hK:X.K=K)(B:BN X.mg)(ha:JA X (e::es) t)(hg:Gl X "isinstance" :=by rfl)(he:starEach (e::es) X.env=(false,eval e X.env)::starEach es X.env:=by rfl)(hpl:(backTo pos (starEach es X.env)).any (·.1)=false:=by rfl):JE X (.Call (.Name "isinstance" p) (e::es) [] pos) (eCl (isX2 K) t):=by
 subst hK
 exact jc_isX B ha hg he hpl
end L3
namespace L3
open PySem L2
@[reducible] noncomputable def valN (kvs:List (NK×PV)) (k:NK):Option PV:=(kvs.find? fun kv=>decide (kv.1=k)).map (·.2)
noncomputable def putN(kvs:List (NK×PV))(k:NK)(v:PV):List (NK×PV):=
 if(kvs.any fun kv=>decide (kv.1=k))=true then kvs.map (fun kv=>if kv.1=k then(kv.1,v)else kv)else kvs++[(k,v)]
theorem putN_len(kvs:List (NK×PV))(k:NK)(v:PV):(putN kvs k v).length≤kvs.length+1:=by
 unfold putN
 split<;>simp
theorem valN_put(k j:NK)(v:PV):∀kvs:List (NK×PV),valN (putN kvs k v) j=if j=k then some v else valN kvs j:=by
 intro kvs
 unfold putN
 split
 ·rename_i h
  induction kvs with
  |nil=>simp at h
  |cons x r ih=>
   rw[List.map_cons]
   by_cases e:x.1=k
   ·rw[if_pos e]
    by_cases e2:x.1=j
    ·rw[if_pos (e2.symm.trans e)]
     simp[valN,List.find?_cons,e2]
    ·rw[if_neg (fun z=>e2 (e.trans z.symm))]
     have h1:∀l:List (NK×PV),valN (l.map fun kv=>if kv.1=k then(kv.1,v)else kv) j=valN l j:=by
      intro l
      induction l with
      |nil=>rfl
      |cons y l ih2=>
       rw[List.map_cons]
       by_cases ey:y.1=k
       ·rw[if_pos ey]
        have ne:¬y.1=j:=fun z=>e2 ((e.trans ey.symm).trans z)
        simpa [valN,List.find?_cons,ne]using ih2
       ·rw[if_neg ey]
        by_cases ej:y.1=j
        ·simp[valN,List.find?_cons,ej]
        ·simpa [valN,List.find?_cons,ej]using ih2
     have:=h1 r
     simpa [valN,List.find?_cons,e2]using this
   ·rw[if_neg e]
    have hr:(r.any fun kv=>decide (kv.1=k))=true:=by simpa [e]using h
    by_cases e2:x.1=j
    ·rw[if_neg (fun z=>e (e2.trans z))]
     simp[valN,List.find?_cons,e2]
    ·have:=ih hr
     simpa [valN,List.find?_cons,e2]using this
 ·rename_i h
  induction kvs with
  |nil=>
   by_cases e:j=k
   ·simp[valN,e]
   ·have:¬k=j:=fun z=>e z.symm
    simp[valN,e,this]
  |cons x r ih=>
   have hx:¬x.1=k∧¬(r.any fun kv=>decide (kv.1=k))=true:=by
    simp only[List.any_cons,Bool.or_eq_true,decide_eq_true_eq,not_or]at h
    exact h
   have:=ih hx.2
   by_cases e2:x.1=j
   ·rw[if_neg (fun z=>hx.1 (e2.trans z))]
    simp[valN,List.find?_cons,e2]
   ·simpa [valN,List.find?_cons,e2]using this
noncomputable abbrev keyN(k:NK):PV:= .tup [.tup (k.1.map PV.int),.str k.2]
section
variable{K:PySem.W.Frag}{H:Hp}
theorem intsV_D:∀{ks:List Int} {vs:List V},Dvs K H (ks.map PV.int) vs→vs=ks.map V.int
 |[],_,h=>h
 |k::ks,_,h=>by
  obtain⟨v,r,rfl,d,z⟩:=h
  rw[intsV_D z,show v=V.int k from d];rfl
theorem keyN_D{k:NK}{v:V}(d:Dv K H (keyN k) v):∃b,v= .ref b∧KeyAt K H b k:=by
 obtain⟨b,vs,rfl,sb,v1,r1,rfl,⟨c,ws,rfl,sc,dw⟩,v2,r2,rfl,d2,rfl⟩:=d
 obtain rfl:=intsV_D dw
 obtain rfl:v2= .str k.2:=d2
 exact⟨b,rfl,c,sb,sc⟩
theorem NKv.keys:∀{ps:List (NK×PV)} {xs:List (NK×Addr×Value)},NKv K H ps xs→∀q∈xs,KeyAt K H q.2.1 q.1
 |[],_,h,q,hq=>by rw[show _=[]from h]at hq;cases hq
 |(k,p)::ps,_,h,q,hq=>by
  obtain⟨b,v,u,r,rfl,h1,_,_,z⟩:=h
  rcases List.mem_cons.mp hq with rfl|hq
  ·exact h1
  ·exact NKv.keys z q hq
theorem NKv.len:∀{ps:List (NK×PV)} {xs:List (NK×Addr×Value)},NKv K H ps xs→xs.length=ps.length
 |[],_,h=>by rw[show _=[]from h];rfl
 |(k,p)::ps,_,h=>by
  obtain⟨b,v,u,r,rfl,h1,_,_,z⟩:=h
  rw[List.length_cons,List.length_cons,z.len]
theorem NKv.val:∀{ps:List (NK×PV)} {xs:List (NK×Addr×Value)},NKv K H ps xs→∀k,(∀p,valN ps k=some p→∃q v,atKey xs k=some q∧Dv K H p v∧RelV v q.2)∧(valN ps k=none→atKey xs k=none)
 |[],_,h,k=>by
  obtain rfl:_=[]:=h
  exact⟨(fun p e=>nomatch (show(none:Option PV)=some p from e)),fun _=>rfl⟩
 |(x,p)::ps,_,h,k=>by
  obtain⟨b,v,u,r,rfl,h1,d,rv,z⟩:=h
  by_cases e:x=k
  ·have e1:valN ((x,p)::ps) k=some p:=by simp[valN,List.find?_cons,e]
   have e2:atKey ((x,b,u)::r) k=some (b,u):=by simp[atKey,List.find?_cons,e]
   rw[e1,e2]
   exact⟨fun q hq=>by cases hq;exact⟨(b,u),v,rfl,d,rv⟩,fun h=>by cases h⟩
  ·have e1:valN ((x,p)::ps) k=valN ps k:=by simp[valN,List.find?_cons,e]
   have e2:atKey ((x,b,u)::r) k=atKey r k:=by simp[atKey,List.find?_cons,e]
   rw[e1,e2]
   exact NKv.val z k
theorem NKv.map{k:NK}{q:PV}{y:V}{w:Value}(dq:Dv K H q y)(rw':RelV y w):∀{ps:List (NK×PV)} {xs:List (NK×Addr×Value)},NKv K H ps xs→NKv K H (ps.map fun kv=>if kv.1=k then(kv.1,q)else kv) (xs.map (putAt k w))
 |[],_,h=>by obtain rfl:_=[]:=h;rfl
 |(x,p)::ps,_,h=>by
  obtain⟨b,v,u,r,rfl,h1,d,rv,z⟩:=h
  rw[List.map_cons,List.map_cons]
  by_cases e:x=k
  ·rw[if_pos e,putAt,if_pos e]
   exact⟨b,y,w,_,rfl,h1,dq,rw',NKv.map dq rw' z⟩
  ·rw[if_neg e,putAt,if_neg e]
   exact⟨b,v,u,_,rfl,h1,d,rv,NKv.map dq rw' z⟩
theorem NKv.snoc{k:NK}{c:Addr}{q:PV}{y:V}{w:Value}(hc:KeyAt K H c k)(dq:Dv K H q y)(rw':RelV y w):∀{ps:List (NK×PV)} {xs:List (NK×Addr×Value)},NKv K H ps xs→NKv K H (ps++[(k,q)]) (xs++[(k,c,w)])
 |[],_,h=>by obtain rfl:_=[]:=h;exact⟨c,y,w,[],rfl,hc,dq,rw',rfl⟩
 |(x,p)::ps,_,h=>by
  obtain⟨b,v,u,r,rfl,h1,d,rv,z⟩:=h
  exact⟨b,v,u,_,rfl,h1,d,rv,NKv.snoc hc dq rw' z⟩
theorem NKv.put{k:NK}{c:Addr}{q:PV}{y:V}{w:Value}(hc:KeyAt K H c k)(dq:Dv K H q y)(rw':RelV y w){ps:List (NK×PV)}{xs:List (NK×Addr×Value)}(h:NKv K H ps xs):NKv K H (putN ps k q) (storedH xs k c w):=by
 unfold putN storedH
 have e:(ps.any fun kv=>decide (kv.1=k))=(atKey xs k).isSome:=by
  have e1:(ps.any fun kv=>decide (kv.1=k))=(valN ps k).isSome:=by
   unfold valN
   rw[Option.isSome_map,Bool.eq_iff_iff,List.find?_isSome,List.any_eq_true]
  rw[e1]
  cases ev:valN ps k with
  |none=>rw[(h.val k).2 ev];rfl
  |some p=>obtain⟨q',v',h1,_⟩:=(h.val k).1 p ev;rw[h1];rfl
 rw[e]
 split
 ·exact h.map dq rw'
 ·exact h.snoc hc dq rw'
theorem keep_nD{p:Addr}{o:HO}{hf:NK→Int}{xs:List (NK×Addr×Value)}(h:H p=some (nD p hf xs)):Keep K H (L2.upd H p o):=keep_mut (fun xs q=>by
 rcases q with q|⟨o',q⟩<;>(rw[h]at q;cases q)) fun o u q=>by rw[h]at q;cases q
theorem Rep.newN{G:Gp}{p:Addr}{hf:NK→Int}{xs:List (NK×Addr×Value)}{ps:List (NK×PV)}(r:Rep K H G)(h:H p=Option.none)(d:NKv K H ps xs):Rep K (L2.upd H p (nD p hf xs)) (up G p (.dN hf ps)):=by
 refine r.upd (keep_new h) (fun a o e ne=>by rw[up_ne ne]at e;exact e) fun o e=> ?_
 rw[up_same]at e;cases e
 exact⟨xs,upd_same,d.keep (keep_new h)⟩
theorem Rep.putNN{G:Gp}{p:Addr}{hf:NK→Int}{xs xs0:List (NK×Addr×Value)}{ps:List (NK×PV)}(r:Rep K H G)(h:H p=Option.some (nD p hf xs0))(d:NKv K H ps xs):Rep K (L2.upd H p (nD p hf xs)) (up G p (.dN hf ps)):=by
 refine r.upd (keep_nD h) (fun a o e ne=>by rw[up_ne ne]at e;exact e) fun o e=> ?_
 rw[up_same]at e;cases e
 exact⟨xs,upd_same,d.keep (keep_nD h)⟩
end
noncomputable abbrev eDNewN(hf:NK→Int):E2:=fun _ G Q=>∀p,G p=none→Q (.ref p) (up G p (.dN hf []))
noncomputable def setN(hf:NK→Int):Set2:=fun o i v G Q=>∃a k kvs,o= .ref a∧i=keyN k∧G a=some (.dN hf kvs)∧kvs.length<16000000∧Q (up G a (.dN hf (putN kvs k v)))
noncomputable def getN(hf:NK→Int)(x y z:PV)(G:Gp)(Q:K2):Prop:=∃a k kvs,x= .ref a∧y=keyN k∧G a=some (.dN hf kvs)∧Q ((valN kvs k).getD z) G
noncomputable def isDN(hf:NK→Int)(x:PV)(G:Gp):Prop:=∃a kvs,x= .ref a∧G a=some (.dN hf kvs)
noncomputable abbrev eGetN(hf:NK→Int)(td te tf:E2):E2:=fun τ G Q=>td τ G fun x G1=>isDN hf x G1∧te τ G1 fun y G2=>tf τ G2 fun z G3=>getN hf x y z G3 Q
section
variable{X:Cx}{d e f:Expr}{td te tf:E2}{pos apos cpos p:Pos}
theorem j_dnewN:JE X (.Dict [] [] pos) (eDNewN (hashNK X.prog X.w)):= .of pe_dnewN fun σ H Q ⟨τ,G,Q2,rs,rp,q,cl⟩ p hp=>
 cl _ _ _ _ (q p (rp.none hp)) rfl (rp.newN hp rfl) (keep_new hp)
theorem set_N(hu:X.A.units+200<cLine):PSet X (lowSet X.K (setN (hashNK X.prog X.w))):=fun pins s σ H o i v ov iv z Q I r1 r2 r3 q=>by
 obtain⟨po,pi,pv,G,Q2,d1,d2,d3,rp,⟨a,k,kvs,rfl,rfl,ga,hl,q⟩,cl⟩:=q
 obtain rfl:o= .ref a:=d1
 cases r1
 obtain⟨b,rfl,hb⟩:=keyN_D d2
 cases r2
 obtain⟨xs,hx,dx⟩:=rp a _ ga
 refine d_setN (u:=z) (v:=v) (by(first|lia|omega)) I hx dx.keys hb (by rw[dx.len,sizeLine_eq];(first|lia|omega)) fun s' I'=>⟨_,I',cl _ _ q (rp.putNN hx (dx.put hb d3 r3)) (keep_nD hx)⟩
theorem j_getN(hu:X.A.units+200<cLine)(hd:JE X d td)(he:JE X e te)(hf:JE X f tf)(m:L2.M2 X d "get" apos e f cpos:=by exact⟨rfl,rfl,rfl,rfl⟩):JE X (.Call (.Attribute d "get" apos) [e,f] [] cpos) (eGetN (hashNK X.prog X.w) td te tf):=
 .of (pe_getN (by(first|lia|omega)) hd.h he.h hf.h m) fun σ H Q hPl=>by
  obtain⟨τ,G,Q2,rs,rp,q,cl⟩:=hPl
  refine⟨τ,G,_,rs,rp,q,fun p1 G1 v1 H1 q1 d1 r1 k1=> ?_⟩
  obtain⟨⟨a,kvs,rfl,ea⟩,q1⟩:=q1
  obtain rfl:v1= .ref a:=d1
  obtain⟨xs,hx,dx⟩:=r1 a _ ea
  refine⟨a,xs,rfl,hx,τ,G1,_,rs.keep k1,r1,q1,fun p2 G2 v2 H2 q2 d2 r2 k2=>⟨τ,G2,_,rs.keep (k1.trans k2),r2,q2,fun p3 G3 v3 H3 q3 d3 r3 k3=> ?_⟩⟩
  obtain⟨a',k,kvs',ea',rfl,eg,q3⟩:=q3
  cases ea'
  obtain⟨b,rfl,hb⟩:=keyN_D (d2.keep k3)
  obtain⟨xs',hx',dx'⟩:=r3 a _ eg
  refine⟨xs',b,k,hx',dx'.keys,rfl,hb,?_⟩
  have hv:=dx'.val k
  cases ev:valN kvs' k with
  |none=>
   rw[ev]at q3
   rw[hv.2 ev]
   exact cl _ _ _ _ q3 d3 r3 ((k1.trans k2).trans k3)
  |some w=>
   rw[ev]at q3
   obtain⟨q',v',h1,dv,rv⟩:=hv.1 w ev
   rw[h1]
   exact⟨v',rv,cl _ _ _ _ q3 dv r3 ((k1.trans k2).trans k3)⟩
end
theorem setN_i{hf:NK→Int}{a:Addr}{G:Gp}{v:PV}{kvs:List (NK×PV)}{Q:Gp→Prop}(k:NK)(h:G a=some (.dN hf kvs))(hl:kvs.length<16000000)(q:Q (up G a (.dN hf (putN kvs k v)))):setN hf (.ref a) (keyN k) v G Q:=⟨a,k,kvs,rfl,rfl,h,hl,q⟩
theorem getN_i{hf:NK→Int}{a:Addr}{G:Gp}{z:PV}{kvs:List (NK×PV)}{Q:K2}(k:NK)(h:G a=some (.dN hf kvs))(q:Q ((valN kvs k).getD z) G):getN hf (.ref a) (keyN k) z G Q:=⟨a,k,kvs,rfl,rfl,h,q⟩
end L3
namespace L2
open PySem PySem.Spec PyProof.Rows
noncomputable def tTryRA(sp:Sp)(t:TA)(C:Addr)(j:Nat)(tb:TS):TS:=fun D σ H=>t σ H fun vs H1=>sp vs H1 D.rt fun _ _ H2=>(∀b xs,H1 b=some (.tup xs)→H2 b=some (.tup xs))→(∀b o u,H1 b=some (.frz o u)→H2 b=some (.frz o u))→∀x,H2 x=none→tb (D.drop j) (σ.set j (some (.ref x))) (upd H2 x (excO x C))
theorem ps_tryRA{X:Cx}{C G:Addr}{k j:Nat}{f:Addr}{fd:FuncData}{ps:List Str}{sp:Sp}{xf xc n:Str}{p pos np p1 p3 p4:Pos}{e:Expr}{es:List Expr}{t:TA}{b0:Stmt}{suite:List Stmt}{tb:TS}{env:Env}{outer:List Env}(hst:X.stack=env::outer)(henv:X.env=env)
  (F:FnOk X.prog X.w X.K X.mg X.base (CX1 X.prog X.w C) k f fd ps sp) (hr:Room k X.A) (hg:Gl X xf) (hm:X.mg xf=some (.ref f)) (hk:PySem.W.keepIn X.K (.ref f)=true) (hb:Binds X.K fd ps [])
  (q:PySem.W.excIn X.K C bmV "ValueError.__new__" =true) (qg:PySem.W.excIn X.K G bmV "ValueError.__new__" =true) (hup:excHas X.K C G=true) (hgc:Gl X xc) (hmc:X.mg xc=some (.ref G)) (hN:X.N.Nodup) (hj:X.N[j]? =some n) (hl:X.env.scope.names.lookup n=some .local)
  (ha:PA X.nox (e::es) t) (hs:∀x:Addr,PSs (X.inX (.ref x)) (b0::suite) tb) (hdb:(xf==("__debug__" :Str))=false:=by decide) (hdc:(xc==("__debug__" :Str))=false:=by decide)
  (he:starEach (e::es) X.env=(false,eval e X.env)::starEach es X.env:=by rfl) (hpl:(backTo pos (starEach es X.env)).any (·.1)=false:=by rfl):
  PS X (.Try [.Return (some (.Call (.Name xf p) (e::es) [] pos)) p1] [.ExceptHandler (some (.Name xc np)) (some n) (b0::suite) p3] [] [] p4) (tTryRA sp t C j tb):=by
 intro pins s σ H D I h
 refine wpAny_Try_except ?_
 refine wpAny_execs_cons (wpAny_Return_some ?_)
 refine wpAny_Call_Name_kw (ld_glob I hg hm ?_ hdb)
 refine PySem.W.callWith_K (h₀:=X.base) I.ok.mod.kin hk (wpAny_mono (ha pos pins s σ H _ (I.wish _) h) (fun us s1 h1=> ?_) fun _ _ z=>z.elim) he hpl
 obtain⟨vs,H1,I1,r,q1⟩:=h1
 have I2:=I1.unwish
 refine⟨I2.kIn,?_⟩
 have hl':(us++[]).length=ps.length:=by rw[List.append_nil,←r.length];exact F.len _ _ _ _ q1
 refine wpAny_call (codeAny_mono (F.run X.A X.stack s1 H1 ⟨us,[]⟩ (us++[]) vs _ _ hr I2.env0 (hb s1 us I2.kIn hl') (by rw[List.append_nil];exact r) q1) fun res s' hq=> ?_)
 cases res with
 |ok fl=>
  cases fl with
  |ret u=>
   obtain⟨v,H',I',r',q'⟩:=I2.after hq
   exact⟨v,σ,H',I',r',q'⟩
  |next=>exact False.elim hq
  |brk=>exact False.elim hq
  |cont=>exact False.elim hq
 |error ex=>
  have hq':CX1 X.prog X.w C X.stack H1 s1 (fun _ _ H2=>(∀b xs,H1 b=some (.tup xs)→H2 b=some (.tup xs))→(∀b o u,H1 b=some (.frz o u)→H2 b=some (.frz o u))→∀x,H2 x=none→tb (D.drop j) (σ.set j (some (.ref x))) (upd H2 x (excO x C))) ex s':=hq
  exact caught_as hst henv I2 hq' q qg hup hgc hmc hN hj hl (fun H' x hE tt ff hx=>hE tt ff x hx) hs hdc
end L2
namespace L3
open PySem L2 PySem.Spec PyProof.Rows
noncomputable abbrev sTryRA(sp:Sp3)(t:A2)(C:Addr)(j:Nat)(tb:S2):S2:=fun D τ G=>t τ G fun ps G1=>sp ps G1 D.rt fun G2=>∀x,G2 x=none→tb (D.drop j) (st τ j (some (.ref x))) (up G2 x (.exc C))
theorem js_tryRA{X:Cx}{C G:Addr}{k k' j:Nat}{f:Addr}{fd:FuncData}{ps:List Str}{sp:Sp3}{xf xc n:Str}{p pos np p1 p3 p4:Pos}{e:Expr}{es:List Expr}{t:A2}{b0:Stmt}{suite:List Stmt}{tb:S2}{outer:List Env}
  (Cl:CalX X.prog X.w X.K X.mg X.base C k xf f fd ps sp) (hr:Room k' X.A) (hk:k≤k') (q:PySem.W.excIn X.K C bmV "ValueError.__new__" =true) (qg:PySem.W.excIn X.K G bmV "ValueError.__new__" =true) (hup:excHas X.K C G=true) (hmc:X.mg xc=some (.ref G)) (hN:X.N.Nodup)
  (ha:JA X.nox (e::es) t) (hs:∀x:Addr,JB (X.inX (.ref x)) (b0::suite) tb) (hj:X.N[j]? =some n:=by rfl) (hl:X.env.scope.names.lookup n=some .local:=by rfl) (hst:X.stack=X.env::outer:=by rfl)
  (hg:Gl X xf:=by rfl) (hgc:Gl X xc:=by rfl) (hdb:(xf==("__debug__" :Str))=false:=by decide) (hdc:(xc==("__debug__" :Str))=false:=by decide)
  (he:starEach (e::es) X.env=(false,eval e X.env)::starEach es X.env:=by rfl) (hpl:(backTo pos (starEach es X.env)).any (·.1)=false:=by rfl):
  JS X (.Try [.Return (some (.Call (.Name xf p) (e::es) [] pos)) p1] [.ExceptHandler (some (.Name xc np)) (some n) (b0::suite) p3] [] [] p4) (sTryRA sp t C j tb):=⟨fun pins s1 σ H1 D I h=>by
 obtain⟨τ,G1,D2,rs,rp,q2,cl⟩:=h
 refine ps_tryRA (tb:=lowS X.K tb) hst rfl (Cl.ok.mono hk) hr hg Cl.m Cl.kp Cl.b q qg hup hgc hmc hN hj hl ha.h (fun x=>(hs x).h) hdb hdc he hpl pins s1 σ H1 D I ⟨τ,G1,_,rs,rp,q2,fun ps G2 vs H2 q3 d3 r3 k3=> ?_⟩
 refine⟨ps,G2,_,_,d3,r3,q3,fun v G3 v' H3 q4 d4 r4 k4=>cl.rt _ _ _ _ q4 d4 r4 (k3.trans k4),fun G3 H3 q4 r4 tt ff x hx=> ?_⟩
 have k4:Keep X.K H2 H3:=keep_un tt ff
 have k5:Keep X.K H3 (upd H3 x (excO x C)):=keep_new hx
 have k6:=(k3.trans k4).trans k5
 refine⟨_,_,D2.drop j,(rs.keep k6).set (p:= .ref x) (v:= .ref x) rfl j,r4.upd k5 (fun a o e ne=>by rw[up_ne ne]at e;exact e) (fun o e=>by rw[up_same]at e;cases e;exact upd_same),q4 x (r4.none hx),((cl.drop j).keep k6)⟩⟩
end L3
namespace T11
open PySem L2 L3
local macro_rules | `(tactic| left) => `(tactic| with_reducible conv => whnf)
local macro_rules | `(tactic| symm) => `(tactic| repeat' first
 | (show JB _ _ _; first
  | exact jb_nil
  | refine' jb_one ?_
  | refine' jb_cons ?_ ?_)
 | (show JA _ _ _; first
  | exact ja_nil
  | refine' ja_cons ?_ ?_)
 | (show JF _ _ _; first
  | exact jf_nil
  | refine' jf_one ?_)
 | (show JO _ _ _; first
  | exact jo_none
  | refine' jo_some ?_)
 | (show JS _ (.Assign [.Name _ _] _ _) _; first
  | refine' jsS 0 ?_ (by assumption)
  | refine' jsS 1 ?_ (by assumption)
  | refine' jsS 2 ?_ (by assumption)
  | refine' jsS 3 ?_ (by assumption)
  | refine' jsS 4 ?_ (by assumption)
  | refine' jsS 5 ?_ (by assumption)
  | refine' jsS 6 ?_ (by assumption)
  | refine' jsS 7 ?_ (by assumption)
  | refine' jsS 8 ?_ (by assumption)
  | refine' jsS 9 ?_ (by assumption)
  | refine' jsS 10 ?_ (by assumption)
  | refine' jsS 11 ?_ (by assumption)
  | refine' jsS 12 ?_ (by assumption)
  | refine' jsS 13 ?_ (by assumption))
 | (show JS _ (.Assign [.Attribute _ _ _] _ _) _; first
  | refine' js_fld (by assumption) (by assumption) ?_ ?_)
 | (show JS _ (.AugAssign (.Attribute _ _ _) _ _ _) _; first
  | refine' js_fldaug (by assumption) (by assumption) ?_ ?_)
 | (show JS _ (.Try _ _ _ _ _) _; first
  | refine' js_tryRA (j := 3) (by assumption) (by assumption) (by first | assumption | omega) (by assumption) (by assumption) (by assumption) (by assumption) (by assumption) ?_ (fun _ => ?_))
 | (show JS _ (.Raise _ _ _) _; first
  | refine' js_raise (by assumption) (by assumption) (by assumption) ?_)
 | (show JE _ (.Attribute _ _ _) _; first
  | refine' j_fld (by assumption) (by assumption) ?_)
 | (show JS _ (.Assign [.Subscript (.Name "known" _) _ _] _ _) _; first
  | refine' js_asg ?_ (jg_sub ?_ ?_ (set_N (by assumption))))
 | (show JS _ (.Assign [.Subscript _ _ _] _ _) _; first
  | refine' js_asg ?_ (jg_sub ?_ ?_ set_L))
 | (show JS _ (.Assign [.Tuple _ _ _] _ _) _; first
  | refine' js_asg ?_ ?_)
 | (show JS _ (.Return (some _) _) _; first
  | refine' js_ret ?_)
 | (show JS _ (.If _ _ _ _) _; first
  | refine' js_if ?_ ?_ ?_)
 | (show JS _ (.For _ _ _ [] _) _; first
  | refine' js_for PassesOwn.never rfl ?_ ?_ ?_
  | refine' js_for PassesOwn.leaving rfl ?_ ?_ ?_)
 | (show JS _ (.While _ _ [] _) _; first
  | refine' js_while PassesOwn.never ?_ ?_
  | refine' js_while PassesOwn.leaving ?_ ?_)
 | (show JS _ (.Expr _ _) _; first
  | refine' js_expr ?_)
 | (show JS _ _ _; first
  | exact js_pass)
 | (show JE _ (.Name _ _) _; first
  | exact jv 0
  | exact jv 1
  | exact jv 2
  | exact jv 3
  | exact jv 4
  | exact jv 5
  | exact jv 6
  | exact jv 7
  | exact jv 8
  | exact jv 9
  | exact jv 10
  | exact jv 11
  | exact jv 12
  | exact jv 13
  | exact j_gint (by assumption)
  | exact j_gref (by assumption)
  | exact jn_VE (by assumption))
 | (show JE _ (.Constant _ _ _) _; first
  | exact j_int
  | exact j_str
  | exact j_bl
  | exact j_non)
 | (show JE _ (.Dict [] [] _) _; first
  | exact j_dnewN)
 | (show JE _ (.BinOp _ .Add _ _) _; first
  | refine' jaE (by assumption) ?_ ?_
  | refine' jb_add ?_ ?_)
 | (show JE _ (.BinOp _ .Sub _ _) _; first
  | refine' jb_sub ?_ ?_)
 | (show JE _ (.BinOp _ .Mult _ _) _; first
  | refine' jb_mul ?_ ?_)
 | (show JE _ (.BinOp _ .Mod _ _) _; first
  | refine' jb_mod ?_ ?_)
 | (show JE _ (.BinOp _ .FloorDiv _ _) _; first
  | refine' jb_fdiv ?_ ?_)
 | (show JE _ (.BinOp _ .Pow _ _) _; first
  | refine' jb_pow ?_ ?_)
 | (show JT _ (.Compare _ [.Eq] _ _) _; first
  | refine' jt_eq (by assumption) ?_ ?_)
 | (show JE _ (.Compare _ [.Eq] _ _) _; first
  | refine' jk_eq (by assumption) ?_ ?_)
 | (show JT _ (.Compare _ [.NotEq] _ _) _; first
  | refine' jt_ne (by assumption) ?_ ?_)
 | (show JE _ (.Compare _ [.NotEq] _ _) _; first
  | refine' jk_ne (by assumption) ?_ ?_)
 | (show JT _ (.Compare _ [.Lt] _ _) _; first
  | refine' jt_lt ?_ ?_)
 | (show JT _ (.Compare _ [.Gt] _ _) _; first
  | refine' jt_gt ?_ ?_)
 | (show JT _ (.Compare _ [.GtE] _ _) _; first
  | refine' jt_ge ?_ ?_)
 | (show JT _ (.Compare _ [.In] _ _) _; first
  | refine' jt_in ?_ ?_ rfl)
 | (show JT _ (.Compare _ [.NotIn] _ _) _; first
  | refine' jt_notin ?_ ?_ rfl)
 | (show JT _ (.Compare _ [.LtE, .Lt] _ _) _; first
  | refine' jt_lelt ?_ ?_ ?_)
 | (show JT _ (.UnaryOp .Not _ _) _; first
  | refine' jt_not ?_)
 | (show JT _ (.BoolOp _ _ _) _; first
  | refine' jw_t ?_)
 | (show JW _ _ _; first
  | refine' jw_or ?_ ?_
  | refine' jw_and ?_ ?_
  | refine' jw_or1 ?_
  | refine' jw_and1 ?_)
 | (show JT _ _ _; first
  | refine' jt_val ?_)
 | (show JE _ (.UnaryOp .USub _ _) _; first
  | refine' j_un u_neg ?_)
 | (show JE _ (.BoolOp _ _ _) _; first
  | refine' j_and ?_ ?_
  | refine' j_one ?_)
 | (show JE _ (.IfExp _ _ _ _) _; first
  | refine' j_ifE ?_ ?_ ?_)
 | (show JE _ (.List _ _) _; first
  | refine' j_lst ?_)
 | (show JE _ (.Tuple _ _ _) _; first
  | refine' j_tup ?_)
 | (show JE _ (.Subscript _ (.Slice _ _ _ _) _) _; first
  | refine' jsE (by assumption) ?_ ?_ ?_
  | refine' j_slice ?_ ?_ ?_)
 | (show JE _ (.Subscript _ _ _) _; first
  | refine' j_ixS ?_ ?_)
 | (show JE _ (.Call (.Attribute _ "get" _) _ _ _) _; first
  | refine' j_getN (by assumption) ?_ ?_ ?_)
 | (show JE _ (.Call (.Name "isinstance" _) [.Name "e" _, _] _ _) _; first
  | refine' jc_isXK (by assumption) rfl (by assumption) ?_)
 | (show JE _ (.Call (.Attribute _ _ _) _ _ _) _; first
  | refine' jm_append ?_ ?_
  | refine' jm_extend ?_ ?_
  | refine' jm_join ?_ ?_
  | refine' j_metP passes1 (by assumption) (by assumption) (by assumption) (by first | assumption | omega) ?_ ?_
  | refine' j_metP (by assumption) (by assumption) (by assumption) (by assumption) (by first | assumption | omega) ?_ ?_
  | refine' j_met0 (by assumption) (by assumption) (by first | assumption | omega) ?_)
 | (show JE _ (.Call (.Name _ _) _ _ _) _; first
  | refine' j_cal (by assumption) (by assumption) (by first | assumption | omega) ?_
  | refine' j_make (by assumption) (by assumption) (by assumption) (by assumption) (by first | assumption | omega) (by assumption) ?_
  | refine' jc_len (by assumption) ?_
  | refine' jc_inst (by assumption) ?_
  | refine' jc_max (by assumption) rfl ?_
  | refine' jc_sum (by assumption) rfl ?_
  | refine' jc_sortedS (by assumption) rfl ?_
  | refine' jc_list (by assumption) rfl ?_
  | refine' jc_tuple (by assumption) ?_)
 | (show JI _ _ (.Call (.Name _ _) _ _ _) _; first
  | refine' ji_range1 (BN.range (by assumption)) ?_
  | refine' ji_range3 (BN.range (by assumption)) ?_
  | refine' ji_name ?_
  | refine' ji_list ?_)
 | (show JI _ _ _ _; first
  | refine' ji_name ?_
  | refine' ji_list ?_)
 | (show JG _ (.Name _ _) _; first
  | exact jgS 0 (by assumption)
  | exact jgS 1 (by assumption)
  | exact jgS 2 (by assumption)
  | exact jgS 3 (by assumption)
  | exact jgS 4 (by assumption)
  | exact jgS 5 (by assumption)
  | exact jgS 6 (by assumption)
  | exact jgS 7 (by assumption)
  | exact jgS 8 (by assumption)
  | exact jgS 9 (by assumption)
  | exact jgS 10 (by assumption)
  | exact jgS 11 (by assumption)
  | exact jgS 12 (by assumption)
  | exact jgS 13 (by assumption))
 | (show JG _ (.Tuple _ _ _) _; first
  | exact jgS2 0 (by assumption)
  | exact jgS2 1 (by assumption)
  | exact jgS2 2 (by assumption)
  | exact jgS2 3 (by assumption)
  | exact jgS2 4 (by assumption)
  | exact jgS2 5 (by assumption)
  | exact jgS2 6 (by assumption)
  | exact jgS2 7 (by assumption)
  | exact jgS2 8 (by assumption)
  | exact jgS2 9 (by assumption)
  | exact jgS2 10 (by assumption)
  | exact jgS2 11 (by assumption)
  | exact jgS2 12 (by assumption)))
noncomputable def cscope(names:List (Str×NameKind)):Scope:={kind:= .function,names:=names,isGenerator:=false,isCoroutine:=false,more:=[]}
theorem atI_zero{α:Type}{x:α}{xs:List α}:atI (x::xs) 0=some x:=by
 unfold atI ixN
 rw[if_pos (by decide),if_pos (by simp only[List.length_cons];(first|lia|omega))]
 rfl
section
variable{P:Program}{w:World}{K:PySem.W.Frag}{mg:Str→Option Value}{base:Heap}{f ft fl fn fp fa fi fm fo:Addr}{fd dt dl dn dp da di dm do':FuncData}
theorem lenS_i{z:Str}{G:Gp}{Q:K2}(h:z.length≤1000000)(q:Q (.int z.length) G):len2 [.str z] G Q:=⟨Nat.le_trans h (by decide),q⟩
theorem lenT_i{xs:List PV}{G:Gp}{Q:K2}(q:Q (.int xs.length) G):len2 [.tup xs] G Q:=q
end
noncomputable abbrev xPool:Stmt:=top 13
noncomputable abbrev xNext:Stmt:=top 14
noncomputable abbrev xLetters:Stmt:=top 15
noncomputable abbrev xSigns:Stmt:=top 16
noncomputable abbrev xLeaf:Stmt:=top 17
theorem pool_ne{G:Gp}{a l:Addr}(p:Pool G a)(h:G l=none):l≠a:=fun e=>by
 obtain⟨o,z⟩:=p.some
 subst e;rw[h]at z;cases z
section
variable{P:Program}{w:World}{K:PySem.W.Frag}{mg:Str→Option Value}{base:Heap}{f fn fi ft fa:Addr}{fd dn di dt da:FuncData}
theorem scPool:FnScope ["cell"] ["cell"] (defScope xPool):=⟨rfl,rfl,rfl,by decide+kernel,rfl,by decide+kernel,by decide+kernel⟩
theorem ok_pool(F:Fun K "_law_pool" "_law_pool" xPool f fd)(B:BN mg):Ok2 P w K mg base 1 f fd ["cell"] spPool:=by
 have nd:=scPool.nd
 refine fn2 F scPool (fun vs G Q h=> ?_) (fun cdv A outer s H E as G Q hr h=> ?_)
 ·obtain⟨p,rfl,_⟩:=h
  rfl
 have hU:=u200 hr
 apply ex2
 case a=>symm
 obtain⟨c,rfl,q⟩:=h
 have cp:CPow 10 18:=⟨by decide,by decide,by decide⟩
 refine⟨cp,cp,(by decide:(0:Int)<10^18),lek,fun a ha=>⟨_,GE.refl,q a _ ha ⟨_,_,0,up_same,?_⟩ (Ch.refl.put (by simp))⟩⟩
 show(0:Int)≤if c-10^18>0 then c-10^18 else 0
 split<;>(first|lia|omega)
theorem scNext:FnScope ["pool", "base", "digit", "near", "stir"] ["pool", "base"] (defScope xNext):=⟨rfl,rfl,rfl,by decide+kernel,rfl,by decide+kernel,by decide+kernel⟩
theorem ok_next(F:Fun K "_law_next" "_law_next" xNext f fd)(B:BN mg):Ok2 P w K mg base 1 f fd ["pool", "base"] spNext:=by
 have nd:=scNext.nd
 refine fn2 F scNext (fun vs G Q h=> ?_) (fun cdv A outer s H E as G Q hr h=> ?_)
 ·obtain⟨a,b,rfl,_⟩:=h
  rfl
 have hU:=u200 hr
 apply ex2
 case a=>symm
 obtain⟨a,b,rfl,⟨x,y,z,ga,hx⟩,b1,b2,q⟩:=h
 left
 refine ixL_i (lk_lst ga) rfl ?_
 refine ifB (fun hp=> ?_) (fun hp=> ?_)
 ·left
  refine ixL_i (i:=0) (lk_lst ga) rfl ?_
  refine⟨by(first|lia|omega),?_⟩
  left
  refine ixL_i (i:=0) (lk_lst ga) rfl ?_
  refine⟨⟨by(first|lia|omega),Int.le_trans b2 (by decide)⟩,?_⟩
  left
  refine setL_i (k:=0) ga rfl ?_
  exact⟨_,GE.refl,q _ _ (Int.emod_nonneg _ (by(first|lia|omega))) (Int.emod_lt_of_pos _ (by(first|lia|omega))) ⟨x/b,y,z,up_same,Int.ediv_nonneg hx (by(first|lia|omega))⟩ (Ch.refl.put (by simp))⟩
 ·left
  refine ixL_i (i:=2) (lk_lst ga) rfl ?_
  left
  refine setL_i (k:=2) ga rfl ?_
  left
  refine ixL_i (i:=1) (lk_lst up_same) rfl ?_
  left
  refine ixL_i (i:=2) (lk_lst up_same) rfl ?_
  refine⟨.inl ⟨by decide,by decide⟩,(by decide:(0:Int)<1000000007),?_⟩
  have n0:0≤(y+7919*(z+1))%1000000007:=Int.emod_nonneg _ (by decide)
  have n1:(y+7919*(z+1))%1000000007<1000000007:=Int.emod_lt_of_pos _ (by decide)
  refine⟨.inl ⟨?_,?_⟩,(by decide:(0:Int)<998244353),?_⟩
  ·show-(2^64)<(y+7919*(z+1))%1000000007+11
   (first|lia|omega)
  ·show(y+7919*(z+1))%1000000007+11<2^64
   (first|lia|omega)
  generalize ((y+7919*(z+1))%1000000007+11)*((y+7919*(z+1))%1000000007+48271)=k
  have s0:0≤k%998244353:=Int.emod_nonneg _ (by decide)
  have s1:k%998244353<998244353:=Int.emod_lt_of_pos _ (by decide)
  refine⟨.inl ⟨?_,?_⟩,(by decide:(0:Int)<2147483647),⟨by decide,by decide⟩,(by(first|lia|omega):0<b),?_⟩
  ·show-(2^64)<k%998244353
   (first|lia|omega)
  ·show k%998244353<2^64
   (first|lia|omega)
  exact⟨_,GE.refl,q _ _ (Int.emod_nonneg _ (by(first|lia|omega))) (Int.emod_lt_of_pos _ (by(first|lia|omega))) ⟨x,y,z+1,up_same,hx⟩ (Ch.refl.put (by simp))⟩
theorem scSigns:FnScope ["pool", "letters", "some"] ["pool", "letters"] (defScope xSigns):=⟨rfl,rfl,rfl,by decide+kernel,rfl,by decide+kernel,by decide+kernel⟩
theorem csSigns:compOkB (defScope xSigns) ["pool", "letters", "some"] (cscope [(".0",.local),("sign",.local),("_law_next",.globalImplicit),("pool",.free)]) ["sign", "pool"] [none,some 0] 0 "sign" =true:=by decide+kernel
noncomputable def spSigns:Sp2:=fun ps G Q=>∃(a:Addr) (z:Str),ps=[.ref a,.str z]∧Pool G a∧1≤z.length∧z.length≤6∧oS z∧∀s G',1≤s.length→s.length≤6→oS s→Pool G' a→Ch [a] G G'→Q (enc (.sign s)) G'
theorem ok_signs(F:Fun K "_law_signs" "_law_signs" xSigns f fd)(B:BN mg)(C:Cal2 P w K mg base 1 "_law_next" fn dn ["pool", "base"] spNext):Ok2 P w K mg base 2 f fd ["pool", "letters"] spSigns:=by
 have nd:=scSigns.nd
 refine fn2 F scSigns (fun vs G Q h=> ?_) (fun cdv A outer s H E as G Q hr h=> ?_)
 ·obtain⟨_,_,rfl,_⟩:=h
  rfl
 have hU:=u200 hr
 apply ex2
 case a=>
  symm
  all_goals try (refine' js_comp (n:=2) (ix:=[none,some 0]) (j:=0) nd rfl rfl csSigns rfl ?_ (fun C s H fp=>⟨?_,?_⟩))
  all_goals symm
 obtain⟨a,z,rfl,p1,z1,z6,zs,q⟩:=h
 have c1:Ch [a] G G:=Ch.refl
 left
 intro acc hacc
 have hla:acc≠a:=fun e=>by subst e;obtain⟨o,eo⟩:=p1.some;rw[eo]at hacc;cases hacc
 have fin:∀(y:Addr) (cs:List Nat) G2 τ,gt τ 2=some (.ref y)→cs≠[]→cs.Sublist z.cps.toList→G2 y=some (.lst (cs.map fun c=> .str (oneS c)))→Pool G2 a→Ch [a] G G2→
   (sRet (eTup (aCons (eC (PV.str "sign")) (aCons (eMtS join2 (eC (PV.str "")) (aCons (eV 2) aNil)) aNil)))) {nx:=fun x G'=>∃G0,GE G0 G'∧Q PV.non G0,rt:=fun p G'=>∃G0,GE G0 G'∧Q p G0} τ G2:=by
  intro y cs G2 τ ht hne hsub gy hp2 hc2
  have hl:cs.length≤6:=Nat.le_trans hsub.length_le (by rw[Array.length_toList];exact z6)
  left
  rw[ht]
  left
  refine joinL_i (zs:=cs.map oneS) (by rw[List.map_map];exact lk_lst gy) (by rw[sum_ones,List.length_map];show cs.length+cs.length*0≤_;(first|lia|omega)) ?_
  left
  have hle:(Txt.join (Str.ofString "") (cs.map oneS)).length=cs.length:=by
   rw[←join_chars cs,Array.length_toList];rw[join_chars];rfl
  refine⟨lek,G2,GE.refl,q _ G2 ?_ ?_ ?_ hp2 hc2⟩
  ·rw[hle];exact List.length_pos_iff.mpr hne
  ·rw[hle];exact hl
  ·intro c hc
   rw[join_chars cs]at hc
   exact zs c (hsub.subset hc)
 refine⟨fun i ys G2=>∃cs:List Nat,ys=cs.map (fun c=> .str (oneS c))∧cs.Sublist (z.cps.toList.take i)∧G2 acc=some (.lst ys)∧Pool G2 a∧Ch [a] G G2,⟨[],rfl,List.nil_sublist _,up_same,p1.new hacc,Ch.refl.new hacc⟩,?_,?_,?_⟩
 ·rintro i ys G2 hi ⟨cs,rfl,hs,ga,_,_⟩
  refine⟨trivial,ga,?_⟩
  have h1:=hs.length_le
  rw[List.length_take]at h1
  have h2:z.cps.toList.length≤6:=by rw[Array.length_toList];exact z6
  rw[List.length_map];(first|lia|omega)
 ·rintro i ys G2 x hx ⟨cs,rfl,hs,ga,hp2,hc2⟩
  obtain⟨c,hc,rfl⟩:=signs_at hx
  have tk:z.cps.toList.take (i+1)=z.cps.toList.take i++[c]:=by rw[List.take_add_one,hc];rfl
  left
  refine⟨a,2,rfl,hp2,by decide,by decide,fun m G3 m0 m1 p3 c3=> ?_⟩
  have ga3:G3 acc=_:=c3 acc _ (by simpa using hla) ga
  left
  refine⟨rfl,rfl,?_⟩
  left
  refine ifB (fun _=> ?_) (fun _=> ?_)
  ·left
   refine⟨ga3,cs++[c],by simp,?_,up_same,p3.ne hla,(hc2.trans c3).mod' hacc⟩
   rw[tk];exact hs.append_right _|>.trans (List.Sublist.refl _)
  ·refine⟨cs,rfl,?_,ga3,p3,hc2.trans c3⟩
   rw[tk];exact hs.trans (List.sublist_append_left _ _)
 ·rintro ys G2 ⟨cs,rfl,hs,ga,hp2,hc2⟩
  have hs':cs.Sublist z.cps.toList:=by
   have hl:(signsP z).length=z.cps.toList.length:=by unfold signsP;rw[List.length_map]
   rwa [hl,List.take_length]at hs
  left
  refine⟨lek,fun l hl=> ?_⟩
  left
  have lal:acc≠l:=ne_none ga hl
  refine eqL_i (xs:=cs.map fun c=> .str (oneS c)) (ys:=[]) (lk_lst (by rw[up_ne lal];exact ga)) lk_up ?_ rfl ?_
  ·exact pure_strs cs
  left
  cases cs with
  |nil=>
   refine ifT rfl ?_
   left
   refine⟨by(first|lia|omega),?_⟩
   refine⟨a,z.length,rfl,hp2.new hl,by(first|lia|omega),by(first|lia|omega),fun m G3 m0 m1 p3 c3=> ?_⟩
   obtain⟨c,ec,mc⟩:=atI_of (xs:=z.cps.toList) m0 (by rw[Array.length_toList];exact m1)
   left
   refine ixS_i (by(first|lia|omega)) ec ?_
   left
   refine⟨lek,fun l2 hl2=> ?_⟩
   exact fin l2 [c] _ [some (.ref a),some (.str z),some (.ref l2)] rfl (by simp) (List.singleton_sublist.mpr mc) up_same (p3.new hl2) ((((c1.trans hc2).new hl).trans c3).new hl2)
  |cons c cs=>
   refine ifF rfl ?_
   exact fin acc (c::cs) _ [some (.ref a),some (.str z),some (.ref acc)] rfl (by simp) hs' (by rw[up_ne lal];exact ga) (hp2.new hl) ((c1.trans hc2).new hl)
theorem scLeaf:FnScope ["pool", "letters", "blank"] ["pool", "letters", "blank"] (defScope xLeaf):=⟨rfl,rfl,rfl,by decide+kernel,rfl,by decide+kernel,by decide+kernel⟩
noncomputable def spLeaf:Sp2:=fun ps G Q=>∃(a:Addr) (z:Str) (b:Bool),ps=[.ref a,.str z,.bl b]∧Pool G a∧1≤z.length∧z.length≤6∧oS z∧
 ∀p G',wq p→inner p=[]→(canB p=true→b=true)→Pool G' a→Ch [a] G G'→Q (enc p) G'
theorem ok_leaf(F:Fun K "_law_leaf" "_law_leaf" xLeaf f fd)(B:BN mg)(C:Cal2 P w K mg base 1 "_law_next" fn dn ["pool", "base"] spNext)(CS:Cal2 P w K mg base 2 "_law_signs" ft dt ["pool", "letters"] spSigns):Ok2 P w K mg base 3 f fd ["pool", "letters", "blank"] spLeaf:=by
 have nd:=scLeaf.nd
 refine fn2 F scLeaf (fun vs G Q h=> ?_) (fun cdv A outer s H E as G Q hr h=> ?_)
 ·obtain⟨_,_,_,rfl,_⟩:=h
  rfl
 have hU:=u200 hr
 apply ex2
 case a=>symm
 obtain⟨a,z,b,rfl,hp,z1,z6,zs,q⟩:=h
 left
 cases b with
 |false=>
  refine ifF rfl ?_
  left
  refine⟨a,z,rfl,hp,z1,z6,zs,fun s G1 s1 s6 ss p1 c1=> ?_⟩
  exact⟨_,GE.refl,q (.sign s) G1 ⟨s1,s6,ss⟩ rfl (fun h=>nomatch h) p1 c1⟩
 |true=>
  refine ifT rfl ?_
  left
  refine⟨a,6,rfl,hp,by decide,by decide,fun n G1 n0 n6 p1 c1=> ?_⟩
  left
  refine eqP_i rfl rfl ?_
  refine ifB (fun _=> ?_) (fun _=> ?_)
  ·left
   refine⟨lek,?_⟩
   left
   refine⟨lek,?_⟩
   left
   refine⟨lek,?_⟩
   left
   refine⟨lek,?_⟩
   left
   refine⟨lek,fun l hl=> ?_⟩
   have nl:=pool_ne p1 hl
   left
   refine⟨a,4,rfl,p1.new hl,by decide,by decide,fun m G2 m0 m4 p2 c2=> ?_⟩
   have e:∃p:Pt,atI [PV.tup [PV.str "blank"],PV.tup [PV.str "blank"],PV.tup [PV.str "blank"],PV.tup [PV.str "none"]] m=some (enc p)∧wq p∧inner p=[]:=by
    have:m=0∨m=1∨m=2∨m=3:=by(first|lia|omega)
    rcases this with rfl|rfl|rfl|rfl
    ·exact⟨.blank,rfl,trivial,rfl⟩
    ·exact⟨.blank,rfl,trivial,rfl⟩
    ·exact⟨.blank,rfl,trivial,rfl⟩
    ·exact⟨.none,rfl,trivial,rfl⟩
   obtain⟨p,ep,w1,w2⟩:=e
   left
   refine ixL_i (lk_lst (c2 l _ (by simpa using nl) up_same)) ep ?_
   exact⟨_,GE.refl,q p G2 w1 w2 (fun _=>rfl) p2 ((c1.new hl).trans c2)⟩
  ·left
   refine⟨a,z,rfl,p1,z1,z6,zs,fun s G2 s1 s6 ss p2 c2=> ?_⟩
   exact⟨_,GE.refl,q (.sign s) G2 ⟨s1,s6,ss⟩ rfl (fun h=>nomatch h) p2 (c1.trans c2)⟩
end
noncomputable abbrev xInside:Stmt:=top 20
noncomputable abbrev xSize:Stmt:=top 21
theorem occ_nil:∀c∈(Str.ofString "abc []\\|~x.0").cps.toList,(Builtin.Str.occurrences (Str.ofString "") ⟨#[c]⟩ 0 (Str.ofString "").length 1).isEmpty=true:=by decide+kernel
theorem ints_at{lo:Int}{n i:Nat}{x:PV}(h:(intsP lo n)[i]? =some x):i<n∧x= .int (lo+i):=by
 unfold intsP at h
 rw[List.getElem?_map]at h
 cases e:(List.range n)[i]? with
 |none=>rw[e]at h;cases h
 |some j=>
  rw[e]at h
  have hi:i<n:=by
   have:=(List.getElem?_eq_some_iff.mp e).1
   simpa using this
  rw[List.getElem?_range hi]at e
  cases e
  cases h
  exact⟨hi,rfl⟩
theorem ints_len(lo:Int)(n:Nat):(intsP lo n).length=n:=by unfold intsP;simp
theorem join_len(cs:List Nat):(Txt.join (Str.ofString "") (cs.map oneS)).length=cs.length:=by
 rw[←join_chars cs,Array.length_toList];rw[join_chars];rfl
theorem encs_at'{ps:List Pt}{i:Nat}{x:PV}(h:(encs ps)[i]? =some x):∃c,ps[i]? =some c∧x=enc c:=by
 rw[encs_map,List.getElem?_map]at h
 cases e:ps[i]? with
 |none=>rw[e]at h;cases h
 |some c=>rw[e]at h;exact⟨c,rfl,(Option.some.inj h).symm⟩
theorem cGo_encs{cs:List Pt}{c:Gp→Prop}{ix:List (Option Nat)}{j:Nat}{τ:St2}{te:E2}{Q:K2}{G1:Gp}{acc:Addr}(g:Pt→PV)(hz:cs.length<1000000)
  (hc:∀ys,c (up G1 acc (.lst ys))) (he:∀x ys (R:K2),x∈cs→R (g x) (up G1 acc (.lst ys))→te (L3.st (cap2 ix τ) j (some (enc x))) (up G1 acc (.lst ys)) R)
  (hq:Q (.ref acc) (up G1 acc (.lst (cs.map g)))):cGo (encs cs) c ix j τ tYes2 te Q G1 acc:=by
 refine⟨fun i ys G=>ys=(cs.take i).map g∧G=up G1 acc (.lst ys),⟨by simp,rfl⟩,?_,?_,?_⟩
 ·rintro i ys G hi ⟨rfl,rfl⟩
  refine⟨hc _,up_same,?_⟩
  rw[List.length_map,List.length_take]
  (first|lia|omega)
 ·rintro i ys G x hx ⟨rfl,rfl⟩
  obtain⟨d,hd,rfl⟩:=encs_at' hx
  have tk:cs.take (i+1)=cs.take i++[d]:=by rw[List.take_add_one,hd];rfl
  refine ifT rfl ?_
  refine he d _ _ (List.mem_of_getElem? hd) ⟨up_same,?_,up_up⟩
  rw[tk,List.map_append]
  rfl
 ·rintro ys G ⟨rfl,rfl⟩
  rw[encs_length,List.take_length]
  exact hq
theorem oS_nil:oS (Str.ofString ""):=fun c hc=>by cases (show c∈([]:List Nat)from hc)
theorem oS_snoc{z:Str}{c:Nat}(h:oS z)(hc:c∈(Str.ofString "abc []\\|~x.0").cps.toList):oS (z++(⟨#[c]⟩:Str)):=fun d hd=>by
 have hd':d∈(z.cps++ #[c]).toList:=hd
 rw[Array.toList_append]at hd'
 rcases List.mem_append.mp hd' with h1|h1
 ·exact h d h1
 ·cases List.mem_singleton.mp h1;exact hc
section
variable{P:Program}{w:World}{K:PySem.W.Frag}{mg:Str→Option Value}{base:Heap}{f fn fi ft fa:Addr}{fd dn di dt da:FuncData}
theorem scLetters:FnScope ["pool", "found", "k", "sign"] ["pool"] (defScope xLetters):=⟨rfl,rfl,rfl,by decide+kernel,rfl,by decide+kernel,by decide+kernel⟩
noncomputable def spLetters:Sp2:=fun ps G Q=>∃(a:Addr),ps=[.ref a]∧Pool G a∧∀(z:Str) G',1≤z.length→z.length≤6→oS z→Pool G' a→Ch [a] G G'→Q (.str z) G'
theorem ok_letters(F:Fun K "_law_letters" "_law_letters" xLetters f fd)(B:BN mg)(C:Cal2 P w K mg base 1 "_law_next" fn dn ["pool", "base"] spNext):Ok2 P w K mg base 2 f fd ["pool"] spLetters:=by
 have nd:=scLetters.nd
 refine fn2 F scLetters (fun vs G Q h=> ?_) (fun cdv A outer s H E as G Q hr h=> ?_)
 ·obtain⟨p,rfl,_⟩:=h
  rfl
 have hU:=u200 hr
 apply ex2
 case a=>symm
 obtain⟨a,rfl,hp,q⟩:=h
 left
 refine⟨a,2,rfl,hp,by decide,by decide,fun n G1 n0 n2 p1 c1=> ?_⟩
 left
 refine⟨by(first|lia|omega),by(first|lia|omega),fun i τ G2=>∃(z:Str) (t2 t3:Option PV),τ=[some (.ref a),some (.str z),t2,t3]∧z.length≤i∧(1≤i→1≤z.length)∧(i=0→z=Str.ofString "")∧oS z∧Pool G2 a∧Ch [a] G G2,⟨_,_,_,rfl,by decide,fun h=>by(first|lia|omega),fun _=>rfl,oS_nil,p1,c1⟩,fun _ _ _ _ _=>trivial,?_,?_⟩
 ·rintro i x τ G2 hx ⟨z,t2,t3,rfl,z1,z2,z3,zs,p2,c2⟩
  obtain⟨hi,rfl⟩:=ints_at hx
  have hi3:i<3:=by(first|lia|omega)
  left
  refine⟨a,12,rfl,p2,by decide,by decide,fun m G3 m0 m12 p3 c3=> ?_⟩
  left
  refine⟨.inl ⟨by decide,by decide⟩,?_⟩
  left
  refine⟨(by decide:(0:Int)<12),?_⟩
  have r0:0≤(m+5*(0+(i:Int)))%12:=Int.emod_nonneg _ (by decide)
  have r1:(m+5*(0+(i:Int)))%12<12:=Int.emod_lt_of_pos _ (by decide)
  obtain⟨c,ec,hcm⟩:=atI_of (xs:=(Str.ofString "abc []\\|~x.0").cps.toList) r0 r1
  left
  refine ixS_i (by decide) ec ?_
  left
  refine ifB (fun hn=> ?_) (fun hn=> ?_)
  ·left
   refine⟨by show z.length+1≤_;(first|lia|omega),?_⟩
   have el:(z++(⟨#[c]⟩:Str)).length=z.length+1:=by
    show(z.cps++ #[c]).size=_
    rw[Array.size_append];rfl
   exact⟨_,_,_,rfl,by rw[el];(first|lia|omega),fun _=>by rw[el];(first|lia|omega),fun h=>by(first|lia|omega),oS_snoc zs hcm,p3,c2.trans c3⟩
  ·refine⟨_,_,_,rfl,by(first|lia|omega),fun _=> ?_,fun h=>by(first|lia|omega),zs,p3,c2.trans c3⟩
   by_cases h0:i=0
   ·have e:=z3 h0
    subst e
    exact absurd hn (by rw[show(Builtin.Str.occurrences (Str.ofString "") ⟨#[c]⟩ 0 (Str.ofString "").length 1).isEmpty=true from occ_nil c hcm];decide)
   ·exact z2 (by(first|lia|omega))
 ·rintro τ G2 ⟨z,t2,t3,rfl,z1,z2,z3,zs,p2,c2⟩
  rw[ints_len]at z1 z2
  have h1:=z2 (by(first|lia|omega))
  left
  refine⟨by(first|lia|omega),fun cs l hperm hl=> ?_⟩
  have hcl:cs.length=z.length:=by rw[hperm.length_eq,Array.length_toList];rfl
  left
  refine joinL_i (zs:=cs.map oneS) (lk_lst (by rw[up_same,List.map_map];rfl)) (by rw[sum_ones,List.length_map];show cs.length+cs.length*0≤_;(first|lia|omega)) ?_
  refine⟨_,GE.refl,q _ _ (by rw[join_len];(first|lia|omega)) (by rw[join_len];(first|lia|omega)) (fun c hc=>by rw[join_chars cs]at hc;exact zs c (hperm.mem_iff.mp hc)) (p2.new hl) (c2.new hl)⟩
theorem scInside:FnScope ["pattern"] ["pattern"] (defScope xInside):=⟨rfl,rfl,rfl,by decide+kernel,rfl,by decide+kernel,by decide+kernel⟩
noncomputable def spInside:Sp2:=fun ps G Q=>∃p,ps=[enc p]∧∀c,G c=none→Q (.ref c) (up G c (.lst (encs (inner p))))
theorem ok_inside(F:Fun K "_law_inside" "_law_inside" xInside f fd)(B:BN mg):Ok2 P w K mg base 1 f fd ["pattern"] spInside:=by
 have nd:=scInside.nd
 refine fn2 F scInside (fun vs G Q h=> ?_) (fun cdv A outer s H E as G Q hr h=> ?_)
 ·obtain⟨_,rfl,_⟩:=h
  rfl
 have hU:=u200 hr
 apply ex2
 case a=>symm
 obtain⟨p,rfl,q⟩:=h
 cases p with
 |row ps=>
  refine⟨lek,rfl,rfl,fun c hc=>⟨_,GE.refl,q c hc⟩⟩
 |pick ps=>
  refine⟨lek,rfl,rfl,fun c hc=>⟨_,GE.refl,q c hc⟩⟩
 |_=>exact⟨lek,rfl,rfl,lek,rfl,rfl,lek,fun c hc=>⟨_,GE.refl,q c hc⟩⟩
theorem scSize:FnScope ["pattern"] ["pattern"] (defScope xSize):=⟨rfl,rfl,rfl,by decide+kernel,rfl,by decide+kernel,by decide+kernel⟩
theorem csSize:compOkB (defScope xSize) ["pattern"] (cscope [(".0",.local),("part",.local),("_law_size",.globalImplicit)]) ["part"] [none] 0 "part" =true:=by decide+kernel
noncomputable def spSize(n:Nat):Sp2:=fun ps G Q=>∃p:Pt,ps=[enc p]∧depth p<n∧size p≤10000∧Q (.int (size p:Nat)) G
theorem sizes_sum:∀ps:List Pt,(ps.map fun p=>((size p:Nat):Int)).sum=((sizes ps:Nat):Int)
 |[]=>rfl
 |p::ps=>by rw[List.map_cons,List.sum_cons,sizes_sum ps];simp only[sizes];(first|lia|omega)
theorem ok_size{n k:Nat}(hk:1≤k)(F:Fun K "_law_size" "_law_size" xSize f fd)(B:BN mg)(CI:Cal2 P w K mg base 1 "_law_inside" fi di ["pattern"] spInside)(C:Cal2 P w K mg base k "_law_size" fa da ["pattern"] (spSize n)):
  Ok2 P w K mg base (k+1) f fd ["pattern"] (spSize (n+1)):=by
 have nd:=scSize.nd
 refine fn2 F scSize (fun vs G Q h=> ?_) (fun cdv A outer s H E as G Q hr h=> ?_)
 ·obtain⟨p,rfl,_⟩:=h
  rfl
 have hU:=u200 hr
 apply ex2
 case a=>
  symm
  all_goals try (refine' j_comp csSize rfl ?_ fun _ _ _ _=>⟨?_,?_⟩)
  all_goals symm
 obtain⟨p,rfl,hd,hz,q⟩:=h
 have hdi:=size_depth_inner p
 have hsi:=size_inner p
 left
 refine⟨p,rfl,fun l hl=> ?_⟩
 left
 rw[lk_up]
 left
 intro acc hacc
 have nla:=ne_none (G:=up G l (.lst (encs (inner p)))) up_same hacc
 refine cGo_encs (fun c=> .int (size c:Nat)) ?_ (fun ys=> ?_) (fun x ys R hx r=> ?_) ?_
 ·have:=length_le_sizes (inner p);(first|lia|omega)
 ·exact lk_lst (by rw[up_ne nla,up_same])
 ·have:=depth_mem hx
  have:=size_mem hx
  exact⟨x,rfl,by(first|lia|omega),by(first|lia|omega),r⟩
 left
 refine sumL_i (ns:=(inner p).map fun c=>((size c:Nat):Int)) (lk_lst (by rw[up_same,List.map_map];rfl)) ?_
 rw[sizes_sum]
 left
 refine⟨G,(GE.refl.new hl).new hacc,?_⟩
 rw[show(1:Int)+((sizes (inner p):Nat):Int)=((size p:Nat):Int)by(first|lia|omega)]
 exact q
end
noncomputable abbrev xParts:Stmt:=top 18
noncomputable abbrev xPattern:Stmt:=top 19
noncomputable abbrev xDrawn:Stmt:=top 22
noncomputable def bnd:Nat→Nat
 |0=>1
 |d+1=>1+6*bnd d
theorem bnd_pos:∀d,1≤bnd d
 |0=>by simp[bnd]
 |d+1=>by simp[bnd]
theorem leaf_one{p:Pt}(h:inner p=[]):depth p=1∧size p=1:=by
 have h1:=size_depth_inner p
 have h2:=size_inner p
 rw[h]at h1 h2
 simp only[depths,sizes]at h1 h2
 (first|lia|omega)
section
variable{P:Program}{w:World}{K:PySem.W.Frag}{mg:Str→Option Value}{base:Heap}{f fn fi ft fa fq fp fl:Addr}{fd dn di dt da dq dp dl:FuncData}
noncomputable def spPattern(n:Nat):Sp2:=fun ps G Q=>∃(a r:Addr) (z:Str) (d:Nat) (m:Int) (b:Bool),ps=[.ref a,.str z,.int d,.ref r,.bl b]∧(1≤d∧d<n)∧Pool G a∧G r=some (.lst [.int m])∧a≠r∧1≤z.length∧z.length≤6∧oS z∧
 ∀p G' m',wq p→depth p≤d→size p≤bnd d→(canB p=true→b=true)→Pool G' a→G' r=some (.lst [.int m'])→Ch [a,r] G G'→Q (enc p) G'
noncomputable def spParts(n:Nat):Sp2:=fun ps G Q=>∃(a r:Addr) (z:Str) (d:Nat) (m h:Int),ps=[.ref a,.str z,.int d,.ref r,.int h]∧(2≤d∧d≤n)∧Pool G a∧G r=some (.lst [.int m])∧a≠r∧1≤z.length∧z.length≤6∧oS z∧
 ∀qs G' m',wqs qs→2≤qs.length→qs.length≤6→depths qs≤d-1→sizes qs≤6*bnd (d-1)→(0≤h→h≤1→allB qs=false)→Pool G' a→G' r=some (.lst [.int m'])→Ch [a,r] G G'→Q (.tup (encs qs)) G'
theorem scParts:FnScope ["pool", "letters", "deep", "room", "hard", "found", "k"] ["pool", "letters", "deep", "room", "hard"] (defScope xParts):=⟨rfl,rfl,rfl,by decide+kernel,rfl,by decide+kernel,by decide+kernel⟩
theorem ok_parts{n k:Nat}(hk:1≤k)(F:Fun K "_law_parts" "_law_parts" xParts f fd)(B:BN mg)(CN:Cal2 P w K mg base 1 "_law_next" fn dn ["pool", "base"] spNext)(C:Cal2 P w K mg base k "_law_pattern" fp dp ["pool", "letters", "deep", "room", "blank"] (spPattern n)):Ok2 P w K mg base (k+1) f fd ["pool", "letters", "deep", "room", "hard"] (spParts n):=by
 have nd:=scParts.nd
 refine fn2 F scParts (fun vs G Q h=> ?_) (fun cdv A outer s H E as G Q hr h=> ?_)
 ·obtain⟨_,_,_,_,_,_,rfl,_⟩:=h
  rfl
 have hU:=u200 hr
 apply ex2
 case a=>symm
 obtain⟨a,r,z,d,m,h,rfl,⟨d2,dn'⟩,hp,gr,har,z1,z6,zs,q⟩:=h
 left
 refine⟨lek,fun lf hlf=> ?_⟩
 have nla:=pool_ne hp hlf
 have nlr:lf≠r:=Ne.symm (ne_none gr hlf)
 left
 refine⟨lek,fun l hl=> ?_⟩
 have p0:=(hp.new (o:= .lst []) hlf).new (o:= .lst [PV.int 2,.int 3,.int 2,.int 3,.int 4,.int 6]) hl
 have nl2:=pool_ne (hp.new (o:= .lst []) hlf) hl
 obtain⟨nllf,hl'⟩:=up_none hl
 have nlr2:l≠r:=Ne.symm (ne_none gr hl')
 left
 refine⟨a,6,rfl,p0,by decide,by decide,fun n1 G1 n10 n16 p1 c1=> ?_⟩
 obtain⟨ct,ec,ct2,ct6⟩:∃ct:Int,atI [PV.int 2,.int 3,.int 2,.int 3,.int 4,.int 6] n1=some (.int ct)∧2≤ct∧ct≤6:=by
  have:n1=0∨n1=1∨n1=2∨n1=3∨n1=4∨n1=5:=by(first|lia|omega)
  rcases this with rfl|rfl|rfl|rfl|rfl|rfl
  ·exact⟨2,rfl,by decide,by decide⟩
  ·exact⟨3,rfl,by decide,by decide⟩
  ·exact⟨2,rfl,by decide,by decide⟩
  ·exact⟨3,rfl,by decide,by decide⟩
  ·exact⟨4,rfl,by decide,by decide⟩
  ·exact⟨6,rfl,by decide,by decide⟩
 have gl1:=c1 l _ (by simpa using nl2) up_same
 have glf1:=c1 lf _ (by simpa using nla) (by rw[up_ne (Ne.symm nllf),up_same])
 have gr1:=c1 r _ (by simpa using Ne.symm har) (by rw[up_ne (Ne.symm nlr2),up_ne (Ne.symm nlr)];exact gr)
 have k1:Ch [a,r] G G1:=(((Ch.refl.new hlf).new hl).trans (c1.mono (by simp)))
 left
 refine ixL_i (lk_lst gl1) ec ?_
 left
 refine⟨by(first|lia|omega),by(first|lia|omega),fun i τ G2=>∃(qs:List Pt) (m':Int) (z6:Option PV),τ=[some (.ref a),some (.str z),some (.int d),some (.ref r),some (.int h),some (.ref lf),z6]∧G2 lf=some (.lst (encs qs))∧qs.length=i∧(∀c∈qs,wq c∧depth c≤d-1)∧sizes qs≤i*bnd (d-1)∧(0≤h→h<i→allB qs=false)∧Pool G2 a∧G2 r=some (.lst [.int m'])∧Ch [a,r] G G2,
  ⟨[],m,_,rfl,glf1,rfl,by simp,by simp[sizes],fun _ h2=>by(first|lia|omega),p1,gr1,k1⟩,fun _ _ _ _ _=>trivial,?_,?_⟩
 ·rintro i x τ G2 hx ⟨qs,m',z6',rfl,g2,hq,hok,hsz,hB,p2,gr2,c2⟩
  obtain⟨hi,rfl⟩:=ints_at hx
  have hi6:i<6:=by(first|lia|omega)
  left
  refine⟨⟨_,g2⟩,?_⟩
  left
  refine neP_i rfl rfl ?_
  left
  refine⟨a,r,z,d-1,m',!(deq (.int (0+i)) (.int h)),by rw[show((d-1:Nat):Int)=(d:Int)-1 by(first|lia|omega)],by(first|lia|omega),p2,gr2,har,z1,by(first|lia|omega),zs,fun p G3 m3 w3 d3 s3 b3 p3 g3 c3=> ?_⟩
  have glf3:=c3 lf _ (by simp[nla,nlr]) g2
  left
  refine append_i glf3 (by rw[encs_length];(first|lia|omega)) ?_
  refine⟨qs++[p],m3,_,rfl,by rw[up_same,encs_append];rfl,by rw[List.length_append,hq];rfl,?_,?_,?_,p3.ne nla,by rw[up_ne (Ne.symm nlr)];exact g3,(c2.trans c3).mod' hlf⟩
  ·intro c hc
   rcases List.mem_append.mp hc with hc|hc
   ·exact hok c hc
   ·cases List.mem_singleton.mp hc;exact⟨w3,d3⟩
  ·rw[sizes_append,Nat.succ_mul]
   simp only[sizes]
   (first|lia|omega)
  ·intro h0 hi1
   rw[allB_append]
   by_cases he:h=i
   ·have:canB p=false:=by
     cases hc:canB p with
     |false=>rfl
     |true=>
      have:=b3 hc
      subst he
      rw[show(0:Int)+(i:Int)=(i:Int)by(first|lia|omega)]at this
      have e2:(!((i:Int)==(i:Int)))=true:=this
      simp at e2
    simp[allB,this]
   ·rw[hB h0 (by(first|lia|omega)),Bool.false_and]
 ·rintro τ G2 ⟨qs,m',z6',rfl,g2,hq,hok,hsz,hB,p2,gr2,c2⟩
  rw[ints_len]at hq hsz hB
  left
  refine tupL_i (xs:=encs qs) (lk_lst g2) ?_
  refine⟨_,GE.refl,q qs G2 m' (wqs_mem.mpr fun c hc=>(hok c hc).1) (by(first|lia|omega)) (by(first|lia|omega)) (depths_le fun c hc=>(hok c hc).2) ?_ (fun h0 h1=>hB h0 (by(first|lia|omega))) p2 gr2 c2⟩
  refine Nat.le_trans hsz (Nat.mul_le_mul_right _ (by(first|lia|omega)))
theorem scPattern:FnScope ["pool", "letters", "deep", "room", "blank", "way", "part", "other", "word"] ["pool", "letters", "deep", "room", "blank"] (defScope xPattern):=⟨rfl,rfl,rfl,by decide+kernel,rfl,by decide+kernel,by decide+kernel⟩
theorem ok_pattern{n k:Nat}(hk:3≤k)(F:Fun K "_law_pattern" "_law_pattern" xPattern f fd)(B:BN mg)(CN:Cal2 P w K mg base 1 "_law_next" fn dn ["pool", "base"] spNext)(CL:Cal2 P w K mg base 3 "_law_leaf" fl dl ["pool", "letters", "blank"] spLeaf)
  (CP:Cal2 P w K mg base k "_law_pattern" fp dp ["pool", "letters", "deep", "room", "blank"] (spPattern n)) (CQ:Cal2 P w K mg base (k+1) "_law_parts" fq dq ["pool", "letters", "deep", "room", "hard"] (spParts n)):
  Ok2 P w K mg base (k+2) f fd ["pool", "letters", "deep", "room", "blank"] (spPattern (n+1)):=by
 have nd:=scPattern.nd
 refine fn2 F scPattern (fun vs G Q h=> ?_) (fun cdv A outer s H E as G Q hr h=> ?_)
 ·obtain⟨_,_,_,_,_,_,rfl,_⟩:=h
  rfl
 have hU:=u200 hr
 apply ex2
 case a=>symm
 obtain⟨a,r,z,d,m,b,rfl,hd,hp,gr,har,z1,z6,zs,q⟩:=h
 left
 refine⟨a,12,rfl,hp,by decide,by decide,fun way G1 w0 w12 p1 c1=> ?_⟩
 have gr1:=c1 r _ (by simpa using Ne.symm har) gr
 have k1:Ch [a,r] G G1:=c1.mono (by simp)
 left
 refine ixL_i (lk_lst gr1) atI_zero ?_
 left
 refine setL_i (j:=0) gr1 rfl ?_
 have gr2:up G1 r (.lst ([PV.int m].set 0 (.int (m-1)))) r=some (.lst [.int (m-1)]):=up_same
 have p2:=p1.ne (o:= .lst ([PV.int m].set 0 (.int (m-1)))) (Ne.symm har)
 have k2:Ch [a,r] G (up G1 r (.lst ([PV.int m].set 0 (.int (m-1))))):=k1.put (by simp)
 generalize up G1 r (.lst ([PV.int m].set 0 (.int (m-1))))=G2 at gr2 p2 k2⊢
 have leaf:∀τ R,τ=[some (.ref a),some (.str z),some (.int d),some (.ref r),some (.bl b),some (.int way),none,none,none]→sRet (eCall spLeaf (aCons (eV 0) (aCons (eV 1) (aCons (eV 4) aNil)))) {nx:=R,rt:=fun p G'=>∃G0,GE G0 G'∧Q p G0} τ G2:=by
  rintro τ R rfl
  left
  refine⟨a,z,b,rfl,p2,z1,z6,zs,fun p G3 w3 i3 b3 p3 c3=> ?_⟩
  obtain⟨e1,e2⟩:=leaf_one i3
  have:=bnd_pos d
  exact⟨_,GE.refl,q p G3 _ w3 (by(first|lia|omega)) (by(first|lia|omega)) b3 p3 (c3 r _ (by simpa using Ne.symm har) gr2) (k2.trans (c3.mono (by simp)))⟩
 left
 refine ifB (fun _=>ifT rfl (leaf _ _ rfl)) (fun h2=> ?_)
 have hd2:2≤d:=by
  have:¬((d:Int)<2):=of_decide_eq_false h2
  (first|lia|omega)
 obtain⟨e,rfl⟩:∃e,d=e+1:=⟨d-1,by(first|lia|omega)⟩
 have hb1:bnd (e+1)=1+6*bnd e:=rfl
 have hbp:=bnd_pos e
 have ed:(((e+1:Nat):Int)-1)=(e:Int):=by(first|lia|omega)
 left
 refine ixL_i (lk_lst gr2) atI_zero ?_
 left
 refine ifB (fun _=>ifT rfl (leaf _ _ rfl)) (fun _=> ?_)
 left
 refine ifB (fun _=>leaf _ _ rfl) (fun _=> ?_)
 left
 refine ifB (fun _=> ?_) (fun _=> ?_)
 ·have row:∀(qs:List Pt) G4 m4,wqs qs→2≤qs.length→qs.length≤6→depths qs≤e+1-1→sizes qs≤6*bnd (e+1-1)→(allB qs=true→b=true)→Pool G4 a→G4 r=some (.lst [.int m4])→Ch [a,r] G G4→∃G0,GE G0 G4∧Q (.tup [.str "row",.tup (encs qs)]) G0:=by
   intro qs G4 m4 w4 l2 l6 d4 s4 b4 p4 g4 c4
   simp only[Nat.add_sub_cancel]at s4 d4
   refine⟨_,GE.refl,q (.row qs) G4 m4 ⟨l2,l6,w4⟩ ?_ ?_ b4 p4 g4 c4⟩
   ·show 1+depths qs≤e+1;(first|lia|omega)
   ·show 1+sizes qs≤_;rw[hb1];(first|lia|omega)
  left
  cases b with
  |true=>
   refine ifT rfl ?_
   left
   refine⟨a,r,z,e+1,m-1,-1,rfl,by(first|lia|omega),p2,gr2,har,z1,z6,zs,fun qs G4 m4 w4 l2 l6 d4 s4 b4 p4 g4 c4=> ?_⟩
   left
   exact⟨lek,row qs G4 m4 w4 l2 l6 d4 s4 (fun _=>rfl) p4 g4 (k2.trans c4)⟩
  |false=>
   refine ifF rfl ?_
   left
   refine⟨a,2,rfl,p2,by decide,by decide,fun h G3 h0 h2 p3 c3=> ?_⟩
   left
   refine⟨a,r,z,e+1,m-1,h,rfl,by(first|lia|omega),p3,c3 r _ (by simpa using Ne.symm har) gr2,har,z1,z6,zs,fun qs G4 m4 w4 l2 l6 d4 s4 b4 p4 g4 c4=> ?_⟩
   left
   exact⟨lek,row qs G4 m4 w4 l2 l6 d4 s4 (fun hc=>by rw[b4 h0 (by(first|lia|omega))]at hc;cases hc) p4 g4 ((k2.trans (c3.mono (by simp))).trans c4)⟩
 left
 refine ifB (fun _=> ?_) (fun _=> ?_)
 ·left
  refine⟨a,r,z,e,m-1,b,by rw[←ed],by(first|lia|omega),p2,gr2,har,z1,z6,zs,fun p G3 m3 w3 d3 s3 b3 p3 g3 c3=> ?_⟩
  left
  refine⟨a,r,z,e,m3,b,by rw[←ed],by(first|lia|omega),p3,g3,har,z1,z6,zs,fun p' G4 m4 w4 d4 s4 b4 p4 g4 c4=> ?_⟩
  left
  refine⟨lek,?_⟩
  left
  refine⟨lek,?_⟩
  left
  refine⟨lek,?_⟩
  left
  refine⟨lek,fun l hl=> ?_⟩
  have nl:=pool_ne p4 hl
  have nlr:l≠r:=Ne.symm (ne_none g4 hl)
  left
  refine⟨a,3,rfl,p4.new hl,by decide,by decide,fun j G5 j0 j3 p5 c5=> ?_⟩
  obtain⟨qs,eq,hm,l2,l3⟩:∃qs:List Pt,atI [PV.tup [enc p,enc p'],PV.tup [enc p,enc p],PV.tup [enc p,enc p',enc p]] j=some (.tup (encs qs))∧(∀c∈qs,c=p∨c=p')∧2≤qs.length∧qs.length≤3:=by
   have:j=0∨j=1∨j=2:=by(first|lia|omega)
   rcases this with rfl|rfl|rfl
   ·exact⟨[p,p'],rfl,by simp,by simp,by simp⟩
   ·exact⟨[p,p],rfl,by simp,by simp,by simp⟩
   ·exact⟨[p,p',p],rfl,by intro c hc;simp only[List.mem_cons,List.not_mem_nil,or_false]at hc;rcases hc with h|h|h<;>first|exact .inl h|exact .inr h,by simp,by simp⟩
  have hall:∀c∈qs,wq c∧depth c≤e∧size c≤bnd e∧(canB c=true→b=true):=fun c hc=>by
   rcases hm c hc with rfl|rfl
   ·exact⟨w3,d3,s3,b3⟩
   ·exact⟨w4,d4,s4,b4⟩
  left
  refine ixL_i (lk_lst (c5 l _ (by simpa using nl) up_same)) eq ?_
  left
  refine⟨lek,_,GE.refl,q (.pick qs) G5 m4 ⟨l2,by(first|lia|omega),wqs_mem.mpr fun c hc=>(hall c hc).1⟩ ?_ ?_ ?_ p5 (c5 r _ (by simpa using Ne.symm har) (by rw[up_ne (Ne.symm nlr)];exact g4)) ((((k2.trans c3).trans c4).new hl).trans (c5.mono (by simp)))⟩
  ·show 1+depths qs≤e+1
   have:=depths_le (n:=e) (ps:=qs) fun c hc=>(hall c hc).2.1
   (first|lia|omega)
  ·show 1+sizes qs≤_
   rw[hb1]
   have key:∀l:List Pt,(∀c∈l,size c≤bnd e)→sizes l≤l.length*bnd e:=by
    intro l
    induction l with
    |nil=>intro _;simp[sizes]
    |cons c l ih=>
     intro h
     have h1:=ih fun d hd=>h d (by simp[hd])
     have h2:=h c (by simp)
     simp only[sizes,List.length_cons]
     rw[Nat.succ_mul]
     (first|lia|omega)
   have h1:=key qs fun c hc=>(hall c hc).2.2.1
   have h2:qs.length*bnd e≤6*bnd e:=Nat.mul_le_mul_right _ (by(first|lia|omega))
   (first|lia|omega)
  ·intro hc
   obtain⟨i,c,hi,hcc⟩:=anyB_at (ps:=qs) hc
   exact(hall c (List.mem_of_getElem? hi)).2.2.2 hcc
 left
 refine way_keep ?_ (fun _ hB=> ?_)
 ·refine ifF rfl ?_
  left
  refine eqP_i rfl rfl ?_
  left
  refine ifB (fun _=> ?_) (fun _=> ?_)
  ·left
   refine⟨lek,fun l hl=> ?_⟩
   have nl:=pool_ne p2 hl
   have nlr:l≠r:=Ne.symm (ne_none gr2 hl)
   left
   refine⟨a,5,rfl,p2.new hl,by decide,by decide,fun j G3 j0 j5 p3 c3=> ?_⟩
   obtain⟨wd,ew,hwl⟩:∃wd:Str,atI [PV.str "x",.str "yy",.str "left",.str "pick",.str "none"] j=some (.str wd)∧wd.length≤100∧asc wd:=by
    have:j=0∨j=1∨j=2∨j=3∨j=4:=by(first|lia|omega)
    rcases this with rfl|rfl|rfl|rfl|rfl<;>exact⟨_,rfl,by decide,by unfold asc;decide+kernel⟩
   left
   refine ixL_i (lk_lst (c3 l _ (by simpa using nl) up_same)) ew ?_
   left
   refine⟨a,r,z,e,m-1,b,by rw[←ed],by(first|lia|omega),p3,c3 r _ (by simpa using Ne.symm har) (by rw[up_ne (Ne.symm nlr)];exact gr2),har,z1,z6,zs,fun p G4 m4 w4 d4 s4 b4 p4 g4 c4=> ?_⟩
   left
   exact⟨lek,_,GE.refl,q (.held wd p) G4 m4 ⟨hwl,w4⟩ (by show 1+depth p≤e+1;(first|lia|omega)) (by show 1+size p≤_;rw[hb1];(first|lia|omega)) b4 p4 g4 (((k2.new hl).trans (c3.mono (by simp))).trans c4)⟩
  ·left
   refine⟨lek,fun l hl=> ?_⟩
   have nl:=pool_ne p2 hl
   have nlr:l≠r:=Ne.symm (ne_none gr2 hl)
   left
   refine⟨a,6,rfl,p2.new hl,by decide,by decide,fun j G3 j0 j6 p3 c3=> ?_⟩
   obtain⟨nb,en,n0,n1⟩:∃nb:Int,atI [PV.int 0,.int 1,.int 1,.int 2,.int 3,.int 1000] j=some (.int nb)∧0≤nb∧nb≤1000:=by
    have:j=0∨j=1∨j=2∨j=3∨j=4∨j=5:=by(first|lia|omega)
    rcases this with rfl|rfl|rfl|rfl|rfl|rfl<;>exact⟨_,rfl,by decide,by decide⟩
   left
   refine ixL_i (lk_lst (c3 l _ (by simpa using nl) up_same)) en ?_
   left
   refine⟨a,r,z,e,m-1,b,by rw[←ed],by(first|lia|omega),p3,c3 r _ (by simpa using Ne.symm har) (by rw[up_ne (Ne.symm nlr)];exact gr2),har,z1,z6,zs,fun p G4 m4 w4 d4 s4 b4 p4 g4 c4=> ?_⟩
   left
   exact⟨lek,_,GE.refl,q (.price nb p) G4 m4 ⟨n0,n1,w4⟩ (by show 1+depth p≤e+1;(first|lia|omega)) (by show 1+size p≤_;rw[hb1];(first|lia|omega)) b4 p4 g4 (((k2.new hl).trans (c3.mono (by simp))).trans c4)⟩
 ·left
  cases b with
  |false=>exact hB
  |true=>
   refine ifT rfl ?_
   left
   refine⟨a,r,z,e,m-1,false,by rw[←ed],by(first|lia|omega),p2,gr2,har,z1,z6,zs,fun p G4 m4 w4 d4 s4 b4 p4 g4 c4=> ?_⟩
   left
   have hcb:canB p=false:=by
    cases hc:canB p with
    |false=>rfl
    |true=>cases b4 hc
   exact⟨lek,_,GE.refl,q (.again p) G4 m4 ⟨hcb,w4⟩ (by show 1+depth p≤e+1;(first|lia|omega)) (by show 1+size p≤_;rw[hb1];(first|lia|omega)) (fun _=>rfl) p4 g4 (k2.trans c4)⟩
end
section
variable{P:Program}{w:World}{K:PySem.W.Frag}{mg:Str→Option Value}{base:Heap}{f fn fi ft fa fq fp fl fs:Addr}{fd dn di dt da dq dp dl ds:FuncData}
theorem scDrawn:FnScope ["pool", "letters", "pattern"] ["pool", "letters"] (defScope xDrawn):=⟨rfl,rfl,rfl,by decide+kernel,rfl,by decide+kernel,by decide+kernel⟩
noncomputable def spDrawn:Sp2:=fun ps G Q=>∃(a:Addr) (z:Str),ps=[.ref a,.str z]∧Pool G a∧1≤z.length∧z.length≤6∧oS z∧∀p G',wq p→depth p≤5→size p≤40→Pool G' a→Ch [a] G G'→Q (enc p) G'
theorem ok_drawn{k:Nat}(hk:11≤k)(F:Fun K "_law_drawn" "_law_drawn" xDrawn f fd)(B:BN mg)(CN:Cal2 P w K mg base 1 "_law_next" fn dn ["pool", "base"] spNext)(CP:Cal2 P w K mg base k "_law_pattern" fp dp ["pool", "letters", "deep", "room", "blank"] (spPattern 6))(CI:Cal2 P w K mg base 1 "_law_inside" fi di ["pattern"] spInside)(CS:Cal2 P w K mg base 11 "_law_size" fs ds ["pattern"] (spSize 10)):Ok2 P w K mg base (k+1) f fd ["pool", "letters"] spDrawn:=by
 have nd:=scDrawn.nd
 refine fn2 F scDrawn (fun vs G Q h=> ?_) (fun cdv A outer s H E as G Q hr h=> ?_)
 ·obtain⟨_,_,rfl,_⟩:=h
  rfl
 have hU:=u200 hr
 apply ex2
 case a=>symm
 obtain⟨a,z,rfl,hp,z1,z6,zs,q⟩:=h
 left
 refine⟨a,4,rfl,hp,by decide,by decide,fun n1 G1 n10 n14 p1 c1=> ?_⟩
 left
 refine⟨a,8,rfl,p1,by decide,by decide,fun n2 G2 n20 n28 p2 c2=> ?_⟩
 left
 refine⟨lek,fun r hr'=> ?_⟩
 have har:a≠r:=Ne.symm (pool_ne p2 hr')
 left
 refine⟨a,r,z,(2+n1).toNat,6+n2,true,by rw[Int.toNat_of_nonneg (by(first|lia|omega))],by(first|lia|omega),p2.new hr',up_same,har,z1,z6,zs,fun p G3 m3 w3 d3 s3 _ p3 g3 c3=> ?_⟩
 have hbm:bnd (2+n1).toNat≤9331:=by
  have:(2+n1).toNat=2∨(2+n1).toNat=3∨(2+n1).toNat=4∨(2+n1).toNat=5:=by(first|lia|omega)
  rcases this with h|h|h|h<;>rw[h]<;>decide
 have hrn:G r=none:=by
  cases e:G r with
  |none=>rfl
  |some o=>have:=(c1.trans c2) r o (by simpa using Ne.symm har) e;rw[hr']at this;cases this
 have k3:Ch [a] G G3:=fun b o hb ho=>by
  have hbr:b≠r:=fun e=>by subst e;rw[hrn]at ho;cases ho
  exact c3 b o (by simp[show b≠a by simpa using hb,hbr]) (by rw[up_ne hbr];exact(c1.trans c2) b o hb ho)
 left
 refine⟨fun k τ G2=>∃p,τ=[some (.ref a),some (.str z),some (enc p)]∧wq p∧depth p≤5∧size p≤9331∧Pool G2 a∧Ch [a] G G2∧k=size p,⟨_,p,rfl,w3,by(first|lia|omega),by(first|lia|omega),p3,k3,rfl⟩,?_⟩
 rintro k τ G4 ⟨p,rfl,w4,d4,s4,p4,c4,rfl⟩
 left
 refine⟨p,rfl,by(first|lia|omega),by(first|lia|omega),?_⟩
 left
 refine ifB (fun h40=> ?_) (fun h40=> ?_)
 ·have h40':40<size p:=by
   have:(40:Int)<((size p:Nat):Int):=of_decide_eq_true h40
   (first|lia|omega)
  left
  refine⟨p,rfl,fun l hl=> ?_⟩
  have hsi:=size_inner p
  have hdi:=size_depth_inner p
  cases hin:inner p with
  |nil=>rw[hin]at hsi;simp only[sizes]at hsi;(first|lia|omega)
  |cons c cs=>
   have hcm:c∈inner p:=by rw[hin];simp
   have d1:=depth_mem hcm
   have d2:=size_mem hcm
   left
   refine ixL_i (xs:=enc c::encs cs) lk_up atI_zero ?_
   exact⟨size c,by(first|lia|omega),c,rfl,wq_inn w4 hcm,by(first|lia|omega),by(first|lia|omega),p4.new hl,c4.new hl,rfl⟩
 ·have h40':size p≤40:=by
   have:¬(40:Int)<((size p:Nat):Int):=of_decide_eq_false h40
   (first|lia|omega)
  exact⟨_,GE.refl,q p G4 w4 d4 h40' p4 c4⟩
end
mutual
noncomputable def mks:Tr→List Int
 | .pick k t=>k::mks t
 | .again ts=>mksT ts
 | .row ts=>mkss ts
 | .held _ t=>mks t
 | .price _ t=>mks t
 |_=>[]
noncomputable def mkss:List Tr→List Int
 |[]=>[]
 |t::ts=>mks t++mkss ts
noncomputable def mksT:List Tr→List Int
 |[]=>[1]
 |t::ts=>0::(mks t++mksT ts)
end
mutual
noncomputable def wT:Tr→Nat
 | .pick _ t=>2+wT t
 | .again ts=>2+wTT ts
 | .row ts=>1+wTs ts
 | .held _ t=>1+wT t
 | .price _ t=>1+wT t
 |_=>1
noncomputable def wTs:List Tr→Nat
 |[]=>0
 |t::ts=>wT t+wTs ts
noncomputable def wTT:List Tr→Nat
 |[]=>0
 |t::ts=>1+wT t+wTT ts
end
mutual
theorem wT_le:∀t:Tr,wT t+1≤3*tsz t
 | .pick _ t=>by have:=wT_le t;simp only[wT,tsz];(first|lia|omega)
 | .again ts=>by have:=wTT_le ts;simp only[wT,tsz];(first|lia|omega)
 | .row ts=>by have:=wTs_le ts;simp only[wT,tsz];(first|lia|omega)
 | .held _ t=>by have:=wT_le t;simp only[wT,tsz];(first|lia|omega)
 | .price _ t=>by have:=wT_le t;simp only[wT,tsz];(first|lia|omega)
 | .blank=>by simp[wT,tsz]
 | .sign _=>by simp[wT,tsz]
theorem wTs_le:∀ts:List Tr,wTs ts≤3*tszs ts
 |[]=>by simp[wTs]
 |t::ts=>by have:=wT_le t;have:=wTs_le ts;simp only[wTs,tszs];(first|lia|omega)
theorem wTT_le:∀ts:List Tr,wTT ts≤3*tszs ts
 |[]=>by simp[wTT]
 |t::ts=>by have:=wT_le t;have:=wTT_le ts;simp only[wTT,tszs];(first|lia|omega)
end
theorem sizes_mem:∀{qs:List Pt} {c:Pt},c∈qs→size c≤sizes qs
 |q::qs,c,h=>by
  show _≤size q+sizes qs
  rcases List.mem_cons.mp h with rfl|h
  ·(first|lia|omega)
  ·have:=sizes_mem h;(first|lia|omega)
noncomputable def catL{α β:Type}(f:α→Int→List β×Int):List α→Int→List β×Int
 |[],l=>([],l)
 |x::xs,l=>((f x l).1++(catL f xs (f x l).2).1,(catL f xs (f x l).2).2)
theorem catL_snoc{α β:Type}(f:α→Int→List β×Int):∀(xs:List α) (x:α) (l:Int),catL f (xs++[x]) l=((catL f xs l).1++(f x (catL f xs l).2).1,(f x (catL f xs l).2).2)
 |[],x,l=>by simp[catL]
 |y::ys,x,l=>by
  have ih:=catL_snoc f ys x (f y l).2
  show((f y l).1++(catL f (ys++[x]) (f y l).2).1,(catL f (ys++[x]) (f y l).2).2)=_
  rw[ih]
  simp[catL]
noncomputable def tnsOf:Tr→List Tr
 | .again ts=>ts
 |_=>[]
noncomputable def rowF(g:Pt→Nat→Int→List (Tr×Nat)×Int):List Pt→List (List Tr×Nat)→Int→List (List Tr×Nat)×Int
 |[],sm,l=>(sm,l)
 |p::ps,sm,l=>rowF g ps (catL (fun(s:List Tr×Nat) l=>((g p s.2 l).1.map fun t=>(s.1++[t.1],t.2),(g p s.2 l).2)) sm l).1
   (catL (fun(s:List Tr×Nat) l=>((g p s.2 l).1.map fun t=>(s.1++[t.1],t.2),(g p s.2 l).2)) sm l).2
noncomputable def pickF(g:Pt→Nat→Int→List (Tr×Nat)×Int)(at':Nat)(ps:List Pt)(l:Int):List (Tr×Nat)×Int:=
 catL (fun(kp:Nat×Pt) l=>((g kp.2 at' l).1.map fun t=>(Tr.pick (kp.1:Int) t.1,t.2),(g kp.2 at' l).2)) ((List.range ps.length).zip ps) l
noncomputable def againF(g:Pt→Nat→Int→List (Tr×Nat)×Int)(q:Pt)(at':Nat)(l:Int):List (Tr×Nat)×Int:=
 let r:=catL (fun(t:Tr×Nat) l=>((g (.again q) t.2 l).1.map fun u=>(Tr.again (t.1::tnsOf u.1),u.2),(g (.again q) t.2 l).2)) (g q at' l).1 (g q at' l).2
 (r.1++[(Tr.again [],at')],r.2)
noncomputable def bodyF(T:List Nat)(g:Pt→Nat→Int→List (Tr×Nat)×Int)(p:Pt)(at':Nat)(l:Int):List (Tr×Nat)×Int:=
 match p with
 | .none=>([],l)
 | .blank=>([(.blank,at')],l)
 | .sign s=>(match T[at']? with
  |some c=>if c∈s.cps.toList then[(Tr.sign (oneS c),at'+1)]else[]
  |none=>[],l)
 | .pick ps=>pickF g at' ps l
 | .held m q=>((g q at' l).1.map fun t=>(Tr.held m t.1,t.2),(g q at' l).2)
 | .price m q=>((g q at' l).1.map fun t=>(Tr.price m t.1,t.2),(g q at' l).2)
 | .row ps=>((rowF g ps [([],at')] l).1.map fun s=>(Tr.row s.1,s.2),(rowF g ps [([],at')] l).2)
 | .again q=>againF g q at' l
noncomputable def tra(T:List Nat):Nat→Pt→Nat→Int→List (Tr×Nat)×Int
 |0,_,_,l=>([],l)
 |n+1,p,e,l=>(if(bodyF T (tra T n) p e l).2-((bodyF T (tra T n) p e l).1.length:Nat)<0 then[]else(bodyF T (tra T n) p e l).1,(bodyF T (tra T n) p e l).2-((bodyF T (tra T n) p e l).1.length:Nat))
structure Fw{β:Type}(l:Int)(r:List β×Int):Prop where
 le:r.2≤l
 pay:r.1=[]∨(0≤r.2∧(r.1.length:Int)≤l-r.2)
theorem Fw.map{β γ:Type}{l:Int}{r:List β×Int}(h:Fw l r)(f:β→γ):Fw l (r.1.map f,r.2):=
 ⟨h.le,by rcases h.pay with h|h;exact .inl (by rw[h];rfl);exact .inr ⟨h.1,by rw[List.length_map];exact h.2⟩⟩
theorem Fw.len{β:Type}{l:Int}{r:List β×Int}(h:Fw l r)(hl:l≤300):r.1.length≤300:=by
 rcases h.pay with h|h
 ·rw[h];simp
 ·(first|lia|omega)
theorem catL_fw{α β:Type}{f:α→Int→List β×Int}(h:∀x l,Fw l (f x l)):∀(xs:List α) (l:Int),(catL f xs l).2≤l∧(((catL f xs l).1.length:Nat):Int)≤(if l<0 then 0 else l)
 |[],l=>⟨Int.le_refl _,by show((0:Nat):Int)≤_;split<;>(first|lia|omega)⟩
 |x::xs,l=>by
  obtain⟨h1,h2⟩:=h x l
  obtain⟨i1,i2⟩:=catL_fw h xs (f x l).2
  refine⟨Int.le_trans i1 h1,?_⟩
  show((((f x l).1++(catL f xs (f x l).2).1).length:Nat):Int)≤_
  rw[List.length_append]
  rcases h2 with h2|⟨h2,h3⟩
  ·rw[h2,List.length_nil]
   split at i2<;>split<;>(first|lia|omega)
  ·rw[if_neg (by(first|lia|omega))]at i2
   rw[if_neg (by(first|lia|omega))]
   (first|lia|omega)
theorem rowF_fw{g:Pt→Nat→Int→List (Tr×Nat)×Int}(h:∀p e l,Fw l (g p e l)):∀(ps:List Pt) (sm:List (List Tr×Nat)) (l:Int),l≤300→sm.length≤300→(rowF g ps sm l).2≤l∧(rowF g ps sm l).1.length≤300
 |[],sm,l,_,hs=>⟨Int.le_refl _,hs⟩
 |p::ps,sm,l,hl,hs=>by
  obtain⟨i1,i2⟩:=catL_fw (f:=fun(s:List Tr×Nat) l=>((g p s.2 l).1.map fun t=>(s.1++[t.1],t.2),(g p s.2 l).2)) (fun s l=>(h p s.2 l).map _) sm l
  have:=rowF_fw h ps _ _ (show(catL (fun(s:List Tr×Nat) l=>((g p s.2 l).1.map fun t=>(s.1++[t.1],t.2),(g p s.2 l).2)) sm l).2≤300 by(first|lia|omega)) (show(catL (fun(s:List Tr×Nat) l=>((g p s.2 l).1.map fun t=>(s.1++[t.1],t.2),(g p s.2 l).2)) sm l).1.length≤300 by split at i2<;>(first|lia|omega))
  exact⟨Int.le_trans this.1 i1,this.2⟩
theorem body_fw{T:List Nat}{g:Pt→Nat→Int→List (Tr×Nat)×Int}(h:∀p e l,Fw l (g p e l))(p:Pt)(e:Nat)(l:Int):(bodyF T g p e l).2≤l∧(l≤300→(bodyF T g p e l).1.length≤301):=by
 cases p with
 |none=>exact⟨Int.le_refl _,fun _=>Nat.zero_le _⟩
 |blank=>exact⟨Int.le_refl _,fun _=>by show 1≤301;(first|lia|omega)⟩
 |sign s=>
  refine⟨Int.le_refl _,fun _=> ?_⟩
  show(match T[e]? with|some c=>if c∈s.cps.toList then[(Tr.sign (oneS c),e+1)]else[]|none=>[]).length≤_
  split
  ·split<;>simp
  ·simp
 |pick ps=>
  obtain⟨i1,i2⟩:=catL_fw (f:=fun(kp:Nat×Pt) l=>((g kp.2 e l).1.map fun t=>(Tr.pick (kp.1:Int) t.1,t.2),(g kp.2 e l).2)) (fun kp l=>(h kp.2 e l).map _) ((List.range ps.length).zip ps) l
  exact⟨i1,fun hl=>by show(catL _ _ l).1.length≤_;split at i2<;>(first|lia|omega)⟩
 |held m q=>exact⟨(h q e l).le,fun hl=>by show((g q e l).1.map _).length≤_;rw[List.length_map];have:=(h q e l).len hl;(first|lia|omega)⟩
 |price m q=>exact⟨(h q e l).le,fun hl=>by show((g q e l).1.map _).length≤_;rw[List.length_map];have:=(h q e l).len hl;(first|lia|omega)⟩
 |row ps=>
  refine⟨?_,fun hl=> ?_⟩
  ·show(rowF g ps [([],e)] l).2≤l
   have go:∀(ps:List Pt) (sm:List (List Tr×Nat)) (l:Int),(rowF g ps sm l).2≤l:=by
    intro ps
    induction ps with
    |nil=>intro sm l;exact Int.le_refl _
    |cons p ps ih=>
     intro sm l
     have h1:=(catL_fw (f:=fun(s:List Tr×Nat) l=>((g p s.2 l).1.map fun t=>(s.1++[t.1],t.2),(g p s.2 l).2)) (fun s l=>(h p s.2 l).map _) sm l).1
     exact Int.le_trans (ih _ _) h1
   exact go ps _ l
  ·show((rowF g ps [([],e)] l).1.map _).length≤_
   rw[List.length_map]
   have:=(rowF_fw h ps [([],e)] l hl (by simp)).2
   (first|lia|omega)
 |again q=>
  obtain⟨i1,i2⟩:=catL_fw (f:=fun(t:Tr×Nat) l=>((g (.again q) t.2 l).1.map fun u=>(Tr.again (t.1::tnsOf u.1),u.2),(g (.again q) t.2 l).2)) (fun t l=>(h (.again q) t.2 l).map _) (g q e l).1 (g q e l).2
  have h1:=(h q e l).le
  refine⟨by show(catL _ _ _).2≤l;(first|lia|omega),fun hl=> ?_⟩
  show((catL _ _ _).1++[(Tr.again [],e)]).length≤_
  rw[List.length_append]
  simp only[List.length_cons,List.length_nil]
  split at i2<;>(first|lia|omega)
theorem tra_fw(T:List Nat):∀(n:Nat) (p:Pt) (e:Nat) (l:Int),Fw l (tra T n p e l)
 |0,p,e,l=>⟨Int.le_refl _,.inl rfl⟩
 |n+1,p,e,l=>by
  obtain⟨h1,_⟩:=body_fw (T:=T) (tra_fw T n) p e l
  show Fw l (if(bodyF T (tra T n) p e l).2-((bodyF T (tra T n) p e l).1.length:Nat)<0 then[]else(bodyF T (tra T n) p e l).1,(bodyF T (tra T n) p e l).2-((bodyF T (tra T n) p e l).1.length:Nat))
  by_cases hc:(bodyF T (tra T n) p e l).2-((bodyF T (tra T n) p e l).1.length:Nat)<0
  ·rw[if_pos hc]
   exact⟨by show(bodyF T (tra T n) p e l).2-((bodyF T (tra T n) p e l).1.length:Nat)≤l;(first|lia|omega),.inl rfl⟩
  ·rw[if_neg hc]
   exact⟨by show(bodyF T (tra T n) p e l).2-((bodyF T (tra T n) p e l).1.length:Nat)≤l;(first|lia|omega),.inr ⟨by show 0≤(bodyF T (tra T n) p e l).2-((bodyF T (tra T n) p e l).1.length:Nat);(first|lia|omega),by show((bodyF T (tra T n) p e l).1.length:Int)≤l-((bodyF T (tra T n) p e l).2-((bodyF T (tra T n) p e l).1.length:Nat));(first|lia|omega)⟩⟩
theorem catL_mem{α β:Type}{f:α→Int→List β×Int}{x:β}:∀{xs:List α} {l:Int},x∈(catL f xs l).1→∃y∈xs,∃l',x∈(f y l').1
 |[],l,h=>by cases h
 |y::ys,l,h=>by
  rcases List.mem_append.mp h with h|h
  ·exact⟨y,by simp,l,h⟩
  ·obtain⟨z,hz,l',h'⟩:=catL_mem h
   exact⟨z,by simp[hz],l',h'⟩
noncomputable def tcF(ts:List Tr):List Nat:=(ts.map tcs).flatten
theorem tcF_snoc(ts:List Tr)(t:Tr):tcF (ts++[t])=tcF ts++tcs t:=by unfold tcF;simp
theorem tcs_row(ts:List Tr):tcs (.row ts)=tcF ts:=by rw[tcs_inn (t:= .row ts) rfl];exact tcs_flat ts
theorem tcs_again(ts:List Tr):tcs (.again ts)=tcF ts:=by rw[tcs_inn (t:= .again ts) rfl];exact tcs_flat ts
theorem tcs_pick(k:Int)(t:Tr):tcs (.pick k t)=tcs t:=by
 rw[tcs_inn (t:= .pick k t) rfl]
 show L3.tcsL (tins [t])=tcs t
 rw[tcs_flat];simp
theorem tcs_held(k:Str)(t:Tr):tcs (.held k t)=tcs t:=by
 rw[tcs_inn (t:= .held k t) rfl]
 show L3.tcsL (tins [t])=tcs t
 rw[tcs_flat];simp
theorem tcs_price(k:Int)(t:Tr):tcs (.price k t)=tcs t:=by
 rw[tcs_inn (t:= .price k t) rfl]
 show L3.tcsL (tins [t])=tcs t
 rw[tcs_flat];simp
theorem tcs_blank:tcs .blank=[]:=rfl
structure okE(T:List Nat)(p:Pt)(e:Nat)(x:Tr×Nat):Prop where
 lo:e≤x.2
 hi:x.2≤T.length
 bl:canB p=false→e<x.2
 fit:Fit p x.1
 tx:T.drop e=tcs x.1++T.drop x.2
structure RD(T:List Nat)(e:Nat)(done:List Pt)(s:List Tr×Nat):Prop where
 lo:e≤s.2
 hi:s.2≤T.length
 bl:allB done=false→e<s.2
 fit:FitL done s.1
 tx:T.drop e=tcF s.1++T.drop s.2
theorem rowF_ok{T:List Nat}{e:Nat}{g:Pt→Nat→Int→List (Tr×Nat)×Int}(hg:∀p e l,wq p→e≤T.length→∀x∈(g p e l).1,okE T p e x):∀(ps done:List Pt) (sm:List (List Tr×Nat)) (l:Int),(∀s∈sm,RD T e done s)→wqs ps→∀s∈(rowF g ps sm l).1,RD T e (done++ps) s
 |[],done,sm,l,h,_,s,hs=>by rw[List.append_nil];exact h s hs
 |p::ps,done,sm,l,h,hw,s,hs=>by
  rw[show done++p::ps=(done++[p])++ps by simp]
  refine rowF_ok (e:=e) hg ps (done++[p]) _ _ (fun s hs=> ?_) hw.2 s hs
  ·obtain⟨y,hy,l',hm⟩:=catL_mem hs
   obtain⟨t,ht,rfl⟩:=List.mem_map.mp hm
   have r:=h y hy
   have o:=hg p y.2 l' hw.1 r.hi t ht
   refine⟨Nat.le_trans r.lo o.lo,o.hi,fun hb=> ?_,r.fit.snoc o.fit,?_⟩
   ·rw[allB_append,Bool.and_eq_false_iff]at hb
    rcases hb with hb|hb
    ·exact Nat.lt_of_lt_of_le (r.bl hb) o.lo
    ·have:canB p=false:=by simpa [allB]using hb
     exact Nat.lt_of_le_of_lt r.lo (o.bl this)
   ·show T.drop e=tcF (y.1++[t.1])++T.drop t.2
    rw[tcF_snoc,r.tx,o.tx,List.append_assoc]
theorem body_ok{T:List Nat}{g:Pt→Nat→Int→List (Tr×Nat)×Int}(ih:∀p e l,wq p→e≤T.length→∀x∈(g p e l).1,okE T p e x)(p:Pt)(e:Nat)(l:Int)(hw:wq p)(he:e≤T.length)(x:Tr×Nat)(h':x∈(bodyF T g p e l).1):okE T p e x:=by
 cases p with
 |none=>cases h'
 |blank=>
  have:x=(Tr.blank,e):=List.mem_singleton.mp h'
  subst this
  exact⟨Nat.le_refl _,he,(fun h=>nomatch h),.blank,by rw[tcs_blank];rfl⟩
 |sign s=>
  have h2:x∈(match T[e]? with|some c=>if c∈s.cps.toList then[(Tr.sign (oneS c),e+1)]else[]|none=>[]):=h'
  cases hc:T[e]? with
  |none=>rw[hc]at h2;cases h2
  |some c=>
   rw[hc]at h2
   by_cases hm:c∈s.cps.toList
   ·have h3:x=(Tr.sign (oneS c),e+1):=by
     have h4:x∈(if c∈s.cps.toList then[(Tr.sign (oneS c),e+1)]else[]):=h2
     rw[if_pos hm]at h4
     exact List.mem_singleton.mp h4
    subst h3
    obtain⟨hlt,hget⟩:=List.getElem?_eq_some_iff.mp hc
    refine⟨Nat.le_succ _,hlt,fun _=>Nat.lt_succ_self _,.sign hm,?_⟩
    rw[tcs_sign]
    show T.drop e=[c]++T.drop (e+1)
    rw[List.drop_eq_getElem_cons hlt,hget]
    rfl
   ·have h4:x∈(if c∈s.cps.toList then[(Tr.sign (oneS c),e+1)]else[]):=h2
    rw[if_neg hm]at h4
    cases h4
 |pick ps=>
  obtain⟨y,hy,l',hm⟩:=catL_mem (show x∈(pickF (g) e ps l).1 from h')
  obtain⟨t,ht,rfl⟩:=List.mem_map.mp hm
  have hyz:ps[y.1]? =some y.2:=by
   obtain⟨i,hi⟩:=List.mem_iff_getElem?.mp hy
   rw[List.getElem?_zip_eq_some]at hi
   obtain⟨h1,h2⟩:=hi
   have hil:i<ps.length:=(List.getElem?_eq_some_iff.mp h2).1
   rw[List.getElem?_range hil]at h1
   cases h1
   exact h2
  have o:=ih y.2 e l' (wqs_mem.mp hw.2.2 _ (List.mem_of_getElem? hyz)) he t ht
  refine⟨o.lo,o.hi,fun hb=>o.bl ?_,.pick hyz o.fit,by rw[tcs_pick];exact o.tx⟩
  cases hcb:canB y.2 with
  |false=>rfl
  |true=>
   have h2:anyB ps=false:=hb
   have:∀(qs:List Pt) (c:Pt),c∈qs→canB c=true→anyB qs=true:=by
    intro qs
    induction qs with
    |nil=>intro c hc;cases hc
    |cons q qs ihq=>
     intro c hc hcc
     show(canB q||anyB qs)=true
     rcases List.mem_cons.mp hc with rfl|hc
     ·rw[hcc];rfl
     ·rw[ihq c hc hcc,Bool.or_true]
   rw[this ps _ (List.mem_of_getElem? hyz) hcb]at h2
   cases h2
 |held m q=>
  obtain⟨t,ht,rfl⟩:=List.mem_map.mp (show x∈(g q e l).1.map (fun t=>(Tr.held m t.1,t.2))from h')
  have o:=ih q e l hw.2 he t ht
  exact⟨o.lo,o.hi,o.bl,.held o.fit,by rw[tcs_held];exact o.tx⟩
 |price m q=>
  obtain⟨t,ht,rfl⟩:=List.mem_map.mp (show x∈(g q e l).1.map (fun t=>(Tr.price m t.1,t.2))from h')
  have o:=ih q e l hw.2.2 he t ht
  exact⟨o.lo,o.hi,o.bl,.price o.fit,by rw[tcs_price];exact o.tx⟩
 |row ps=>
  obtain⟨s,hs,rfl⟩:=List.mem_map.mp (show x∈(rowF (g) ps [([],e)] l).1.map (fun s=>(Tr.row s.1,s.2))from h')
  have r:=rowF_ok (T:=T) (e:=e) ih ps [] [([],e)] l (fun s hs=>by
   have:s=([],e):=List.mem_singleton.mp hs
   subst this
   exact⟨Nat.le_refl _,he,(fun h=>by cases h),.nil,by simp[tcF]⟩) hw.2.2 s hs
  rw[List.nil_append]at r
  refine⟨r.lo,r.hi,r.bl,r.fit.row,?_⟩
  show T.drop e=tcs (Tr.row s.1)++T.drop s.2
  rw[r.tx,tcs_row]
 |again q=>
  have h2:x∈(catL (fun(t:Tr×Nat) l=>((g (.again q) t.2 l).1.map fun u=>(Tr.again (t.1::tnsOf u.1),u.2),(g (.again q) t.2 l).2)) (g q e l).1 (g q e l).2).1++[(Tr.again [],e)]:=h'
  rcases List.mem_append.mp h2 with h2|h2
  ·obtain⟨y,hy,l',hm⟩:=catL_mem h2
   obtain⟨u,hu,rfl⟩:=List.mem_map.mp hm
   have o:=ih q e l hw.2 he y hy
   have v:=ih (.again q) y.2 l' hw o.hi u hu
   obtain⟨u1,u2⟩:=u
   have vf:=v.fit
   cases vf with
   | @again _ ts hall=>
    refine⟨Nat.le_trans o.lo v.lo,v.hi,(fun h=>nomatch h),.again fun t ht=> ?_,?_⟩
    ·rcases List.mem_cons.mp ht with rfl|ht
     ·exact o.fit
     ·exact hall t ht
    ·show T.drop e=tcs (Tr.again (y.1::ts))++T.drop u2
     have v2:=v.tx
     rw[o.tx,v2,tcs_again,tcs_again]
     simp[tcF]
  ·have:x=(Tr.again [],e):=List.mem_singleton.mp h2
   subst this
   exact⟨Nat.le_refl _,he,(fun h=>nomatch h),.again (by simp),by rw[tcs_again];simp[tcF]⟩
theorem tra_ok(T:List Nat):∀(n:Nat) (p:Pt) (e:Nat) (l:Int),wq p→e≤T.length→∀x∈(tra T n p e l).1,okE T p e x
 |0,p,e,l,_,_,x,h=>by cases h
 |n+1,p,e,l,hw,he,x,h=>by
  have h1:x∈(if(bodyF T (tra T n) p e l).2-((bodyF T (tra T n) p e l).1.length:Nat)<0 then[]else(bodyF T (tra T n) p e l).1):=h
  split at h1
  ·cases h1
  ·exact body_ok (tra_ok T n) p e l hw he x h1
theorem tcF_cons(t:Tr)(us:List Tr):tcF (t::us)=tcs t++tcF us:=by unfold tcF;simp
theorem fit_nb{p:Pt}{t:Tr}(h:Fit p t):canB p=false→1≤(tcs t).length:=by
 induction h with
 |blank=>intro h;cases h
 | @sign s c _=>intro _;rw[show tcs (.sign ⟨#[c]⟩)=[c]from tcs_sign _];exact Nat.le_refl _
 | @row ps ts hl hf ih=>
  intro hb
  rw[tcs_row]
  have key:∀(ps:List Pt) (ts:List Tr),ts.length=ps.length→(∀(i:Nat) (p:Pt) (t:Tr),ps[i]? =some p→ts[i]? =some t→canB p=false→1≤(tcs t).length)→allB ps=false→1≤(tcF ts).length:=by
   intro ps
   induction ps with
   |nil=>intro ts _ _ h;cases h
   |cons q qs ihq=>
    intro ts hl hf hb
    cases ts with
    |nil=>cases hl
    |cons t ts=>
     rw[tcF_cons,List.length_append]
     have hb':(canB q&&allB qs)=false:=hb
     rcases Bool.and_eq_false_iff.mp hb' with h|h
     ·have:=hf 0 q t rfl rfl h;(first|lia|omega)
     ·have:=ihq ts (by simpa using hl) (fun i p t h1 h2=>hf (i+1) p t (by simpa using h1) (by simpa using h2)) h;(first|lia|omega)
  exact key ps ts hl ih hb
 | @pick ps i p t hp hf ih=>
  intro hb
  rw[tcs_pick]
  refine ih ?_
  have key:∀{qs:List Pt} {c:Pt},c∈qs→anyB qs=false→canB c=false:=by
   intro qs
   induction qs with
   |nil=>intro c hc;cases hc
   |cons q qs ihq=>
    intro c hc h
    have h':(canB q||anyB qs)=false:=h
    rcases Bool.or_eq_false_iff.mp h' with⟨h1,h2⟩
    rcases List.mem_cons.mp hc with rfl|hc
    ·exact h1
    ·exact ihq hc h2
  exact key (List.mem_of_getElem? hp) hb
 | @again p ts hf ih=>intro h;cases h
 | @held n p t hf ih=>intro hb;rw[tcs_held];exact ih hb
 | @price n p t hf ih=>intro hb;rw[tcs_price];exact ih hb
noncomputable def wM(n:Nat):Nat:=if n=0 then 1 else n
theorem wM_mono{m n:Nat}(h:m≤n):wM m≤wM n:=by unfold wM;split<;>split<;>(first|lia|omega)
theorem wM_pos(n:Nat):1≤wM n:=by unfold wM;split<;>(first|lia|omega)
theorem tsz_few{p:Pt}{t:Tr}(h:Fit p t):wq p→tsz t≤size p*wM (tcs t).length:=by
 induction h with
 |blank=>intro _;exact Nat.le_refl _
 | @sign s c _=>intro _;show 1≤1*wM (tcs (Tr.sign ⟨#[c]⟩)).length;have:=wM_pos (tcs (Tr.sign ⟨#[c]⟩)).length;(first|lia|omega)
 | @row ps ts hl hf ih=>
  intro hw
  rw[tcs_row]
  have key:∀(ps:List Pt) (ts:List Tr) (W:Nat),wqs ps→ts.length=ps.length→(∀(i:Nat) (p:Pt) (t:Tr),ps[i]? =some p→ts[i]? =some t→wq p→tsz t≤size p*wM (tcs t).length)→(tcF ts).length≤W→tszs ts≤sizes ps*wM W:=by
   intro ps
   induction ps with
   |nil=>intro ts W _ hl _ _;cases ts with
    |nil=>exact Nat.zero_le _
    |cons _ _=>cases hl
   |cons q qs ihq=>
    intro ts W hw hl hf hW
    cases ts with
    |nil=>cases hl
    |cons t ts=>
     rw[tcF_cons,List.length_append]at hW
     have h1:=hf 0 q t rfl rfl hw.1
     have h2:=ihq ts W hw.2 (by simpa using hl) (fun i p t h1 h2=>hf (i+1) p t (by simpa using h1) (by simpa using h2)) (by(first|lia|omega))
     have h3:size q*wM (tcs t).length≤size q*wM W:=Nat.mul_le_mul_left _ (wM_mono (by(first|lia|omega)))
     show tsz t+tszs ts≤(size q+sizes qs)*wM W
     rw[Nat.add_mul]
     (first|lia|omega)
  have:=key ps ts _ hw.2.2 hl ih (Nat.le_refl _)
  have h4:=wM_pos (tcF ts).length
  show 1+tszs ts≤(1+sizes ps)*_
  rw[Nat.add_mul];(first|lia|omega)
 | @pick ps i p t hp hf ih=>
  intro hw
  rw[tcs_pick]
  have h1:=ih (wqs_mem.mp hw.2.2 _ (List.mem_of_getElem? hp))
  have hsz:size p≤sizes ps:=sizes_mem (List.mem_of_getElem? hp)
  have h3:size p*wM (tcs t).length≤sizes ps*wM (tcs t).length:=Nat.mul_le_mul_right _ hsz
  have h4:=wM_pos (tcs t).length
  show 1+tsz t≤(1+sizes ps)*_
  rw[Nat.add_mul];(first|lia|omega)
 | @again p ts hf ih=>
  intro hw
  rw[tcs_again]
  have key:∀ts:List Tr,(∀t∈ts,tsz t≤size p*wM (tcs t).length∧1≤(tcs t).length)→tszs ts≤size p*(tcF ts).length:=by
   intro ts
   induction ts with
   |nil=>intro _;exact Nat.zero_le _
   |cons t ts iht=>
    intro h
    obtain⟨h1,h2⟩:=h t (by simp)
    have h3:=iht fun u hu=>h u (by simp[hu])
    have h4:wM (tcs t).length=(tcs t).length:=by unfold wM;rw[if_neg (by(first|lia|omega))]
    rw[h4]at h1
    show tsz t+tszs ts≤_
    rw[tcF_cons,List.length_append,Nat.mul_add]
    (first|lia|omega)
  have h1:=key ts fun t ht=>⟨ih t ht hw.2,fit_nb (hf t ht) hw.1⟩
  show 1+tszs ts≤(1+size p)*_
  rw[Nat.add_mul]
  have h4:=wM_pos (tcF ts).length
  have h5:size p*(tcF ts).length≤size p*wM (tcF ts).length:=Nat.mul_le_mul_left _ (by unfold wM;split<;>(first|lia|omega))
  (first|lia|omega)
 | @held n p t hf ih=>
  intro hw
  rw[tcs_held]
  have:=ih hw.2
  have h4:=wM_pos (tcs t).length
  show 1+tsz t≤(1+size p)*_
  rw[Nat.add_mul];(first|lia|omega)
 | @price n p t hf ih=>
  intro hw
  rw[tcs_price]
  have:=ih hw.2.2
  have h4:=wM_pos (tcs t).length
  show 1+tsz t≤(1+size p)*_
  rw[Nat.add_mul];(first|lia|omega)
theorem mkss_app:∀(ts us:List Tr),mkss (ts++us)=mkss ts++mkss us
 |[],us=>rfl
 |t::ts,us=>by show mks t++mkss (ts++us)=(mks t++mkss ts)++mkss us;rw[mkss_app ts us,List.append_assoc]
noncomputable abbrev RO(α:Type):=Option (α×List Int×List Nat)
noncomputable def rdTu(f:List Int→List Nat→RO Tr):Nat→List Int→List Nat→RO (List Tr)
 |0,_,_=>none
 |_+1,[],_=>none
 |n+1,m::ms,cs=>if m=0 then(match f ms cs with
   |none=>none
   |some x=>(rdTu f n x.2.1 x.2.2).map fun r=>(x.1::r.1,r.2))
  else if m=1 then some ([],ms,cs)else none
mutual
noncomputable def rd:Pt→List Int→List Nat→RO Tr
 | .none,_,_=>none
 | .blank,ms,cs=>some (.blank,ms,cs)
 | .sign S,ms,cs=>match cs with
  |[]=>none
  |c::cs=>if c∈S.cps.toList then some (.sign ⟨#[c]⟩,ms,cs)else none
 | .row ps,ms,cs=>(rds ps ms cs).map fun r=>(.row r.1,r.2)
 | .pick ps,ms,cs=>match ms with
  |[]=>none
  |m::ms=>if 0≤m then(rdk ps m.toNat ms cs).map fun r=>(.pick m r.1,r.2)else none
 | .again p,ms,cs=>(rdTu (fun ms cs=>rd p ms cs) (ms.length+1) ms cs).map fun r=>(.again r.1,r.2)
 | .held n p,ms,cs=>(rd p ms cs).map fun r=>(.held n r.1,r.2)
 | .price n p,ms,cs=>(rd p ms cs).map fun r=>(.price n r.1,r.2)
noncomputable def rds:List Pt→List Int→List Nat→RO (List Tr)
 |[],ms,cs=>some ([],ms,cs)
 |p::ps,ms,cs=>match rd p ms cs with
  |none=>none
  |some x=>(rds ps x.2.1 x.2.2).map fun r=>(x.1::r.1,r.2)
noncomputable def rdk:List Pt→Nat→List Int→List Nat→RO Tr
 |[],_,_,_=>none
 |p::ps,k,ms,cs=>match k with
  |0=>rd p ms cs
  |k+1=>rdk ps k ms cs
end
noncomputable abbrev rdT(p:Pt)(ms:List Int)(cs:List Nat):RO (List Tr):=rdTu (fun ms cs=>rd p ms cs) (ms.length+1) ms cs
theorem rdk_at:∀{ps:List Pt} {k:Nat} {ms:List Int} {cs:List Nat},rdk ps k ms cs=(match ps[k]? with|none=>none|some p=>rd p ms cs)
 |[],k,ms,cs=>by simp[rdk]
 |p::ps,0,ms,cs=>by simp[rdk]
 |p::ps,k+1,ms,cs=>by
  have:=rdk_at (ps:=ps) (k:=k) (ms:=ms) (cs:=cs)
  simpa [rdk]using this
noncomputable def Told(p:Pt)(ms:List Int)(cs:List Nat)(x:Tr×List Int×List Nat):Prop:=Fit p x.1∧ms=mks x.1++x.2.1∧cs=tcs x.1++x.2.2
noncomputable def ToldL(ps:List Pt)(ms:List Int)(cs:List Nat)(x:List Tr×List Int×List Nat):Prop:=FitL ps x.1∧ms=mkss x.1++x.2.1∧cs=tcF x.1++x.2.2
noncomputable def ToldT(p:Pt)(ms:List Int)(cs:List Nat)(x:List Tr×List Int×List Nat):Prop:=(∀t∈x.1,Fit p t)∧ms=mksT x.1++x.2.1∧cs=tcF x.1++x.2.2
theorem omap{α β:Type}{f:α→β}{o:Option α}{b:β}(h:o.map f=some b):∃a,o=some a∧f a=b:=by
 cases o with
 |none=>cases h
 |some a=>exact⟨a,rfl,Option.some.inj h⟩
theorem rdTu_ok{p:Pt}{f:List Int→List Nat→RO Tr}(hf:∀ms cs x,f ms cs=some x→Told p ms cs x):∀(n:Nat) (ms:List Int) (cs:List Nat) x,rdTu f n ms cs=some x→ToldT p ms cs x
 |0,_,_,_,h=>by cases h
 |n+1,[],_,_,h=>by cases h
 |n+1,m::ms,cs,x,h=>by
  unfold rdTu at h
  split at h
  ·rename_i hm
   subst hm
   split at h
   ·cases h
   ·rename_i y hy
    obtain⟨r,hr,rfl⟩:=omap h
    obtain⟨h1,h2,h3⟩:=hf _ _ _ hy
    obtain⟨i1,i2,i3⟩:=rdTu_ok hf n _ _ _ hr
    refine⟨fun t ht=> ?_,?_,?_⟩
    ·rcases List.mem_cons.mp ht with rfl|ht
     ·exact h1
     ·exact i1 t ht
    ·show _=(0::(mks y.1++mksT r.1))++r.2.1
     rw[h2,i2];simp
    ·show _=tcF (y.1::r.1)++r.2.2
     rw[h3,i3,tcF_cons,List.append_assoc]
  ·split at h
   ·rename_i hm
    subst hm
    cases h
    exact⟨(by simp),rfl,by simp[tcF]⟩
   ·cases h
theorem fitL_cons{p:Pt}{t:Tr}{ps:List Pt}{ts:List Tr}(h:FitL ps ts)(f:Fit p t):FitL (p::ps) (t::ts):=by
 refine⟨by simp[h.1],fun i q u hq hu=> ?_⟩
 cases i with
 |zero=>
  cases (show some p=some q from hq)
  cases (show some t=some u from hu)
  exact f
 |succ i=>exact h.2 i q u (by simpa using hq) (by simpa using hu)
mutual
theorem rd_ok:∀(p:Pt) (ms:List Int) (cs:List Nat) x,rd p ms cs=some x→Told p ms cs x
 | .none,_,_,_,h=>by simp[rd]at h
 | .blank,ms,cs,x,h=>by
  simp only[rd,Option.some.injEq]at h
  subst h
  exact⟨.blank,rfl,rfl⟩
 | .sign S,ms,cs,x,h=>by
  cases cs with
  |nil=>simp[rd]at h
  |cons c cs=>
   simp only[rd]at h
   split at h
   ·rename_i hc
    cases h
    exact⟨.sign hc,rfl,by show _=tcs (.sign ⟨#[c]⟩)++_;rw[tcs_sign];rfl⟩
   ·cases h
 | .row ps,ms,cs,x,h=>by
  simp only[rd]at h
  obtain⟨r,hr,rfl⟩:=omap h
  obtain⟨h1,h2,h3⟩:=rds_ok ps ms cs r hr
  exact⟨h1.row,h2,by rw[tcs_row];exact h3⟩
 | .pick ps,ms,cs,x,h=>by
  cases ms with
  |nil=>simp[rd]at h
  |cons m ms=>
   simp only[rd]at h
   split at h
   ·rename_i hm
    obtain⟨r,hr,rfl⟩:=omap h
    obtain⟨q,hq,h1,h2,h3⟩:=rdk_ok ps m.toNat ms cs r hr
    have e:m=(m.toNat:Int):=by(first|lia|omega)
    refine⟨?_,?_,by rw[tcs_pick];exact h3⟩
    ·rw[e];exact .pick hq h1
    ·show _=(m::mks r.1)++_
     rw[h2];rfl
   ·cases h
 | .again p,ms,cs,x,h=>by
  simp only[rd]at h
  obtain⟨r,hr,rfl⟩:=omap h
  obtain⟨h1,h2,h3⟩:=rdTu_ok (p:=p) (fun ms cs x h=>rd_ok p ms cs x h) _ ms cs r hr
  exact⟨.again h1,h2,by rw[tcs_again];exact h3⟩
 | .held n p,ms,cs,x,h=>by
  simp only[rd]at h
  obtain⟨r,hr,rfl⟩:=omap h
  obtain⟨h1,h2,h3⟩:=rd_ok p ms cs r hr
  exact⟨.held h1,h2,by rw[tcs_held];exact h3⟩
 | .price n p,ms,cs,x,h=>by
  simp only[rd]at h
  obtain⟨r,hr,rfl⟩:=omap h
  obtain⟨h1,h2,h3⟩:=rd_ok p ms cs r hr
  exact⟨.price h1,h2,by rw[tcs_price];exact h3⟩
theorem rds_ok:∀(ps:List Pt) (ms:List Int) (cs:List Nat) x,rds ps ms cs=some x→ToldL ps ms cs x
 |[],ms,cs,x,h=>by
  simp only[rds,Option.some.injEq]at h
  subst h
  exact⟨.nil,rfl,by simp[tcF]⟩
 |p::ps,ms,cs,x,h=>by
  simp only[rds]at h
  split at h
  ·cases h
  ·rename_i y hy
   obtain⟨r,hr,rfl⟩:=omap h
   obtain⟨h1,h2,h3⟩:=rd_ok p ms cs y hy
   obtain⟨i1,i2,i3⟩:=rds_ok ps _ _ r hr
   refine⟨fitL_cons i1 h1,?_,?_⟩
   ·show _=(mks y.1++mkss r.1)++_
    rw[h2,i2,List.append_assoc]
   ·rw[h3,i3,tcF_cons,List.append_assoc]
theorem rdk_ok:∀(ps:List Pt) (k:Nat) (ms:List Int) (cs:List Nat) x,rdk ps k ms cs=some x→∃q,ps[k]? =some q∧Told q ms cs x
 |[],k,ms,cs,x,h=>by simp[rdk]at h
 |p::ps,0,ms,cs,x,h=>by
  simp only[rdk]at h
  exact⟨p,rfl,rd_ok p ms cs x h⟩
 |p::ps,k+1,ms,cs,x,h=>by
  simp only[rdk]at h
  obtain⟨q,hq,r⟩:=rdk_ok ps k ms cs x h
  exact⟨q,by simpa using hq,r⟩
end
theorem rd_len{p:Pt}{ms:List Int}{cs:List Nat}{x}(h:rd p ms cs=some x):x.2.1.length≤ms.length:=by
 obtain⟨_,h2,_⟩:=rd_ok p ms cs x h
 have:=congrArg List.length h2
 rw[List.length_append]at this
 (first|lia|omega)
theorem rdTu_fuel{p:Pt}:∀(n m:Nat) (ms:List Int) (cs:List Nat),ms.length<n→ms.length<m→rdTu (fun ms cs=>rd p ms cs) n ms cs=rdTu (fun ms cs=>rd p ms cs) m ms cs
 |0,_,_,_,h,_=>by(first|lia|omega)
 |_,0,_,_,_,h=>by(first|lia|omega)
 |n+1,m+1,[],_,_,_=>rfl
 |n+1,m+1,i::ms,cs,h1,h2=>by
  unfold rdTu
  simp only[List.length_cons]at h1 h2
  split
  ·split
   ·rfl
   ·rename_i x hx
    have:=rd_len hx
    rw[rdTu_fuel n m _ _ (by(first|lia|omega)) (by(first|lia|omega))]
  ·rfl
theorem rdT_nil{p:Pt}{cs:List Nat}:rdT p [] cs=none:=rfl
theorem rdT_turn{p:Pt}{ms:List Int}{cs:List Nat}:rdT p (0::ms) cs=(match rd p ms cs with
  |none=>none
  |some x=>(rdT p x.2.1 x.2.2).map fun r=>(x.1::r.1,r.2)):=by
 unfold rdT
 rw[List.length_cons]
 conv=>lhs;unfold rdTu
 rw[if_pos rfl]
 split
 ·rfl
 ·rename_i x hx
  have:=rd_len hx
  rw[rdTu_fuel (ms.length+1) (x.2.1.length+1) _ _ (by(first|lia|omega)) (by(first|lia|omega))]
theorem rdT_stop{p:Pt}{ms:List Int}{cs:List Nat}:rdT p (1::ms) cs=some ([],ms,cs):=rfl
theorem rdT_no{p:Pt}{m:Int}{ms:List Int}{cs:List Nat}(h0:m≠0)(h1:m≠1):rdT p (m::ms) cs=none:=by
 unfold rdT rdTu
 rw[if_neg h0,if_neg h1]
theorem rdT_fit{p:Pt}:∀(ts:List Tr) (r:List Int) (s:List Nat),(∀t∈ts,∀(r:List Int) (s:List Nat),rd p (mks t++r) (tcs t++s)=some (t,r,s))→rdT p (mksT ts++r) (tcF ts++s)=some (ts,r,s)
 |[],r,s,_=>rdT_stop
 |t::ts,r,s,h=>by
  show rdT p (0::(mks t++mksT ts)++r) _=_
  rw[List.cons_append,rdT_turn,List.append_assoc,tcF_cons,List.append_assoc,h t (by simp)]
  show Option.map _ (rdT p (mksT ts++r) (tcF ts++s))=_
  rw[rdT_fit ts r s fun u hu=>h u (by simp[hu])]
  rfl
theorem rd_fit{p:Pt}{t:Tr}(h:Fit p t):∀(r:List Int) (s:List Nat),rd p (mks t++r) (tcs t++s)=some (t,r,s):=by
 induction h with
 |blank=>intro r s;rfl
 | @sign S c hc=>
  intro r s
  rw[tcs_sign]
  show(if c∈S.cps.toList then _ else _)=_
  rw[if_pos hc]
  rfl
 | @row ps ts hl hf ih=>
  intro r s
  rw[tcs_row]
  have key:∀(ps:List Pt) (ts:List Tr),ts.length=ps.length→(∀(i:Nat) (p:Pt) (t:Tr),ps[i]? =some p→ts[i]? =some t→∀r s,rd p (mks t++r) (tcs t++s)=some (t,r,s))→rds ps (mkss ts++r) (tcF ts++s)=some (ts,r,s):=by
   intro ps
   induction ps with
   |nil=>
    intro ts hl _
    cases ts with
    |nil=>rfl
    |cons _ _=>cases hl
   |cons q qs ihq=>
    intro ts hl hf
    cases ts with
    |nil=>cases hl
    |cons t ts=>
     have h0:=hf 0 q t rfl rfl (mkss ts++r) (tcF ts++s)
     have h1:=ihq ts (by simpa using hl) fun i p t h1 h2=>hf (i+1) p t (by simpa using h1) (by simpa using h2)
     show rds (q::qs) ((mks t++mkss ts)++r) _=_
     rw[tcF_cons,List.append_assoc,List.append_assoc]
     simp only[rds,h0,h1]
     rfl
  show Option.map _ (rds ps (mkss ts++r) (tcF ts++s))=_
  rw[key ps ts hl ih]
  rfl
 | @pick ps i p t hp hf ih=>
  intro r s
  rw[tcs_pick]
  show(if 0≤(i:Int)then(rdk ps (i:Int).toNat (mks t++r) (tcs t++s)).map _ else none)=_
  rw[if_pos (by(first|lia|omega)),Int.toNat_natCast,rdk_at,hp]
  show Option.map _ (rd p (mks t++r) (tcs t++s))=_
  rw[ih r s]
  rfl
 | @again p ts hf ih=>
  intro r s
  rw[tcs_again]
  show Option.map _ (rdT p (mksT ts++r) (tcF ts++s))=_
  rw[rdT_fit ts r s ih]
  rfl
 | @held n p t hf ih=>
  intro r s
  rw[tcs_held]
  show Option.map _ (rd p (mks t++r) (tcs t++s))=_
  rw[ih r s]
  rfl
 | @price n p t hf ih=>
  intro r s
  rw[tcs_price]
  show Option.map _ (rd p (mks t++r) (tcs t++s))=_
  rw[ih r s]
  rfl
noncomputable def tb(p:Pt)(ms:List Int)(cs:List Nat):Option Tr:=match rd p ms cs with
 |some (t,[],[])=>some t
 |_=>none
theorem tb_some{p:Pt}{ms:List Int}{cs:List Nat}{t:Tr}:tb p ms cs=some t↔Fit p t∧mks t=ms∧tcs t=cs:=by
 constructor
 ·intro h
  unfold tb at h
  split at h
  ·rename_i hx
   cases h
   obtain⟨h1,h2,h3⟩:=rd_ok _ _ _ _ hx
   exact⟨h1,by rw[h2];exact(List.append_nil _).symm,by rw[h3];exact(List.append_nil _).symm⟩
  ·cases h
 ·rintro⟨h1,rfl,rfl⟩
  have:=rd_fit h1 [] []
  rw[List.append_nil,List.append_nil]at this
  unfold tb
  rw[this]
theorem catL_sub{α β:Type}{f:α→Int→List β×Int}(h:∀x l,(f x l).2≤l):∀(xs:List α) (l:Int),(catL f xs l).2≤l∧(0≤(catL f xs l).2→∀x∈xs,∃l',0≤(f x l').2∧∀b∈(f x l').1,b∈(catL f xs l).1)
 |[],l=>⟨Int.le_refl _,fun _ x hx=>by cases hx⟩
 |y::ys,l=>by
  obtain⟨i1,i2⟩:=catL_sub h ys (f y l).2
  have h1:=h y l
  refine⟨Int.le_trans i1 h1,fun h0 x hx=> ?_⟩
  have h0':0≤(catL f ys (f y l).2).2:=h0
  rcases List.mem_cons.mp hx with rfl|hx
  ·exact⟨l,by(first|lia|omega),fun b hb=>List.mem_append.mpr (.inl hb)⟩
  ·obtain⟨l',h2,h3⟩:=i2 h0' x hx
   exact⟨l',h2,fun b hb=>List.mem_append.mpr (.inr (h3 b hb))⟩
theorem drop_eq{T:List Nat}{e k:Nat}(he:e≤T.length)(hk:k≤T.length)(h:T.drop e=T.drop k):e=k:=by
 have:=congrArg List.length h
 rw[List.length_drop,List.length_drop]at this
 (first|lia|omega)
theorem drop_mid{T a b:List Nat}{e:Nat}(h:T.drop e=a++b):T.drop (e+a.length)=b:=by
 rw[←List.drop_drop,h,List.drop_left]
theorem mid_le{T a b:List Nat}{e:Nat}(he:e≤T.length)(h:T.drop e=a++b):e+a.length≤T.length:=by
 have:=congrArg List.length h
 rw[List.length_drop,List.length_append]at this
 (first|lia|omega)
noncomputable def Full(T:List Nat)(n:Nat)(g:Pt→Nat→Int→List (Tr×Nat)×Int):Prop:=∀p e l,wq p→depth p+7*(T.length-e)≤n→e≤T.length→0≤(g p e l).2→∀t k,Fit p t→k≤T.length→T.drop e=tcs t++T.drop k→(t,k)∈(g p e l).1
theorem rowF_all{T:List Nat}{n e0:Nat}{g:Pt→Nat→Int→List (Tr×Nat)×Int}(hg:Full T n g)(hf:∀p e l,(g p e l).2≤l):∀(ps:List Pt) (sm:List (List Tr×Nat)) (l:Int),wqs ps→depths ps+7*(T.length-e0)≤n→
  (rowF g ps sm l).2≤l∧(0≤(rowF g ps sm l).2→∀s∈sm,e0≤s.2→s.2≤T.length→∀ts k,FitL ps ts→k≤T.length→T.drop s.2=tcF ts++T.drop k→(s.1++ts,k)∈(rowF g ps sm l).1)
 |[],sm,l,_,_=>⟨Int.le_refl _,fun _ s hs _ h2 ts k hfit hk ht=>by
  have:ts=[]:=List.eq_nil_of_length_eq_zero hfit.1
  subst this
  have e:=drop_eq h2 hk (by simpa [tcF]using ht)
  subst e
  rw[List.append_nil]
  exact hs⟩
 |p::ps,sm,l,hw,hd=>by
  have hd':max (depth p) (depths ps)+7*(T.length-e0)≤n:=hd
  obtain⟨c1,c2⟩:=catL_sub (f:=fun(s:List Tr×Nat) l=>((g p s.2 l).1.map fun t=>(s.1++[t.1],t.2),(g p s.2 l).2)) (fun s l=>hf p s.2 l) sm l
  obtain⟨i1,i2⟩:=rowF_all (e0:=e0) hg hf ps (catL (fun(s:List Tr×Nat) l=>((g p s.2 l).1.map fun t=>(s.1++[t.1],t.2),(g p s.2 l).2)) sm l).1 (catL (fun(s:List Tr×Nat) l=>((g p s.2 l).1.map fun t=>(s.1++[t.1],t.2),(g p s.2 l).2)) sm l).2 hw.2 (by(first|lia|omega))
  refine⟨Int.le_trans i1 c1,fun h0 s hs h1 h2 ts k hfit hk ht=> ?_⟩
  have h0':0≤(rowF g ps (catL (fun(s:List Tr×Nat) l=>((g p s.2 l).1.map fun t=>(s.1++[t.1],t.2),(g p s.2 l).2)) sm l).1 (catL (fun(s:List Tr×Nat) l=>((g p s.2 l).1.map fun t=>(s.1++[t.1],t.2),(g p s.2 l).2)) sm l).2).2:=h0
  cases ts with
  |nil=>cases hfit.1
  |cons t ts=>
   have ft:Fit p t:=hfit.2 0 p t rfl rfl
   have fl:FitL ps ts:=⟨by simpa using hfit.1,fun i q u hq hu=>hfit.2 (i+1) q u (by simpa using hq) (by simpa using hu)⟩
   rw[tcF_cons,List.append_assoc]at ht
   have m1:=mid_le h2 ht
   have m2:=drop_mid ht
   obtain⟨l',q1,q2⟩:=c2 (by(first|lia|omega)) s hs
   have mem:=hg p s.2 l' hw.1 (by(first|lia|omega)) h2 q1 t (s.2+(tcs t).length) ft m1 (by rw[m2];exact ht)
   have:=i2 h0' (s.1++[t],s.2+(tcs t).length) (q2 _ (List.mem_map.mpr ⟨_,mem,rfl⟩)) (by show e0≤s.2+_;(first|lia|omega)) m1 ts k fl hk m2
   rw[List.append_assoc]at this
   exact this
theorem body_all{T:List Nat}{n:Nat}{g:Pt→Nat→Int→List (Tr×Nat)×Int}(hg:Full T n g)(hf:∀p e l,(g p e l).2≤l)(p:Pt)(e:Nat)(l:Int)(hw:wq p)(hd:depth p+7*(T.length-e)≤n+1)(he:e≤T.length)(h0:0≤(bodyF T g p e l).2)(t:Tr)(k:Nat)(h:Fit p t)(hk:k≤T.length)(ht:T.drop e=tcs t++T.drop k):(t,k)∈(bodyF T g p e l).1:=by
 have hdi:=size_depth_inner p
 cases h with
 |blank=>
  obtain rfl:=drop_eq he hk (show T.drop e=T.drop k from ht)
  exact List.mem_singleton.mpr rfl
 | @sign S c hc=>
  rw[show tcs (.sign ⟨#[c]⟩)=[c]from tcs_sign _]at ht
  have m1:=mid_le he ht
  have m2:=drop_mid ht
  have e2:e+1=k:=drop_eq m1 hk m2
  subst e2
  have e1:T[e]? =some c:=by
   have:=congrArg List.head? ht
   rw[List.head?_drop]at this
   exact this
  show _∈(match T[e]? with|some c=>if c∈S.cps.toList then[(Tr.sign (oneS c),e+1)]else[]|none=>[])
  rw[e1]
  show _∈(if c∈S.cps.toList then[(Tr.sign (oneS c),e+1)]else[])
  rw[if_pos hc]
  exact List.mem_singleton.mpr rfl
 | @row ps ts hl hfi=>
  have hdp:depth (.row ps)=1+depths ps:=hdi
  obtain⟨_,r⟩:=rowF_all (e0:=e) hg hf ps [([],e)] l hw.2.2 (by(first|lia|omega))
  rw[tcs_row]at ht
  have:=r h0 ([],e) (List.mem_singleton.mpr rfl) (Nat.le_refl _) he ts k ⟨hl,hfi⟩ hk ht
  exact List.mem_map.mpr ⟨(ts,k),this,rfl⟩
 | @pick ps i q u hq hu=>
  have hdq:=depth_part (q:= .pick ps) hq
  rw[tcs_pick]at ht
  obtain⟨_,c2⟩:=catL_sub (f:=fun(kp:Nat×Pt) l=>((g kp.2 e l).1.map fun t=>(Tr.pick (kp.1:Int) t.1,t.2),(g kp.2 e l).2)) (fun kp l=>hf kp.2 e l) ((List.range ps.length).zip ps) l
  have hm:(i,q)∈(List.range ps.length).zip ps:=by
   have hi:=(List.getElem?_eq_some_iff.mp hq).1
   refine List.mem_of_getElem? (i:=i) ?_
   rw[List.getElem?_zip_eq_some]
   exact⟨List.getElem?_range hi,hq⟩
  obtain⟨l',q1,q2⟩:=c2 h0 (i,q) hm
  exact q2 _ (List.mem_map.mpr ⟨(u,k),hg q e l' (wqs_mem.mp hw.2.2 q (List.mem_of_getElem? hq)) (by(first|lia|omega)) he q1 u k hu hk ht,rfl⟩)
 | @again q ts hts=>
  have hdq:depth (.again q)=1+depths [q]:=hdi
  simp only[depths]at hdq
  rw[tcs_again]at ht
  obtain⟨c1,c2⟩:=catL_sub (f:=fun(t:Tr×Nat) l=>((g (.again q) t.2 l).1.map fun u=>(Tr.again (t.1::tnsOf u.1),u.2),(g (.again q) t.2 l).2)) (fun t l=>hf _ t.2 l) (g q e l).1 (g q e l).2
  have h0':0≤(catL (fun(t:Tr×Nat) l=>((g (.again q) t.2 l).1.map fun u=>(Tr.again (t.1::tnsOf u.1),u.2),(g (.again q) t.2 l).2)) (g q e l).1 (g q e l).2).2:=h0
  show _∈_++[(Tr.again [],e)]
  cases ts with
  |nil=>
   obtain rfl:=drop_eq he hk (by simpa [tcF]using ht)
   exact List.mem_append.mpr (.inr (List.mem_singleton.mpr rfl))
  |cons u us=>
   have fu:=hts u (by simp)
   have nb:=fit_nb fu hw.1
   rw[tcF_cons,List.append_assoc]at ht
   have m1:=mid_le he ht
   have m2:=drop_mid ht
   have mem:=hg q e l hw.2 (by(first|lia|omega)) he (by(first|lia|omega)) u (e+(tcs u).length) fu m1 (by rw[m2];exact ht)
   obtain⟨l',q1,q2⟩:=c2 h0' _ mem
   have mem2:=hg (.again q) (e+(tcs u).length) l' hw (by(first|lia|omega)) m1 q1 (.again us) k (.again fun v hv=>hts v (by simp[hv])) hk (by rw[tcs_again];exact m2)
   exact List.mem_append.mpr (.inl (q2 _ (List.mem_map.mpr ⟨_,mem2,rfl⟩)))
 | @held m q u hu=>
  have hdq:depth (.held m q)=1+depths [q]:=hdi
  simp only[depths]at hdq
  rw[tcs_held]at ht
  exact List.mem_map.mpr ⟨(u,k),hg q e l hw.2 (by(first|lia|omega)) he h0 u k hu hk ht,rfl⟩
 | @price m q u hu=>
  have hdq:depth (.price m q)=1+depths [q]:=hdi
  simp only[depths]at hdq
  rw[tcs_price]at ht
  exact List.mem_map.mpr ⟨(u,k),hg q e l hw.2.2 (by(first|lia|omega)) he h0 u k hu hk ht,rfl⟩
theorem tra_all(T:List Nat):∀n,Full T n (tra T n)
 |0=>fun p e l hw hd he h0 t k h hk ht=>by have:=depth_pos p;(first|lia|omega)
 |n+1=>fun p e l hw hd he h0 t k h hk ht=>by
  have h1:0≤(bodyF T (tra T n) p e l).2-((bodyF T (tra T n) p e l).1.length:Nat):=h0
  show _∈(if(bodyF T (tra T n) p e l).2-((bodyF T (tra T n) p e l).1.length:Nat)<0 then[]else(bodyF T (tra T n) p e l).1)
  rw[if_neg (by(first|lia|omega))]
  exact body_all (tra_all T n) (fun p e l=>(tra_fw T n p e l).le) p e l hw hd he (by(first|lia|omega)) t k h hk ht
noncomputable abbrev xText:Stmt:=top 23
noncomputable abbrev xLInner:Stmt:=top 24
noncomputable abbrev xMarked:Stmt:=top 26
noncomputable abbrev xRow:Stmt:=top 27
noncomputable abbrev xAgains:Stmt:=top 28
noncomputable abbrev xPicked:Stmt:=top 29
noncomputable abbrev xAll:Stmt:=top 30
noncomputable abbrev xWText:Stmt:=top 31
noncomputable abbrev xLaw:Stmt:=top 35
theorem isL_of{G:Gp}{a:Addr}{xs:List PV}(h:G a=some (.lst xs)):isL (.ref a) G:=⟨_,h⟩
theorem new_of{G G1:Gp}{lf c:Addr}{o:MO}(k:Ch [lf] G G1)(gl:G1 lf=some o)(hc:G1 c=none):G c=none:=by
 cases e2:G c with
 |none=>rfl
 |some o=>
  by_cases hcl:c=lf
  ·subst hcl;rw[gl]at hc;cases hc
  ·have:=k c o (by simpa using hcl) e2;rw[hc]at this;cases this
noncomputable def prP(x:Tr×Nat):PV:= .tup [ent x.1,.int (x.2:Nat)]
noncomputable def prS(x:List Tr×Nat):PV:= .tup [.tup (ents x.1),.int (x.2:Nat)]
theorem cGo2_prs{L:List (Tr×Nat)}{c:Gp→Prop}{ix:List (Option Nat)}{j j2:Nat}{τ:St2}{te:E2}{Q:K2}{G1:Gp}{acc:Addr}(g:Tr×Nat→PV)(hz:L.length<1000000)
  (hc:∀ys,c (up G1 acc (.lst ys))) (he:∀x ys (R:K2),x∈L→R (g x) (up G1 acc (.lst ys))→te (st (st (cap2 ix τ) j (some (ent x.1))) j2 (some (.int (x.2:Nat)))) (up G1 acc (.lst ys)) R)
  (hq:Q (.ref acc) (up G1 acc (.lst (L.map g)))):cGo2 (L.map prP) c ix j j2 τ tYes2 te Q G1 acc:=by
 refine⟨fun i ys G=>ys=(L.take i).map g∧G=up G1 acc (.lst ys),⟨by simp,rfl⟩,?_,?_,?_⟩
 ·rintro i ys G hi ⟨rfl,rfl⟩
  refine⟨hc _,up_same,?_⟩
  rw[List.length_map,List.length_take]
  (first|lia|omega)
 ·rintro i ys G x hx ⟨rfl,rfl⟩
  rw[List.getElem?_map]at hx
  cases e:L[i]? with
  |none=>rw[e]at hx;cases hx
  |some y=>
   rw[e]at hx
   cases hx
   have tk:L.take (i+1)=L.take i++[y]:=by rw[List.take_add_one,e];rfl
   refine⟨_,_,rfl,?_⟩
   refine ifT rfl ?_
   refine he y _ _ (List.mem_of_getElem? e) ⟨up_same,?_,up_up⟩
   rw[tk,List.map_append]
   rfl
 ·rintro ys G ⟨rfl,rfl⟩
  rw[List.length_map,List.take_length]
  exact hq
theorem cGo2_prsS{L:List (List Tr×Nat)}{c:Gp→Prop}{ix:List (Option Nat)}{j j2:Nat}{τ:St2}{te:E2}{Q:K2}{G1:Gp}{acc:Addr}(g:List Tr×Nat→PV)(hz:L.length<1000000)
  (hc:∀ys,c (up G1 acc (.lst ys))) (he:∀x ys (R:K2),x∈L→R (g x) (up G1 acc (.lst ys))→te (st (st (cap2 ix τ) j (some (.tup (ents x.1)))) j2 (some (.int (x.2:Nat)))) (up G1 acc (.lst ys)) R)
  (hq:Q (.ref acc) (up G1 acc (.lst (L.map g)))):cGo2 (L.map prS) c ix j j2 τ tYes2 te Q G1 acc:=by
 refine⟨fun i ys G=>ys=(L.take i).map g∧G=up G1 acc (.lst ys),⟨by simp,rfl⟩,?_,?_,?_⟩
 ·rintro i ys G hi ⟨rfl,rfl⟩
  refine⟨hc _,up_same,?_⟩
  rw[List.length_map,List.length_take]
  (first|lia|omega)
 ·rintro i ys G x hx ⟨rfl,rfl⟩
  rw[List.getElem?_map]at hx
  cases e:L[i]? with
  |none=>rw[e]at hx;cases hx
  |some y=>
   rw[e]at hx
   cases hx
   have tk:L.take (i+1)=L.take i++[y]:=by rw[List.take_add_one,e];rfl
   refine⟨_,_,rfl,?_⟩
   refine ifT rfl ?_
   refine he y _ _ (List.mem_of_getElem? e) ⟨up_same,?_,up_up⟩
   rw[tk,List.map_append]
   rfl
 ·rintro ys G ⟨rfl,rfl⟩
  rw[List.length_map,List.take_length]
  exact hq
structure Ask(n:Nat)(p:Pt)(z:Str)(e:Nat)(l:Int):Prop where
 w:wq p
 d:depth p+7*(z.length-e)≤n
 e:e≤z.length
 z:z.length≤10
 l:l≤300
noncomputable def spAll(n:Nat):Sp2:=fun ps G Q=>∃(p:Pt) (z:Str) (e:Nat) (lf:Addr) (l:Int),ps=[enc p,.str z,.int (e:Nat),.ref lf]∧Ask n p z e l∧G lf=some (.lst [.int l])∧
 ∀c G',G c=none→G' c=some (.lst ((tra z.cps.toList n p e l).1.map prP))→G' lf=some (.lst [.int (tra z.cps.toList n p e l).2])→Ch [lf] G G'→Q (.ref c) G'
theorem call_i{n:Nat}{p:Pt}{z:Str}{e:Nat}{lf:Addr}{l:Int}{G:Gp}{Q:K2}(a:Ask n p z e l)(gl:G lf=some (.lst [.int l]))
  (q:∀c G',G c=none→G' c=some (.lst ((tra z.cps.toList n p e l).1.map prP))→G' lf=some (.lst [.int (tra z.cps.toList n p e l).2])→Ch [lf] G G'→Q (.ref c) G'):spAll n [enc p,.str z,.int (e:Nat),.ref lf] G Q:=⟨p,z,e,lf,l,rfl,a,gl,q⟩
theorem tra_len{n:Nat}{p:Pt}{z:Str}{e:Nat}{l:Int}(a:Ask n p z e l)(T:List Nat):(tra T n p e l).1.length≤300:=(tra_fw T n p e l).len a.l
noncomputable abbrev rStep(T:List Nat)(n:Nat)(p:Pt):List Tr×Nat→Int→List (List Tr×Nat)×Int:=fun s l=>((tra T n p s.2 l).1.map fun t=>(s.1++[t.1],t.2),(tra T n p s.2 l).2)
theorem rowF_snoc{T:List Nat}{n:Nat}:∀(ps:List Pt) (p:Pt) (sm:List (List Tr×Nat)) (l:Int),rowF (tra T n) (ps++[p]) sm l=catL (rStep T n p) (rowF (tra T n) ps sm l).1 (rowF (tra T n) ps sm l).2
 |[],p,sm,l=>rfl
 |r::ps,p,sm,l=>rowF_snoc ps p _ _
section
variable{P:Program}{w:World}{K:PySem.W.Frag}{mg:Str→Option Value}{base:Heap}{f fn fi ft fa fs fw:Addr}{fd dn di dt da ds dw:FuncData}
noncomputable abbrev nRow:List Str:=["parts", "text", "at", "left", "found", "part", "more", "some", "end"]
theorem scRow:FnScope nRow ["parts", "text", "at", "left"] (defScope xRow):=⟨rfl,rfl,rfl,by decide+kernel,rfl,by decide+kernel,by decide+kernel⟩
noncomputable abbrev kR1:Scope:=cscope [(".0",.local),("tree",.local),("to",.local),("some",.free)]
noncomputable abbrev kR2:Scope:=cscope [(".0",.local),("some",.local),("end",.local)]
theorem cR1:compOkB (defScope xRow) nRow kR1 ["tree", "to", "some"] [none,none,some 7] 0 "tree" =true:=by decide+kernel
theorem cR2:compOkB (defScope xRow) nRow kR2 ["some", "end"] [none,none] 0 "some" =true:=by decide+kernel
theorem dR1:CompTwo kR1 ["tree", "to", "some"] [none,none,some 7] 1 "to" :=⟨rfl,by decide+kernel,rfl⟩
theorem dR2:CompTwo kR2 ["some", "end"] [none,none] 1 "end" :=⟨rfl,by decide+kernel,rfl⟩
theorem row_in{n:Nat}{p:Pt}{z:Str}{lf sm mo:Addr}{l:Int}{S:List (List Tr×Nat)}{G:Gp}{D:D2}{t0 t2 t7 t8:Option PV}(A:∀s∈S,Ask n p z s.2 l∧s.1.length≤1000)(hl:l≤300)(gl:G lf=some (.lst [.int l]))(gs:G sm=some (.lst (S.map prS)))(gm:G mo=some (.lst []))(nlm:lf≠mo)(nls:lf≠sm)(nsm:sm≠mo)
  (q:∀t7 t8 G',G' mo=some (.lst ((catL (rStep z.cps.toList n p) S l).1.map prS))→G' lf=some (.lst [.int (catL (rStep z.cps.toList n p) S l).2])→Ch [lf,mo] G G'→
   D.nx [t0,some (.str z),t2,some (.ref lf),some (.ref sm),some (enc p),some (.ref mo),t7,t8] G'):
  sFor (itL (eV 4)) (gN2 7 (7+1)) (sDrop (eMtL extend2 (eV 6) (aCons (eComp2 (itL (eCall (spAll n) (aCons (eV 5) (aCons (eV 1) (aCons (eV 8) (aCons (eV 3) aNil)))))) [none,none,some 7] 0 1 tYes2
    (eTup (aCons (eOp addE2 (eV 2) (eTup (aCons (eV 0) aNil))) (aCons (eV 1) aNil)))) aNil))) D
   [t0,some (.str z),t2,some (.ref lf),some (.ref sm),some (enc p),some (.ref mo),t7,t8] G:=by
 have hF:∀(x:List Tr×Nat) l,Fw l (rStep z.cps.toList n p x l):=fun x l=>(tra_fw _ n _ _ l).map _
 left
 rw[lk_lst gs]
 left
 refine⟨fun i τ G'=>∃t7 t8,τ=[t0,some (.str z),t2,some (.ref lf),some (.ref sm),some (enc p),some (.ref mo),t7,t8]∧G' mo=some (.lst ((catL (rStep z.cps.toList n p) (S.take i) l).1.map prS))∧G' lf=some (.lst [.int (catL (rStep z.cps.toList n p) (S.take i) l).2])∧Ch [lf,mo] G G',
  ⟨t7,t8,rfl,gm,gl,.refl⟩,?_,?_,?_⟩
 ·rintro i τ G' hi ⟨_,_,rfl,g1,g2,k2⟩
  exact lk_lst (k2 sm _ (by simp[Ne.symm nls,nsm]) gs)
 ·rintro i x τ G' hx ⟨_,_,rfl,g1,g2,k2⟩
  rw[List.getElem?_map]at hx
  cases ex:S[i]? with
  |none=>rw[ex]at hx;cases hx
  |some y=>
   rw[ex]at hx
   cases hx
   have tk:S.take (i+1)=S.take i++[y]:=by rw[List.take_add_one,ex];rfl
   obtain⟨Ay,hyl⟩:=A y (List.mem_of_getElem? ex)
   have hle2:=(catL_fw hF (S.take i) l).1
   have hlen2:=(catL_fw hF (S.take (i+1)) l).2
   rw[tk,catL_snoc]at hlen2
   have sn:=catL_snoc (rStep z.cps.toList n p) (S.take i) y l
   rw[←tk]at sn
   generalize catL (rStep z.cps.toList n p) (S.take i) l=r2 at g1 g2 hle2 hlen2 sn
   obtain⟨L2,l2⟩:=r2
   have A2:Ask n p z y.2 l2:=⟨Ay.w,Ay.d,Ay.e,Ay.z,by change l2≤l at hle2;(first|lia|omega)⟩
   refine⟨isL_of g1,?_⟩
   left
   refine call_i A2 g2 fun c2 G2 hc2 gc2 gl2 k3=> ?_
   have hlen3:=tra_len A2 z.cps.toList
   change ((((L2++(tra z.cps.toList n p y.2 l2).1.map fun t=>(y.1++[t.1],t.2))).length:Nat):Int)≤_ at hlen2
   change _=(L2++(tra z.cps.toList n p y.2 l2).1.map fun t=>(y.1++[t.1],t.2),(tra z.cps.toList n p y.2 l2).2)at sn
   generalize tra z.cps.toList n p y.2 l2=r3 at gc2 gl2 hlen3 hlen2 sn
   obtain⟨L3,l3⟩:=r3
   rw[List.length_append,List.length_map]at hlen2
   have hl2:L2.length+L3.length≤300:=by
    change ((L2.length+L3.length:Nat):Int)≤_ at hlen2
    split at hlen2<;>(first|lia|omega)
   have nmc2:mo≠c2:=ne_none g1 hc2
   have nlc2:lf≠c2:=ne_none g2 hc2
   have gm2:G2 mo=some (.lst (L2.map prS)):=k3 mo _ (by simpa using Ne.symm nlm) g1
   left
   rw[lk_lst gc2]
   left
   intro acc hacc
   have nca:c2≠acc:=ne_none gc2 hacc
   have nma:mo≠acc:=ne_none gm2 hacc
   have nla:lf≠acc:=ne_none gl2 hacc
   refine cGo2_prs (fun t=>prS (y.1++[t.1],t.2)) (Nat.lt_of_le_of_lt hlen3 (by decide)) (fun ys=>lk_lst (by rw[up_ne nca];exact gc2)) (fun x ys R hx r=> ?_) ?_
   ·refine⟨lek,?_⟩
    refine addET_i (xs:=ents y.1) (ys:=[ent x.1]) (by rw[ents_length];simp;(first|lia|omega)) ?_
    refine⟨lek,?_⟩
    have he:ents y.1++[ent x.1]=ents (y.1++[x.1]):=by rw[ents_append];rfl
    rw[he]
    exact r
   ·left
    refine extL_i (xs:=L2.map prS) (ys:=L3.map fun t=>prS (y.1++[t.1],t.2)) (by rw[up_ne nma];exact gm2) up_same (by rw[List.length_map,List.length_map];(first|lia|omega)) ?_
    refine⟨_,_,rfl,?_,?_,?_⟩
    ·rw[up_same,sn,List.map_append,List.map_map];rfl
    ·rw[up_ne nlm,up_ne nla,sn];exact gl2
    ·exact((k2.trans ((k3.mono (by simp)).new hacc)).put (by simp))
 ·rintro τ G' ⟨_,_,rfl,g1,g2,k2⟩
  rw[List.length_map,List.take_length]at g1 g2
  exact q _ _ G' g1 g2 k2
noncomputable def spRow(n:Nat):Sp2:=fun as G Q=>∃(ps:List Pt) (z:Str) (e:Nat) (lf:Addr) (l:Int),as=[.tup (encs ps),.str z,.int (e:Nat),.ref lf]∧(wqs ps∧ps.length≤6∧depths ps+7*(z.length-e)≤n∧e≤z.length∧z.length≤10∧l≤300)∧G lf=some (.lst [.int l])∧
 ∀c G',G c=none→G' c=some (.lst (((rowF (tra z.cps.toList n) ps [([],e)] l).1.map fun s=>(Tr.row s.1,s.2)).map prP))→G' lf=some (.lst [.int (rowF (tra z.cps.toList n) ps [([],e)] l).2])→Ch [lf] G G'→Q (.ref c) G'
theorem ok_row{n k:Nat}(hk:1≤k)(F:Fun K "_law_row" "_law_row" xRow f fd)(B:BN mg)(C:Cal2 P w K mg base k "_law_all" fa da ["pattern", "text", "at", "left"] (spAll n)):Ok2 P w K mg base (k+1) f fd ["parts", "text", "at", "left"] (spRow n):=by
 have nd:=scRow.nd
 have hUE:=UseE.mk
 refine fn2 F scRow (fun vs G Q h=> ?_) (fun cdv A outer s H E as G Q hr h=> ?_)
 ·obtain⟨_,_,_,_,_,rfl,_⟩:=h
  rfl
 have hU:=u200 hr
 apply ex2
 case a=>
  symm
  all_goals try first
   |(refine' j_comp2 cR1 dR1 rfl ?_ fun _ _ _ _=>⟨?_,?_⟩)
   |(refine' j_comp2 cR2 dR2 rfl ?_ fun _ _ _ _=>⟨?_,?_⟩)
  all_goals symm
 obtain⟨ps,z,e,lf,l,rfl,⟨hw,hps,hn,he,hz,hl⟩,gl,q⟩:=h
 have hT:z.cps.toList.length=z.length:=by rw[Array.length_toList];rfl
 have hok:∀i,∀s∈(rowF (tra z.cps.toList n) (ps.take i) [([],e)] l).1,RD z.cps.toList e ([]++ps.take i) s:=fun i=>
  rowF_ok (fun p e l hw he x hx=>tra_ok _ n p e l hw he x hx) (ps.take i) [] [([],e)] l (fun s hs=>by
   have:s=([],e):=List.mem_singleton.mp hs
   subst this
   exact⟨Nat.le_refl _,by rw[hT];exact he,fun h=>(by cases h),FitL.nil,rfl⟩) (wqs_mem.mpr fun c hc=>wqs_mem.mp hw c (List.mem_of_mem_take hc))
 have hfew:=fun i=>rowF_fw (g:=tra z.cps.toList n) (fun p e l=>tra_fw _ n p e l) (ps.take i) [([],e)] l hl (by simp)
 left
 refine⟨lek,lek,lek,fun s0 hs0=> ?_⟩
 have nls:lf≠s0:=ne_none gl hs0
 left
 refine⟨fun i τ G'=>∃sm t5 t6 t7 t8,τ=[some (.tup (encs ps)),some (.str z),some (.int (e:Nat)),some (.ref lf),some (.ref sm),t5,t6,t7,t8]∧G' sm=some (.lst ((rowF (tra z.cps.toList n) (ps.take i) [([],e)] l).1.map prS))∧G' lf=some (.lst [.int (rowF (tra z.cps.toList n) (ps.take i) [([],e)] l).2])∧Ch [lf] G G'∧G sm=none,
  ⟨s0,_,_,_,_,rfl,up_same,by rw[up_ne nls];exact gl,Ch.refl.new hs0,hs0⟩,fun _ _ _ _ _=>trivial,?_,?_⟩
 ·rintro i x τ G' hx ⟨sm,_,_,_,_,rfl,g1,g2,k2,hsm⟩
  rw[encs_map,List.getElem?_map]at hx
  cases ex:ps[i]? with
  |none=>rw[ex]at hx;cases hx
  |some p=>
   rw[ex]at hx
   cases hx
   have tk:ps.take (i+1)=ps.take i++[p]:=by rw[List.take_add_one,ex];rfl
   have hpm:=List.mem_of_getElem? ex
   have hok1:=hok i
   obtain⟨hle1,hlen1⟩:=hfew i
   have sn:=rowF_snoc (T:=z.cps.toList) (n:=n) (ps.take i) p [([],e)] l
   rw[←tk]at sn
   generalize rowF (tra z.cps.toList n) (ps.take i) [([],e)] l=r at g1 g2 hok1 hle1 hlen1 sn
   obtain⟨S,l1⟩:=r
   have nlsm:lf≠sm:=ne_none gl hsm
   refine⟨lek,fun mo hmo=> ?_⟩
   have nlm:lf≠mo:=ne_none g2 hmo
   have nsm:sm≠mo:=ne_none g1 hmo
   refine row_in (p:=p) (S:=S) (l:=l1) (fun s hs=> ?_) (Int.le_trans hle1 hl) (by rw[up_ne nlm];exact g2) (by rw[up_ne nsm];exact g1) up_same nlm nlsm nsm (fun t7 t8 G3 g3 gl3 k3=> ?_)
   ·have rd:=hok1 s hs
    have h1:=rd.lo
    have h2:=rd.hi
    have h3:=rd.fit.1
    have h4:=depth_mem hpm
    rw[List.nil_append,List.length_take]at h3
    rw[hT]at h2
    exact⟨⟨wqs_mem.mp hw p hpm,by(first|lia|omega),h2,hz,Int.le_trans hle1 hl⟩,by(first|lia|omega)⟩
   ·refine⟨mo,_,_,_,_,rfl,by rw[sn];exact g3,by rw[sn];exact gl3,?_,new_of k2 g2 hmo⟩
    intro c o hc hG
    have h1:=k2 c o hc hG
    have ncm:c≠mo:=fun z=>by subst z;rw[hmo]at h1;cases h1
    refine k3 c o (by simp[ncm];simpa using hc) ?_
    rw[up_ne ncm];exact h1
 ·rintro τ G' ⟨sm,_,_,_,_,rfl,g1,g2,k2,hsm⟩
  have hlen1:=(hfew ps.length).2
  rw[encs_length,List.take_length]at g1 g2
  rw[List.take_length]at hlen1
  left
  rw[lk_lst g1]
  left
  intro acc hacc
  have nsa:sm≠acc:=ne_none g1 hacc
  have nla:lf≠acc:=ne_none g2 hacc
  refine cGo2_prsS (fun s=>prP (Tr.row s.1,s.2)) (by(first|lia|omega)) (fun ys=>lk_lst (by rw[up_ne nsa];exact g1)) (fun x ys R hx r=>⟨lek,lek,r⟩) ?_
  refine⟨_,GE.refl,q acc _ (new_of k2 g2 hacc) ?_ (by rw[up_ne nla];exact g2) (k2.new hacc)⟩
  rw[up_same,List.map_map];rfl
end
theorem gt_tns{p:Pt}{u:Tr}(h:Fit (.again p) u):u= .again (tnsOf u):=by
 cases h;rfl
theorem tra_again_len(T:List Nat){p:Pt}(hw:wq (.again p)):∀(n e:Nat) (l:Int),e≤T.length→∀x∈(tra T n (.again p) e l).1,(tnsOf x.1).length≤x.2-e
 |0,e,l,_,x,h=>by cases h
 |n+1,e,l,he,x,h=>by
  have h1:x∈(if(bodyF T (tra T n) (.again p) e l).2-((bodyF T (tra T n) (.again p) e l).1.length:Nat)<0 then[]else(bodyF T (tra T n) (.again p) e l).1):=h
  split at h1
  ·cases h1
  ·rcases List.mem_append.mp h1 with h|h
   ·obtain⟨y,hy,l',hx⟩:=catL_mem h
    obtain⟨u,hu,rfl⟩:=List.mem_map.mp hx
    have oy:=tra_ok T n p e l hw.2 he y hy
    have ou:=tra_ok T n (.again p) y.2 l' hw oy.hi u hu
    have ih:=tra_again_len T hw n y.2 l' oy.hi u hu
    have:=oy.bl hw.1
    have:=ou.lo
    show(y.1::tnsOf u.1).length≤u.2-e
    rw[List.length_cons]
    (first|lia|omega)
   ·have:x=(Tr.again [],e):=List.mem_singleton.mp h
    subst this
    exact Nat.zero_le _
theorem addEL_i{G:Gp}{a b:Addr}{xs ys:List PV}{Q:K2}(h:lk G a=some xs)(h2:lk G b=some ys)(hl:xs.length+ys.length≤1000000)(q:∀c,G c=none→Q (.ref c) (up G c (.lst (xs++ys)))):addE2 (.ref a) (.ref b) G Q:=by
 unfold addE2;exact addL_i h h2 (Nat.le_trans hl (by decide)) q
noncomputable abbrev aStep(T:List Nat)(n:Nat)(p:Pt):Tr×Nat→Int→List (Tr×Nat)×Int:=fun t l=>((tra T n (.again p) t.2 l).1.map fun u=>(Tr.again (t.1::tnsOf u.1),u.2),(tra T n (.again p) t.2 l).2)
noncomputable abbrev pStep(T:List Nat)(n e:Nat):Nat×Pt→Int→List (Tr×Nat)×Int:=fun kp l=>((tra T n kp.2 e l).1.map fun t=>(Tr.pick (kp.1:Int) t.1,t.2),(tra T n kp.2 e l).2)
section
variable{P:Program}{w:World}{K:PySem.W.Frag}{mg:Str→Option Value}{base:Heap}{f fn fi ft fa fs fw:Addr}{fd dn di dt da ds dw:FuncData}
noncomputable abbrev nAg:List Str:=["pattern", "text", "at", "left", "found", "tree", "end"]
theorem scAg:FnScope nAg ["pattern", "text", "at", "left"] (defScope xAgains):=⟨rfl,rfl,rfl,by decide+kernel,rfl,by decide+kernel,by decide+kernel⟩
noncomputable abbrev kA1:Scope:=cscope [(".0",.local),("rest",.local),("to",.local),("tree",.free)]
theorem cA1:compOkB (defScope xAgains) nAg kA1 ["rest", "to", "tree"] [none,none,some 5] 0 "rest" =true:=by decide+kernel
theorem dA1:CompTwo kA1 ["rest", "to", "tree"] [none,none,some 5] 1 "to" :=⟨rfl,by decide+kernel,rfl⟩
noncomputable def spAgains(n:Nat):Sp2:=fun as G Q=>∃(p:Pt) (z:Str) (e:Nat) (lf:Addr) (l:Int),as=[enc (.again p),.str z,.int (e:Nat),.ref lf]∧Ask (n+1) (.again p) z e l∧G lf=some (.lst [.int l])∧
 ∀c G',G c=none→G' c=some (.lst ((againF (tra z.cps.toList n) p e l).1.map prP))→G' lf=some (.lst [.int (againF (tra z.cps.toList n) p e l).2])→Ch [lf] G G'→Q (.ref c) G'
theorem ok_agains{n k:Nat}(hk:1≤k)(F:Fun K "_law_agains" "_law_agains" xAgains f fd)(B:BN mg)(C:Cal2 P w K mg base k "_law_all" fa da ["pattern", "text", "at", "left"] (spAll n)):Ok2 P w K mg base (k+1) f fd ["pattern", "text", "at", "left"] (spAgains n):=by
 have nd:=scAg.nd
 have hUE:=UseE.mk
 refine fn2 F scAg (fun vs G Q h=> ?_) (fun cdv A outer s H E as G Q hr h=> ?_)
 ·obtain⟨_,_,_,_,_,rfl,_⟩:=h
  rfl
 have hU:=u200 hr
 apply ex2
 case a=>
  symm
  all_goals try (refine' j_comp2 cA1 dA1 rfl ?_ fun _ _ _ _=>⟨?_,?_⟩)
  all_goals symm
 obtain⟨p,z,e,lf,l,rfl,A0,gl,q⟩:=h
 have hw:=A0.w
 have hd:depth (.again p)=1+depth p:=rfl
 have hn:=A0.d
 have A1:Ask n p z e l:=⟨hw.2,by(first|lia|omega),A0.e,A0.z,A0.l⟩
 left
 refine⟨lek,fun fl hfl=> ?_⟩
 have nlf:lf≠fl:=ne_none gl hfl
 left
 refine ixT_i (x:=enc p) rfl ?_
 refine call_i A1 (show up G fl (.lst []) lf=_ by rw[up_ne nlf];exact gl) fun c G1 hc gc gl1 k=> ?_
 have hok:=tra_ok z.cps.toList n p e l hw.2 (by have:=A0.e;rw[Array.length_toList];exact this)
 have hle:(tra z.cps.toList n p e l).2≤300:=Int.le_trans (tra_fw _ n p e l).le A0.l
 have hlen:=tra_len A1 z.cps.toList
 have eg:againF (tra z.cps.toList n) p e l=((catL (aStep z.cps.toList n p) (tra z.cps.toList n p e l).1 (tra z.cps.toList n p e l).2).1++[(Tr.again [],e)],(catL (aStep z.cps.toList n p) (tra z.cps.toList n p e l).1 (tra z.cps.toList n p e l).2).2):=rfl
 rw[eg]at q
 generalize tra z.cps.toList n p e l=r at gc gl1 hok hle hlen q
 obtain⟨L,l1⟩:=r
 have hF:∀(x:Tr×Nat) l,Fw l (aStep z.cps.toList n p x l):=fun x l=>(tra_fw _ n _ _ l).map _
 have gf1:G1 fl=some (.lst []):=k fl _ (by simpa using Ne.symm nlf) up_same
 have ncl:lf≠c:=fun z=>by subst z;rw[up_ne nlf,gl]at hc;cases hc
 have nfc:fl≠c:=fun z=>by subst z;rw[up_same]at hc;cases hc
 have kG1:Ch [lf] G G1:=(Ch.refl.new hfl).trans k
 left
 rw[lk_lst gc]
 left
 refine⟨fun i τ G'=>∃t5 t6,τ=[some (enc (.again p)),some (.str z),some (.int (e:Nat)),some (.ref lf),some (.ref fl),t5,t6]∧G' fl=some (.lst ((catL (aStep z.cps.toList n p) (L.take i) l1).1.map prP))∧G' lf=some (.lst [.int (catL (aStep z.cps.toList n p) (L.take i) l1).2])∧Ch [lf,fl] G1 G',
  ⟨_,_,rfl,gf1,gl1,.refl⟩,?_,?_,?_⟩
 ·rintro i τ G' hi ⟨_,_,rfl,g1,g2,k2⟩
  exact lk_lst (k2 c _ (by simp[Ne.symm ncl,Ne.symm nfc]) gc)
 ·rintro i x τ G' hx ⟨_,_,rfl,g1,g2,k2⟩
  rw[List.getElem?_map]at hx
  cases ex:L[i]? with
  |none=>rw[ex]at hx;cases hx
  |some y=>
   rw[ex]at hx
   cases hx
   have tk:L.take (i+1)=L.take i++[y]:=by rw[List.take_add_one,ex];rfl
   have hy:=hok y (List.mem_of_getElem? ex)
   have hylt:=hy.bl hw.1
   have hyhi:=hy.hi
   rw[Array.length_toList]at hyhi
   have hle2:=(catL_fw hF (L.take i) l1).1
   have hlen2:=(catL_fw hF (L.take (i+1)) l1).2
   rw[tk,catL_snoc]at hlen2
   have sn:=catL_snoc (aStep z.cps.toList n p) (L.take i) y l1
   rw[←tk]at sn
   generalize catL (aStep z.cps.toList n p) (L.take i) l1=r2 at g1 g2 hle2 hlen2 sn
   obtain⟨L2,l2⟩:=r2
   have A2:Ask n (.again p) z y.2 l2:=⟨hw,by change y.2≤z.length at hyhi;(first|lia|omega),hyhi,A0.z,by change l2≤l1 at hle2;change l1≤300 at hle;(first|lia|omega)⟩
   refine⟨isL_of g1,?_⟩
   left
   refine call_i A2 g2 fun c2 G2 hc2 gc2 gl2 k3=> ?_
   have hok2:=tra_ok z.cps.toList n (.again p) y.2 l2 hw (by rw[Array.length_toList];exact hyhi)
   have hlen3:=tra_len A2 z.cps.toList
   have hts:=tra_again_len z.cps.toList hw n y.2 l2 (by rw[Array.length_toList];exact hyhi)
   change ((((L2++(tra z.cps.toList n (.again p) y.2 l2).1.map fun u=>(Tr.again (y.1::tnsOf u.1),u.2))).length:Nat):Int)≤_ at hlen2
   change _=(L2++(tra z.cps.toList n (.again p) y.2 l2).1.map fun u=>(Tr.again (y.1::tnsOf u.1),u.2),(tra z.cps.toList n (.again p) y.2 l2).2)at sn
   generalize tra z.cps.toList n (.again p) y.2 l2=r3 at gc2 gl2 hok2 hlen3 hlen2 sn hts
   obtain⟨L3,l3⟩:=r3
   rw[List.length_append,List.length_map]at hlen2
   change l1≤300 at hle
   have hl2:L2.length+L3.length≤300:=by
    change ((L2.length+L3.length:Nat):Int)≤_ at hlen2
    split at hlen2<;>(first|lia|omega)
   have gf2:G2 fl=some (.lst (L2.map prP)):=k3 fl _ (by simpa using Ne.symm nlf) g1
   left
   rw[lk_lst gc2]
   left
   intro acc hacc
   have nca:c2≠acc:=ne_none gc2 hacc
   have nfa:fl≠acc:=ne_none gf2 hacc
   have nla:lf≠acc:=ne_none gl2 hacc
   refine cGo2_prs (fun u=>prP (Tr.again (y.1::tnsOf u.1),u.2)) (Nat.lt_of_le_of_lt hlen3 (by decide)) (fun ys=>lk_lst (by rw[up_ne nca];exact gc2)) (fun x ys R hx r=> ?_) ?_
   ·have hxt:=gt_tns (hok2 x hx).fit
    rcases x with⟨xt,xe⟩
    change xt=_ at hxt
    rw[hxt]
    refine⟨lek,?_⟩
    refine ixT_i (x:= .tup (ents (tnsOf xt))) rfl ?_
    refine addET_i (xs:=[ent y.1]) (ys:=ents (tnsOf xt)) ?_ ?_
    ·have h1:=hts _ hx
     have h2:=(hok2 _ hx).hi
     rw[Array.length_toList]at h2
     have h3:=A0.z
     rw[ents_length]
     change (tnsOf xt).length≤xe-y.2 at h1
     change xe≤z.length at h2
     show 1+_≤_
     (first|lia|omega)
    refine⟨lek,lek,?_⟩
    rw[←hxt]
    exact r
   ·left
    refine extL_i (xs:=L2.map prP) (ys:=L3.map fun u=>prP (Tr.again (y.1::tnsOf u.1),u.2)) (by rw[up_ne nfa];exact gf2) up_same (by rw[List.length_map,List.length_map];(first|lia|omega)) ?_
    refine⟨_,_,rfl,?_,?_,?_⟩
    ·rw[up_same,sn,List.map_append,List.map_map];rfl
    ·rw[up_ne nlf,up_ne nla,sn];exact gl2
    ·exact((k2.trans ((k3.mono (by simp)).new hacc)).put (by simp))
 ·rintro τ G' ⟨_,_,rfl,g1,g2,k2⟩
  rw[List.length_map,List.take_length]at g1 g2
  have hlen2:=(catL_fw hF L l1).2
  change l1≤300 at hle
  have hl3:(catL (aStep z.cps.toList n p) L l1).1.length≤300:=by split at hlen2<;>(first|lia|omega)
  left
  refine⟨lek,lek,lek,lek,fun l5 hl5=> ?_⟩
  have nf5:fl≠l5:=ne_none g1 hl5
  have nl5:lf≠l5:=ne_none g2 hl5
  left
  refine addEL_i (lk_lst (show up G' l5 _ fl=_ by rw[up_ne nf5];exact g1)) lk_up (by rw[List.length_map];simp;(first|lia|omega)) fun l6 hl6=> ?_
  have nl6:lf≠l6:=fun z=>by subst z;rw[up_ne nl5,g2]at hl6;cases hl6
  have kk:Ch [lf] G G':=fun b o hb hG=>by
   have nb:b≠fl:=fun z=>by subst z;rw[hfl]at hG;cases hG
   exact k2 b o (by simp[nb];simpa using hb) (kG1 b o hb hG)
  refine⟨_,GE.refl,q l6 _ ?_ ?_ ?_ ((kk.new hl5).new hl6)⟩
  ·have h1:=new_of (kk.new hl5) (show up G' l5 _ lf=_ by rw[up_ne nl5];exact g2) hl6
   exact h1
  ·rw[up_same,List.map_append];rfl
  ·rw[up_ne nl6,up_ne nl5];exact g2
noncomputable abbrev nPi:List Str:=["parts", "text", "at", "left", "found", "k"]
theorem scPi:FnScope nPi ["parts", "text", "at", "left"] (defScope xPicked):=⟨rfl,rfl,rfl,by decide+kernel,rfl,by decide+kernel,by decide+kernel⟩
noncomputable abbrev kP1:Scope:=cscope [(".0",.local),("tree",.local),("end",.local),("k",.free)]
theorem cP1:compOkB (defScope xPicked) nPi kP1 ["tree", "end", "k"] [none,none,some 5] 0 "tree" =true:=by decide+kernel
theorem dP1:CompTwo kP1 ["tree", "end", "k"] [none,none,some 5] 1 "end" :=⟨rfl,by decide+kernel,rfl⟩
noncomputable def spPicked(n:Nat):Sp2:=fun as G Q=>∃(ps:List Pt) (z:Str) (e:Nat) (lf:Addr) (l:Int),as=[.tup (encs ps),.str z,.int (e:Nat),.ref lf]∧(∀p∈ps,Ask n p z e l)∧(ps.length≤6∧l≤300)∧G lf=some (.lst [.int l])∧
 ∀c G',G c=none→G' c=some (.lst ((pickF (tra z.cps.toList n) e ps l).1.map prP))→G' lf=some (.lst [.int (pickF (tra z.cps.toList n) e ps l).2])→Ch [lf] G G'→Q (.ref c) G'
theorem ok_picked{n k:Nat}(hk:1≤k)(F:Fun K "_law_picked" "_law_picked" xPicked f fd)(B:BN mg)(C:Cal2 P w K mg base k "_law_all" fa da ["pattern", "text", "at", "left"] (spAll n)):Ok2 P w K mg base (k+1) f fd ["parts", "text", "at", "left"] (spPicked n):=by
 have nd:=scPi.nd
 have hUE:=UseE.mk
 refine fn2 F scPi (fun vs G Q h=> ?_) (fun cdv A outer s H E as G Q hr h=> ?_)
 ·obtain⟨_,_,_,_,_,rfl,_⟩:=h
  rfl
 have hU:=u200 hr
 apply ex2
 case a=>
  symm
  all_goals try (refine' j_comp2 cP1 dP1 rfl ?_ fun _ _ _ _=>⟨?_,?_⟩)
  all_goals symm
 obtain⟨ps,z,e,lf,l,rfl,A,⟨hps,hl⟩,gl,q⟩:=h
 have hF:∀(x:Nat×Pt) l,Fw l (pStep z.cps.toList n e x l):=fun x l=>(tra_fw _ n _ _ l).map _
 left
 refine⟨lek,fun fl hfl=> ?_⟩
 have nlf:lf≠fl:=ne_none gl hfl
 left
 refine lenT_i ?_
 rw[encs_length]
 left
 refine⟨by(first|lia|omega),by(first|lia|omega),?_⟩
 have hLl:((List.range ps.length).zip ps).length=ps.length:=by simp
 refine⟨fun i τ G'=>∃t5,τ=[some (.tup (encs ps)),some (.str z),some (.int (e:Nat)),some (.ref lf),some (.ref fl),t5]∧G' fl=some (.lst ((catL (pStep z.cps.toList n e) (((List.range ps.length).zip ps).take i) l).1.map prP))∧G' lf=some (.lst [.int (catL (pStep z.cps.toList n e) (((List.range ps.length).zip ps).take i) l).2])∧Ch [lf,fl] (up G fl (.lst [])) G',
  ⟨_,rfl,up_same,by rw[up_ne nlf];exact gl,.refl⟩,fun _ _ _ _ _=>trivial,?_,?_⟩
 ·rintro i x τ G' hx ⟨_,rfl,g1,g2,k2⟩
  obtain⟨hi',rfl⟩:=ints_at hx
  have hi:i<ps.length:=by simpa using hi'
  have ep:ps[i]? =some ps[i]:=List.getElem?_eq_getElem hi
  have ey:((List.range ps.length).zip ps)[i]? =some (i,ps[i]):=by
   rw[List.getElem?_zip_eq_some]
   exact⟨List.getElem?_range hi,ep⟩
  generalize ps[i]=p at ep ey
  have hpm:=List.mem_of_getElem? ep
  generalize (List.range ps.length).zip ps=L at g1 g2 ey⊢
  have tk:L.take (i+1)=L.take i++[(i,p)]:=by rw[List.take_add_one,ey];rfl
  have Ay:=A p hpm
  have hle2:=(catL_fw hF (L.take i) l).1
  have hlen2:=(catL_fw hF (L.take (i+1)) l).2
  rw[tk,catL_snoc]at hlen2
  have sn:=catL_snoc (pStep z.cps.toList n e) (L.take i) (i,p) l
  rw[←tk]at sn
  generalize catL (pStep z.cps.toList n e) (L.take i) l=r2 at g1 g2 hle2 hlen2 sn
  obtain⟨L2,l2⟩:=r2
  have A2:Ask n p z e l2:=⟨Ay.w,Ay.d,Ay.e,Ay.z,by change l2≤l at hle2;(first|lia|omega)⟩
  have e0:(0:Int)+(i:Int)=(i:Int):=by(first|lia|omega)
  rw[e0]
  refine⟨isL_of g1,?_⟩
  left
  refine ixT_i (x:=enc p) (by refine atI_nat ?_;rw[encs_map,List.getElem?_map,ep];rfl) ?_
  refine call_i A2 g2 fun c2 G2 hc2 gc2 gl2 k3=> ?_
  have hlen3:=tra_len A2 z.cps.toList
  change ((((L2++(tra z.cps.toList n p e l2).1.map fun t=>(Tr.pick ((i:Nat):Int) t.1,t.2))).length:Nat):Int)≤_ at hlen2
  change _=(L2++(tra z.cps.toList n p e l2).1.map fun t=>(Tr.pick ((i:Nat):Int) t.1,t.2),(tra z.cps.toList n p e l2).2)at sn
  generalize tra z.cps.toList n p e l2=r3 at gc2 gl2 hlen3 hlen2 sn
  obtain⟨L3,l3⟩:=r3
  rw[List.length_append,List.length_map]at hlen2
  have hl2:L2.length+L3.length≤300:=by
   change ((L2.length+L3.length:Nat):Int)≤_ at hlen2
   split at hlen2<;>(first|lia|omega)
  have gf2:G2 fl=some (.lst (L2.map prP)):=k3 fl _ (by simpa using Ne.symm nlf) g1
  left
  rw[lk_lst gc2]
  left
  intro acc hacc
  have nca:c2≠acc:=ne_none gc2 hacc
  have nfa:fl≠acc:=ne_none gf2 hacc
  have nla:lf≠acc:=ne_none gl2 hacc
  refine cGo2_prs (fun t=>prP (Tr.pick ((i:Nat):Int) t.1,t.2)) (Nat.lt_of_le_of_lt hlen3 (by decide)) (fun ys=>lk_lst (by rw[up_ne nca];exact gc2)) (fun x ys R hx r=>⟨lek,lek,r⟩) ?_
  left
  refine extL_i (xs:=L2.map prP) (ys:=L3.map fun t=>prP (Tr.pick ((i:Nat):Int) t.1,t.2)) (by rw[up_ne nfa];exact gf2) up_same (by rw[List.length_map,List.length_map];(first|lia|omega)) ?_
  refine⟨_,rfl,?_,?_,?_⟩
  ·rw[up_same,sn,List.map_append,List.map_map];rfl
  ·rw[up_ne nlf,up_ne nla,sn];exact gl2
  ·exact((k2.trans ((k3.mono (by simp)).new hacc)).put (by simp))
 ·rintro τ G' ⟨_,rfl,g1,g2,k2⟩
  rw[ints_len]at g1 g2
  rw[show((ps.length:Nat):Int).toNat=((List.range ps.length).zip ps).length by simp,List.take_length]at g1 g2
  have kk:Ch [lf] G G':=fun b o hb hG=>by
   have nb:b≠fl:=fun z=>by subst z;rw[hfl]at hG;cases hG
   exact k2 b o (by simp[nb];simpa using hb) (by rw[up_ne nb];exact hG)
  exact⟨_,GE.refl,q fl _ hfl g1 g2 kk⟩
end
theorem sl_one{z:Str}{e:Nat}(h:e≤z.length):(Txt.slice z (some (e:Int)) (some ((e:Int)+1))).cps.toList=(z.cps.toList.drop e).take 1:=by
 have el:z.cps.toList.length=z.length:=by rw[Array.length_toList];rfl
 by_cases h1:e+1≤z.length
 ·have:=PyProof.Rows.slice_closes (x:=z) (i:=(e:Int)) (j:=(e:Int)+1) ⟨by(first|lia|omega),by(first|lia|omega),by(first|lia|omega)⟩
  rw[beq_iff_eq]at this
  rw[this]
  show List.take _ (List.drop _ _)=_
  have e1:((e:Int)+1-(e:Int)).toNat=1:=by(first|lia|omega)
  rw[Int.toNat_natCast,e1]
 ·have ee:e=z.length:=by(first|lia|omega)
  have e0:Builtin.Str.strSliceIndices (some (e:Int)) (some ((e:Int)+1)) 1 z.length=Builtin.Str.strSliceIndices (some (e:Int)) (some (e:Int)) 1 z.length:=by
   unfold Builtin.Str.strSliceIndices
   simp only[show(1:Int)>0 by decide,if_true,show¬((e:Int)<0)by(first|lia|omega),show¬((e:Int)+1<0)by(first|lia|omega),if_false]
   congr 1
   (first|lia|omega)
  have e2:Txt.slice z (some (e:Int)) (some ((e:Int)+1))=Txt.slice z (some (e:Int)) (some (e:Int)):=by
   unfold Txt.slice
   rw[e0]
  rw[e2]
  have:=PyProof.Rows.slice_closes (x:=z) (i:=(e:Int)) (j:=(e:Int)) ⟨by(first|lia|omega),by(first|lia|omega),by(first|lia|omega)⟩
  rw[beq_iff_eq]at this
  rw[this]
  show List.take _ (List.drop _ _)=_
  rw[Int.toNat_natCast,List.drop_of_length_le (by(first|lia|omega)),List.take_nil,List.take_nil]
theorem sl_head{x y z:PV}{G:Gp}{Q:K2}(q:Q (.tup [x,y]) G):slT2 (.tup [x,y,z]) none (some 2) G Q:=by
 unfold slT2
 simp[cutP,HT.sIx]
 exact q
section
variable{P:Program}{w:World}{K:PySem.W.Frag}{mg:Str→Option Value}{base:Heap}{f fn fi ft fa fs fw:Addr}{fd dn di dt da ds dw:FuncData}
noncomputable abbrev nAll:List Str:=["pattern", "text", "at", "left", "found"]
theorem scAll:FnScope nAll ["pattern", "text", "at", "left"] (defScope xAll):=⟨rfl,rfl,rfl,by decide+kernel,rfl,by decide+kernel,by decide+kernel⟩
theorem csAll:compOkB (defScope xAll) nAll (cscope [(".0",.local),("sign",.local),("at",.free),("pattern",.free)]) ["sign", "at", "pattern"] [none,some 2,some 0] 0 "sign" =true:=by decide+kernel
noncomputable abbrev kL1:Scope:=cscope [(".0",.local),("tree",.local),("end",.local),("pattern",.free)]
theorem cL1:compOkB (defScope xAll) nAll kL1 ["tree", "end", "pattern"] [none,none,some 0] 0 "tree" =true:=by decide+kernel
theorem dL1:CompTwo kL1 ["tree", "end", "pattern"] [none,none,some 0] 1 "end" :=⟨rfl,by decide+kernel,rfl⟩
theorem ok_all{n k:Nat}(hk:2≤k)(F:Fun K "_law_all" "_law_all" xAll f fd)(B:BN mg)(CR:Cal2 P w K mg base k "_law_row" fi di ["parts", "text", "at", "left"] (spRow n))(CG:Cal2 P w K mg base k "_law_agains" fn dn ["pattern", "text", "at", "left"] (spAgains n))(CK:Cal2 P w K mg base k "_law_picked" ft dt ["parts", "text", "at", "left"] (spPicked n))
  (C:Cal2 P w K mg base k "_law_all" fa da ["pattern", "text", "at", "left"] (spAll n)):Ok2 P w K mg base (k+1) f fd ["pattern", "text", "at", "left"] (spAll (n+1)):=by
 have nd:=scAll.nd
 have hUE:=UseE.mk
 refine fn2 F scAll (fun vs G Q h=> ?_) (fun cdv A outer s H E as G Q hr h=> ?_)
 ·obtain⟨_,_,_,_,_,rfl,_⟩:=h
  rfl
 have hU:=u200 hr
 apply ex2
 case a=>
  symm
  all_goals try first
   |(refine' js_comp (n:=4) nd rfl rfl csAll rfl ?_ (fun _ _ _ _=>⟨?_,?_⟩))
   |(refine' js_comp2 (n:=4) nd rfl rfl cL1 dL1 rfl ?_ fun _ _ _ _=>⟨?_,?_⟩)
  all_goals symm
 obtain⟨p,z,e,lf,l,rfl,A0,gl,q⟩:=h
 have hTl:z.cps.toList.length=z.length:=by rw[Array.length_toList];rfl
 have he:=A0.e
 have hz:=A0.z
 have hl:=A0.l
 have hn:=A0.d
 have hw:=A0.w
 have fin:∀(c:Addr) (G5:Gp) (L:List (Tr×Nat)) (l1:Int),bodyF z.cps.toList (tra z.cps.toList n) p e l=(L,l1)→G c=none→G5 c=some (.lst (L.map prP))→G5 lf=some (.lst [.int l1])→Ch [lf] G G5→
   sSeq (sAsg (eOp sub2 (eOp ix2 (eV 3) (eC (PV.int 0))) (eCl len2 (aCons (eV 4) aNil))) (gSub2 (eV 3) (eC (PV.int 0)) setL))
    (sSeq (sIf (tBl (eOp lt2 (eOp ix2 (eV 3) (eC (PV.int 0))) (eC (PV.int 0)))) (sRet (eLst aNil)) sNext) (sRet (eV 4))) {nx:=fun x G'=>∃G0,GE G0 G'∧Q PV.non G0,rt:=fun p G'=>∃G0,GE G0 G'∧Q p G0}
    [some (enc p),some (.str z),some (.int (e:Nat)),some (.ref lf),some (.ref c)] G5:=by
  intro c G5 L l1 hb hc g5 gl5 k5
  have nlc:lf≠c:=ne_none gl hc
  have et:tra z.cps.toList (n+1) p e l=(if l1-(L.length:Nat)<0 then[]else L,l1-(L.length:Nat)):=by
   show(if _ then _ else _,_)=_
   rw[hb]
  rw[et]at q
  left
  refine ixL_i (lk_lst gl5) atI_zero ?_
  left
  refine len_i (lk_lst g5) ?_
  rw[List.length_map]
  left
  refine setL_i (j:=0) gl5 rfl ?_
  have g6:up G5 lf (.lst ([PV.int l1].set 0 (.int (l1-(L.length:Nat))))) lf=some (.lst [.int (l1-(L.length:Nat))]):=up_same
  have g7:up G5 lf (.lst ([PV.int l1].set 0 (.int (l1-(L.length:Nat))))) c=some (.lst (L.map prP)):=by rw[up_ne (Ne.symm nlc)];exact g5
  have k6:Ch [lf] G (up G5 lf (.lst ([PV.int l1].set 0 (.int (l1-(L.length:Nat)))))):=k5.put (by simp)
  generalize up G5 lf (.lst ([PV.int l1].set 0 (.int (l1-(L.length:Nat)))))=G6 at g6 g7 k6⊢
  left
  refine ixL_i (lk_lst g6) atI_zero ?_
  left
  refine ifB (fun h0=> ?_) (fun h0=> ?_)
  ·have h0':l1-(L.length:Nat)<0:=of_decide_eq_true h0
   rw[if_pos h0']at q
   left
   refine⟨lek,fun c2 hc2=> ?_⟩
   have nl2:lf≠c2:=ne_none g6 hc2
   exact⟨_,GE.refl,q c2 _ (new_of k6 g6 hc2) up_same (by rw[up_ne nl2];exact g6) (k6.new hc2)⟩
  ·have h0':¬l1-(L.length:Nat)<0:=of_decide_eq_false h0
   rw[if_neg h0']at q
   left
   exact⟨_,GE.refl,q c _ hc g7 g6 k6⟩
 left
 refine⟨lek,fun fl hfl=> ?_⟩
 have nlf:lf≠fl:=ne_none gl hfl
 have gl1:up G fl (.lst []) lf=some (.lst [.int l]):=by rw[up_ne nlf];exact gl
 have gf1:up G fl (.lst []) fl=some (.lst (([]:List (Tr×Nat)).map prP)):=up_same
 have k1:Ch [lf] G (up G fl (.lst [])):=Ch.refl.new hfl
 generalize up G fl (.lst [])=G1 at gl1 gf1 k1⊢
 cases p with
 |none=>
  refine⟨rfl,rfl,rfl,rfl,rfl,rfl,rfl,rfl,rfl,rfl,lek,rfl,rfl,?_⟩
  exact fin fl G1 [] l rfl hfl gf1 gl1 k1
 |blank=>
  refine⟨rfl,rfl,?_⟩
  refine ifT rfl ?_
  refine⟨lek,lek,lek,fun c hc=> ?_⟩
  have nlc:lf≠c:=ne_none gl1 hc
  exact fin c _ [(Tr.blank,e)] l rfl (new_of k1 gl1 hc) up_same (by rw[up_ne nlc];exact gl1) (k1.new hc)
 |sign s'=>
  refine⟨rfl,rfl,rfl,rfl,?_⟩
  refine ifT rfl ?_
  left
  refine addEI_i ?_
  left
  refine⟨by(first|lia|omega),?_⟩
  have hsl:=sl_one (z:=z) (e:=e) he
  generalize Txt.slice z (some (e:Int)) (some ((e:Int)+1))=y at hsl
  intro acc hacc
  have nla:lf≠acc:=ne_none gl1 hacc
  have hits:signsP y=((z.cps.toList.drop e).take 1).map fun c=>PV.str (oneS c):=by unfold signsP;rw[hsl];rfl
  cases hc:z.cps.toList[e]? with
  |none=>
   have hd:(z.cps.toList.drop e).take 1=[]:=by
    rw[List.drop_of_length_le (by have:=List.getElem?_eq_none_iff.mp hc;(first|lia|omega))];rfl
   rw[hits,hd]
   have eb:bodyF z.cps.toList (tra z.cps.toList n) (.sign s') e l=([],l):=by simp only[bodyF,hc]
   refine⟨fun i ys G2=>ys=[]∧G2=up G1 acc (.lst ys),⟨rfl,rfl⟩,?_,?_,?_⟩
   ·rintro i ys G2 hi ⟨rfl,rfl⟩
    exact⟨trivial,up_same,by simp⟩
   ·rintro i ys G2 x hx _
    simp at hx
   ·rintro ys G2 ⟨rfl,rfl⟩
    exact fin acc _ [] l eb (new_of k1 gl1 hacc) up_same (by rw[up_ne nla];exact gl1) (k1.new hacc)
  |some c=>
   have hlt:e<z.cps.toList.length:=(List.getElem?_eq_some_iff.mp hc).1
   have hd:(z.cps.toList.drop e).take 1=[c]:=by
    rw[List.drop_eq_getElem_cons hlt,(List.getElem?_eq_some_iff.mp hc).2];rfl
   rw[hits,hd]
   by_cases hm:c∈s'.cps.toList
   ·have eb:bodyF z.cps.toList (tra z.cps.toList n) (.sign s') e l=([(Tr.sign (oneS c),e+1)],l):=by simp only[bodyF,hc,if_pos hm]
    refine⟨fun i ys G2=>ys=(([(Tr.sign (oneS c),e+1)]:List (Tr×Nat)).take i).map prP∧G2=up G1 acc (.lst ys),⟨rfl,rfl⟩,?_,?_,?_⟩
    ·rintro i ys G2 hi ⟨rfl,rfl⟩
     refine⟨trivial,up_same,?_⟩
     rw[List.length_map,List.length_take]
     simp;(first|lia|omega)
    ·rintro i ys G2 x hx ⟨rfl,rfl⟩
     cases i with
     |succ i=>simp at hx
     |zero=>
      cases hx
      left
      refine ixT_i (x:= .str s') rfl ?_
      show way2 (!(Builtin.Str.occurrences s' ⟨#[c]⟩ 0 s'.length 1).isEmpty) _ _
      rw[StrLaws.found_one,show decide (c∈s'.cps.toList)=true from decide_eq_true hm]
      refine ifT rfl ?_
      refine⟨lek,?_⟩
      refine addEI_i ?_
      refine⟨lek,?_⟩
      exact⟨up_same,rfl,up_up⟩
    ·rintro ys G2 ⟨rfl,rfl⟩
     exact fin acc _ [(Tr.sign (oneS c),e+1)] l eb (new_of k1 gl1 hacc) up_same (by rw[up_ne nla];exact gl1) (k1.new hacc)
   ·have eb:bodyF z.cps.toList (tra z.cps.toList n) (.sign s') e l=([],l):=by simp only[bodyF,hc,if_neg hm]
    refine⟨fun i ys G2=>ys=[]∧G2=up G1 acc (.lst ys),⟨rfl,rfl⟩,?_,?_,?_⟩
    ·rintro i ys G2 hi ⟨rfl,rfl⟩
     exact⟨trivial,up_same,by simp⟩
    ·rintro i ys G2 x hx ⟨rfl,rfl⟩
     cases i with
     |succ i=>simp at hx
     |zero=>
      cases hx
      left
      refine ixT_i (x:= .str s') rfl ?_
      show way2 (!(Builtin.Str.occurrences s' ⟨#[c]⟩ 0 s'.length 1).isEmpty) _ _
      rw[StrLaws.found_one,show decide (c∈s'.cps.toList)=false from decide_eq_false hm]
      refine ifF rfl ?_
      exact⟨rfl,rfl⟩
    ·rintro ys G2 ⟨rfl,rfl⟩
     exact fin acc _ [] l eb (new_of k1 gl1 hacc) up_same (by rw[up_ne nla];exact gl1) (k1.new hacc)
 |row ps=>
  have hdd:depth (.row ps)=1+depths ps:=rfl
  refine⟨rfl,rfl,rfl,rfl,rfl,rfl,?_⟩
  refine ifT rfl ?_
  refine⟨ps,z,e,lf,l,rfl,⟨hw.2.2,hw.2.1,by(first|lia|omega),he,hz,hl⟩,gl1,fun c G2 hc gc gl2 k2=> ?_⟩
  exact fin c G2 _ _ rfl (new_of k1 gl1 hc) gc gl2 (k1.trans k2)
 |again p=>
  refine⟨rfl,rfl,rfl,rfl,rfl,rfl,rfl,rfl,?_⟩
  refine ifT rfl ?_
  refine⟨p,z,e,lf,l,rfl,A0,gl1,fun c G2 hc gc gl2 k2=> ?_⟩
  exact fin c G2 _ _ rfl (new_of k1 gl1 hc) gc gl2 (k1.trans k2)
 |pick ps=>
  have hdd:depth (.pick ps)=1+depths ps:=rfl
  refine⟨rfl,rfl,rfl,rfl,rfl,rfl,rfl,rfl,rfl,rfl,?_⟩
  refine ifT rfl ?_
  refine⟨ps,z,e,lf,l,rfl,fun p hp=>⟨wqs_mem.mp hw.2.2 p hp,by have:=depth_mem hp;(first|lia|omega),he,hz,hl⟩,⟨hw.2.1,hl⟩,gl1,fun c G2 hc gc gl2 k2=> ?_⟩
  exact fin c G2 _ _ rfl (new_of k1 gl1 hc) gc gl2 (k1.trans k2)
 |held m p=>
  have hdd:depth (.held m p)=1+depth p:=rfl
  refine⟨rfl,rfl,rfl,rfl,rfl,rfl,rfl,rfl,rfl,rfl,lek,rfl,rfl,?_⟩
  refine ifT rfl ?_
  have A1:Ask n p z e l:=⟨hw.2,by(first|lia|omega),he,hz,hl⟩
  left
  refine ixT_i (x:=enc p) rfl ?_
  refine call_i A1 gl1 fun c G2 hc gc gl2 k2=> ?_
  left
  rw[lk_lst gc]
  left
  intro acc hacc
  have nac:c≠acc:=ne_none gc hacc
  have nal:lf≠acc:=ne_none gl2 hacc
  have kk:=k1.trans k2
  refine cGo2_prs (fun t=>prP (Tr.held m t.1,t.2)) (Nat.lt_of_le_of_lt (tra_len A1 _) (by decide)) (fun ys=>lk_lst (by rw[up_ne nac];exact gc)) (fun x ys R hx r=> ?_) ?_
  ·refine sl_head ?_
   refine⟨lek,?_⟩
   refine addET_i (xs:=[.str "held",.str m]) (ys:=[ent x.1]) (by simp) ?_
   exact⟨lek,r⟩
  ·exact fin acc _ ((tra z.cps.toList n p e l).1.map fun t=>(Tr.held m t.1,t.2)) _ rfl (new_of kk gl2 hacc) (by rw[up_same,List.map_map];rfl) (by rw[up_ne nal];exact gl2) (kk.new hacc)
 |price m p=>
  have hdd:depth (.price m p)=1+depth p:=rfl
  refine⟨rfl,rfl,rfl,rfl,rfl,rfl,rfl,rfl,rfl,rfl,lek,rfl,rfl,?_⟩
  refine ifT rfl ?_
  have A1:Ask n p z e l:=⟨hw.2.2,by(first|lia|omega),he,hz,hl⟩
  left
  refine ixT_i (x:=enc p) rfl ?_
  refine call_i A1 gl1 fun c G2 hc gc gl2 k2=> ?_
  left
  rw[lk_lst gc]
  left
  intro acc hacc
  have nac:c≠acc:=ne_none gc hacc
  have nal:lf≠acc:=ne_none gl2 hacc
  have kk:=k1.trans k2
  refine cGo2_prs (fun t=>prP (Tr.price m t.1,t.2)) (Nat.lt_of_le_of_lt (tra_len A1 _) (by decide)) (fun ys=>lk_lst (by rw[up_ne nac];exact gc)) (fun x ys R hx r=> ?_) ?_
  ·refine sl_head ?_
   refine⟨lek,?_⟩
   refine addET_i (xs:=[.str "price",.int m]) (ys:=[ent x.1]) (by simp) ?_
   exact⟨lek,r⟩
  ·exact fin acc _ ((tra z.cps.toList n p e l).1.map fun t=>(Tr.price m t.1,t.2)) _ rfl (new_of kk gl2 hacc) (by rw[up_same,List.map_map];rfl) (by rw[up_ne nal];exact gl2) (kk.new hacc)
end
theorem down_at{lo:Int}{n i:Nat}{x:PV}(h:(downP lo n)[i]? =some x):i<n∧x= .int (lo-i):=by
 unfold downP at h
 rw[List.getElem?_map]at h
 cases e:(List.range n)[i]? with
 |none=>rw[e]at h;cases h
 |some j=>
  rw[e]at h
  have hi:i<n:=by
   have:=(List.getElem?_eq_some_iff.mp e).1
   simpa using this
  rw[List.getElem?_range hi]at e
  cases e
  cases h
  exact⟨hi,rfl⟩
theorem mkss_take{ts:List Tr}{i:Nat}{t:Tr}(h:ts[i]? =some t):mkss (ts.take (i+1))=mkss (ts.take i)++mks t:=by
 have tk:ts.take (i+1)=ts.take i++[t]:=by rw[List.take_add_one,h];rfl
 rw[tk,mkss_app]
 show mkss (ts.take i)++(mks t++[])=_
 rw[List.append_nil]
theorem mkss_le(ts:List Tr)(i:Nat):(mkss (ts.take i)).length≤(mkss ts).length:=by
 have:=congrArg List.length (mkss_app (ts.take i) (ts.drop i))
 rw[List.take_append_drop,List.length_append]at this
 (first|lia|omega)
noncomputable def mksU:List Tr→List Int
 |[]=>[]
 |t::ts=>0::(mks t++mksU ts)
theorem mksU_T:∀ts:List Tr,mksT ts=mksU ts++[1]
 |[]=>rfl
 |t::ts=>by show 0::(mks t++mksT ts)=(0::(mks t++mksU ts))++[1];rw[mksU_T ts];simp
theorem mksU_app:∀(ts us:List Tr),mksU (ts++us)=mksU ts++mksU us
 |[],us=>rfl
 |t::ts,us=>by show 0::(mks t++mksU (ts++us))=(0::(mks t++mksU ts))++mksU us;rw[mksU_app ts us];simp
theorem mksU_take{ts:List Tr}{i:Nat}{t:Tr}(h:ts[i]? =some t):mksU (ts.take (i+1))=mksU (ts.take i)++(0::mks t):=by
 have tk:ts.take (i+1)=ts.take i++[t]:=by rw[List.take_add_one,h];rfl
 rw[tk,mksU_app]
 show mksU (ts.take i)++(0::(mks t++[]))=_
 rw[List.append_nil]
theorem mksU_le(ts:List Tr)(i:Nat):(mksU (ts.take i)).length≤(mksU ts).length:=by
 have:=congrArg List.length (mksU_app (ts.take i) (ts.drop i))
 rw[List.take_append_drop,List.length_append]at this
 (first|lia|omega)
theorem ch0_none{G G':Gp}{c:Addr}(k:Ch [] G G')(h:G' c=none):G c=none:=by
 cases e:G c with
 |none=>rfl
 |some o=>have:=k c o (by simp) e;rw[h]at this;cases this
theorem joinE_len(zs:List Str):(Txt.join (Str.ofString "") zs).length=(zs.map (·.length)).sum:=by
 have h:=congrArg List.length (joinE_cps zs)
 rw[Array.length_toList,List.length_flatten,List.map_map]at h
 exact h
section
variable{P:Program}{w:World}{K:PySem.W.Frag}{mg:Str→Option Value}{base:Heap}{f fn fi ft fa fs fw:Addr}{fd dn di dt da ds dw:FuncData}
theorem scLInn:FnScope ["tree"] ["tree"] (defScope xLInner):=⟨rfl,rfl,rfl,by decide+kernel,rfl,by decide+kernel,by decide+kernel⟩
noncomputable def spLInn:Sp2:=fun ps G Q=>∃p,ps=[ent p]∧∀c,G c=none→Q (.ref c) (up G c (.lst (ents (tinn p))))
theorem ok_linn(F:Fun K "_law_inner" "_law_inner" xLInner f fd)(B:BN mg):Ok2 P w K mg base 1 f fd ["tree"] spLInn:=by
 have nd:=scLInn.nd
 refine fn2 F scLInn (fun vs G Q h=> ?_) (fun cdv A outer s H E as G Q hr h=> ?_)
 ·obtain⟨_,rfl,_⟩:=h
  rfl
 have hU:=u200 hr
 have hUE:=UseE.mk
 apply ex2
 case a=>symm
 obtain⟨p,rfl,q⟩:=h
 cases p with
 |row ps=>
  refine⟨lek,rfl,rfl,fun c hc=>⟨_,GE.refl,q c hc⟩⟩
 |again ps=>
  refine⟨lek,rfl,rfl,fun c hc=>⟨_,GE.refl,q c hc⟩⟩
 |_=>exact⟨lek,rfl,rfl,lek,rfl,rfl,lek,fun c hc=>⟨_,GE.refl,q c hc⟩⟩
theorem scText:FnScope ["pool", "letters", "most"] ["pool", "letters", "most"] (defScope xText):=⟨rfl,rfl,rfl,by decide+kernel,rfl,by decide+kernel,by decide+kernel⟩
theorem csText:compOkB (defScope xText) ["pool", "letters", "most"] (cscope [(".0",.local),("k",.local),("_law_next",.globalImplicit),("len",.globalImplicit),("letters",.free),("pool",.free)]) ["k", "letters", "pool"] [none,some 1,some 0] 0 "k" =true:=by decide+kernel
noncomputable def spText:Sp2:=fun ps G Q=>∃(a:Addr) (z:Str),ps=[.ref a,.str z,.int 6]∧Pool G a∧1≤z.length∧z.length≤6∧∀(y:Str) G',y.length≤6→Pool G' a→Ch [a] G G'→Q (.str y) G'
theorem ok_text(F:Fun K "_law_text" "_law_text" xText f fd)(B:BN mg)(CN:Cal2 P w K mg base 1 "_law_next" fn dn ["pool", "base"] spNext):Ok2 P w K mg base 2 f fd ["pool", "letters", "most"] spText:=by
 have nd:=scText.nd
 have hUE:=UseE.mk
 refine fn2 F scText (fun vs G Q h=> ?_) (fun cdv A outer s H E as G Q hr h=> ?_)
 ·obtain⟨_,_,rfl,_⟩:=h
  rfl
 have hU:=u200 hr
 apply ex2
 case a=>
  symm
  all_goals try (refine' j_comp csText rfl ?_ fun _ _ _ _=>⟨?_,?_⟩)
  all_goals symm
 obtain⟨a,z,rfl,hp,z1,z6,q⟩:=h
 left
 refine addEI_i ?_
 refine⟨a,6+1,rfl,hp,by decide,by decide,fun m G1 m0 m1 p1 c1=> ?_⟩
 left
 refine⟨by(first|lia|omega),by(first|lia|omega),fun acc hacc=> ?_⟩
 have hla:=pool_ne p1 hacc
 have haG:G acc=none:=by
  cases e2:G acc with
  |none=>rfl
  |some o=>have:=c1 acc o (by simpa using hla) e2;rw[hacc]at this;cases this
 refine⟨fun i ys G2=>∃cs:List Nat,cs.length=i∧ys=(cs.map oneS).map PV.str∧G2 acc=some (.lst ys)∧Pool G2 a∧Ch [a] G G2,⟨[],rfl,rfl,up_same,p1.new hacc,c1.new hacc⟩,?_,?_,?_⟩
 ·rintro i ys G2 hi ⟨cs,hcs,rfl,g2,_,_⟩
  rw[ints_len]at hi
  refine⟨trivial,g2,?_⟩
  rw[List.length_map,List.length_map];(first|lia|omega)
 ·rintro i ys G2 x hx ⟨cs,hcs,rfl,g2,p2,k2⟩
  refine ifT rfl ?_
  left
  refine⟨by(first|lia|omega),?_⟩
  refine⟨a,z.length,rfl,p2,by(first|lia|omega),by(first|lia|omega),fun m2 G3 n0 n1 p3 c3=> ?_⟩
  obtain⟨c,ec,mc⟩:=atI_of (xs:=z.cps.toList) n0 (by rw[Array.length_toList];exact n1)
  left
  refine ixS_i (by(first|lia|omega)) ec ?_
  exact⟨c3 acc _ (by simpa using hla) g2,cs++[c],by simp[hcs],by simp;rfl,up_same,p3.ne hla,(k2.trans c3).mod' haG⟩
 ·rintro ys G2 ⟨cs,hcs,rfl,g2,p2,k2⟩
  rw[ints_len]at hcs
  have hs:((cs.map oneS).map (·.length)).sum=cs.length:=by
   rw[List.map_map]
   have:∀l:List Nat,(l.map ((fun x:Str=>x.length)∘oneS)).sum=l.length:=by
    intro l
    induction l with
    |nil=>rfl
    |cons a l ih=>rw[List.map_cons,List.sum_cons,ih,List.length_cons];show 1+l.length=_;(first|lia|omega)
   exact this cs
  left
  refine joinL_i (zs:=cs.map oneS) (lk_lst g2) (by rw[hs];show _+_*0≤_;(first|lia|omega)) ?_
  exact⟨_,GE.refl,q _ _ (by rw[joinE_len,hs];(first|lia|omega)) p2 k2⟩
noncomputable abbrev nMarked:List Str:=["tree", "found", "part"]
theorem scMarked:FnScope nMarked ["tree"] (defScope xMarked):=⟨rfl,rfl,rfl,by decide+kernel,rfl,by decide+kernel,by decide+kernel⟩
noncomputable def spMarked(n:Nat):Sp2:=fun ps G Q=>∃t:Tr,ps=[ent t]∧tdp t≤n∧(mks t).length≤100000∧∀c G',G c=none→G' c=some (.lst ((mks t).map PV.int))→Ch [] G G'→Q (.ref c) G'
theorem ok_marked{n k:Nat}(hk:1≤k)(F:Fun K "_law_marked" "_law_marked" xMarked f fd)(B:BN mg)(CI:Cal2 P w K mg base 1 "_law_inner" fi di ["tree"] spLInn)(C:Cal2 P w K mg base k "_law_marked" fa da ["tree"] (spMarked n)):Ok2 P w K mg base (k+1) f fd ["tree"] (spMarked (n+1)):=by
 have nd:=scMarked.nd
 have hUE:=UseE.mk
 refine fn2 F scMarked (fun vs G Q h=> ?_) (fun cdv A outer s H E as G Q hr h=> ?_)
 ·obtain⟨_,rfl,_⟩:=h
  rfl
 have hU:=u200 hr
 apply ex2
 case a=>symm
 obtain⟨t,rfl,hd,hm,q⟩:=h
 have hdi:=tdp_inn t
 left
 refine⟨lek,fun l0 hl0=> ?_⟩
 cases t with
 |row ts=>
  have hd1:tdps (tinn (.row ts))≤n:=by(first|lia|omega)
  have em:mks (.row ts)=mkss (tinn (.row ts)):=by rfl
  rw[em]at hm
  generalize hts:tinn (.row ts)=ts' at hd1 em hm
  refine⟨rfl,rfl,?_⟩
  refine⟨_,rfl,fun li hli=> ?_⟩
  rw[hts]
  have n0i:l0≠li:=fun z=>by subst z;rw[up_same]at hli;cases hli
  left
  rw[lk_up]
  left
  refine⟨fun i τ G'=>∃fl t2,τ=[some (ent (.row ts)),some (.ref fl),t2]∧G' fl=some (.lst ((mkss (ts'.take i)).map PV.int))∧G fl=none∧G' li=some (.lst (ents ts'))∧fl≠li∧Ch [] G G',⟨l0,_,rfl,by rw[up_ne n0i,up_same];rfl,hl0,up_same,n0i,(Ch.refl.new hl0).new hli⟩,?_,?_,?_⟩
  ·rintro i τ G' _ ⟨_,_,rfl,_,_,gi,_,_⟩
   exact lk_lst gi
  ·rintro i x τ G' hx ⟨fl,_,rfl,gf,hfl,gi,nfi,k1⟩
   obtain⟨c,hc,rfl⟩:=ents_at hx
   have h1:=tdp_mem (List.mem_of_getElem? hc)
   have h2:=mkss_take hc
   have h3:=mkss_le ts' (i+1)
   rw[h2,List.length_append]at h3
   refine⟨rfl,rfl,?_⟩
   refine ifF rfl ?_
   left
   refine⟨c,rfl,by(first|lia|omega),by(first|lia|omega),fun l2 G2 hl2 g2 k2=> ?_⟩
   refine addEL_i (lk_lst (k2 fl _ (by simp) gf)) (lk_lst g2) (by rw[List.length_map,List.length_map];(first|lia|omega)) fun l3 hl3=> ?_
   have gi2:=k2 li _ (by simp) gi
   have ni3:li≠l3:=ne_none gi2 hl3
   exact⟨l3,_,rfl,by rw[up_same,h2,List.map_append],ch0_none (k1.trans k2) hl3,by rw[up_ne ni3];exact gi2,Ne.symm ni3,(k1.trans k2).new hl3⟩
  ·rintro τ G' ⟨fl,_,rfl,gf,hfl,gi,nfi,k1⟩
   rw[ents_length,List.take_length]at gf
   refine⟨rfl,rfl,?_⟩
   refine ifF rfl ?_
   exact⟨_,GE.refl,q fl _ hfl (by rw[em];exact gf) k1⟩
 |held m t=>
  have hd1:tdps (tinn (.held m t))≤n:=by(first|lia|omega)
  have em:mks (.held m t)=mkss (tinn (.held m t)):=by show _=mks t++[];rw[List.append_nil];rfl
  rw[em]at hm
  generalize hts:tinn (.held m t)=ts' at hd1 em hm
  refine⟨rfl,rfl,?_⟩
  refine⟨_,rfl,fun li hli=> ?_⟩
  rw[hts]
  have n0i:l0≠li:=fun z=>by subst z;rw[up_same]at hli;cases hli
  left
  rw[lk_up]
  left
  refine⟨fun i τ G'=>∃fl t2,τ=[some (ent (.held m t)),some (.ref fl),t2]∧G' fl=some (.lst ((mkss (ts'.take i)).map PV.int))∧G fl=none∧G' li=some (.lst (ents ts'))∧fl≠li∧Ch [] G G',⟨l0,_,rfl,by rw[up_ne n0i,up_same];rfl,hl0,up_same,n0i,(Ch.refl.new hl0).new hli⟩,?_,?_,?_⟩
  ·rintro i τ G' _ ⟨_,_,rfl,_,_,gi,_,_⟩
   exact lk_lst gi
  ·rintro i x τ G' hx ⟨fl,_,rfl,gf,hfl,gi,nfi,k1⟩
   obtain⟨c,hc,rfl⟩:=ents_at hx
   have h1:=tdp_mem (List.mem_of_getElem? hc)
   have h2:=mkss_take hc
   have h3:=mkss_le ts' (i+1)
   rw[h2,List.length_append]at h3
   refine⟨rfl,rfl,?_⟩
   refine ifF rfl ?_
   left
   refine⟨c,rfl,by(first|lia|omega),by(first|lia|omega),fun l2 G2 hl2 g2 k2=> ?_⟩
   refine addEL_i (lk_lst (k2 fl _ (by simp) gf)) (lk_lst g2) (by rw[List.length_map,List.length_map];(first|lia|omega)) fun l3 hl3=> ?_
   have gi2:=k2 li _ (by simp) gi
   have ni3:li≠l3:=ne_none gi2 hl3
   exact⟨l3,_,rfl,by rw[up_same,h2,List.map_append],ch0_none (k1.trans k2) hl3,by rw[up_ne ni3];exact gi2,Ne.symm ni3,(k1.trans k2).new hl3⟩
  ·rintro τ G' ⟨fl,_,rfl,gf,hfl,gi,nfi,k1⟩
   rw[ents_length,List.take_length]at gf
   refine⟨rfl,rfl,?_⟩
   refine ifF rfl ?_
   exact⟨_,GE.refl,q fl _ hfl (by rw[em];exact gf) k1⟩
 |price m t=>
  have hd1:tdps (tinn (.price m t))≤n:=by(first|lia|omega)
  have em:mks (.price m t)=mkss (tinn (.price m t)):=by show _=mks t++[];rw[List.append_nil];rfl
  rw[em]at hm
  generalize hts:tinn (.price m t)=ts' at hd1 em hm
  refine⟨rfl,rfl,?_⟩
  refine⟨_,rfl,fun li hli=> ?_⟩
  rw[hts]
  have n0i:l0≠li:=fun z=>by subst z;rw[up_same]at hli;cases hli
  left
  rw[lk_up]
  left
  refine⟨fun i τ G'=>∃fl t2,τ=[some (ent (.price m t)),some (.ref fl),t2]∧G' fl=some (.lst ((mkss (ts'.take i)).map PV.int))∧G fl=none∧G' li=some (.lst (ents ts'))∧fl≠li∧Ch [] G G',⟨l0,_,rfl,by rw[up_ne n0i,up_same];rfl,hl0,up_same,n0i,(Ch.refl.new hl0).new hli⟩,?_,?_,?_⟩
  ·rintro i τ G' _ ⟨_,_,rfl,_,_,gi,_,_⟩
   exact lk_lst gi
  ·rintro i x τ G' hx ⟨fl,_,rfl,gf,hfl,gi,nfi,k1⟩
   obtain⟨c,hc,rfl⟩:=ents_at hx
   have h1:=tdp_mem (List.mem_of_getElem? hc)
   have h2:=mkss_take hc
   have h3:=mkss_le ts' (i+1)
   rw[h2,List.length_append]at h3
   refine⟨rfl,rfl,?_⟩
   refine ifF rfl ?_
   left
   refine⟨c,rfl,by(first|lia|omega),by(first|lia|omega),fun l2 G2 hl2 g2 k2=> ?_⟩
   refine addEL_i (lk_lst (k2 fl _ (by simp) gf)) (lk_lst g2) (by rw[List.length_map,List.length_map];(first|lia|omega)) fun l3 hl3=> ?_
   have gi2:=k2 li _ (by simp) gi
   have ni3:li≠l3:=ne_none gi2 hl3
   exact⟨l3,_,rfl,by rw[up_same,h2,List.map_append],ch0_none (k1.trans k2) hl3,by rw[up_ne ni3];exact gi2,Ne.symm ni3,(k1.trans k2).new hl3⟩
  ·rintro τ G' ⟨fl,_,rfl,gf,hfl,gi,nfi,k1⟩
   rw[ents_length,List.take_length]at gf
   refine⟨rfl,rfl,?_⟩
   refine ifF rfl ?_
   exact⟨_,GE.refl,q fl _ hfl (by rw[em];exact gf) k1⟩
 |blank=>
  have hd1:tdps (tinn (.blank))≤n:=by(first|lia|omega)
  have em:mks (.blank)=mkss (tinn (.blank)):=by rfl
  rw[em]at hm
  generalize hts:tinn (.blank)=ts' at hd1 em hm
  refine⟨rfl,rfl,?_⟩
  refine⟨_,rfl,fun li hli=> ?_⟩
  rw[hts]
  have n0i:l0≠li:=fun z=>by subst z;rw[up_same]at hli;cases hli
  left
  rw[lk_up]
  left
  refine⟨fun i τ G'=>∃fl t2,τ=[some (ent (.blank)),some (.ref fl),t2]∧G' fl=some (.lst ((mkss (ts'.take i)).map PV.int))∧G fl=none∧G' li=some (.lst (ents ts'))∧fl≠li∧Ch [] G G',⟨l0,_,rfl,by rw[up_ne n0i,up_same];rfl,hl0,up_same,n0i,(Ch.refl.new hl0).new hli⟩,?_,?_,?_⟩
  ·rintro i τ G' _ ⟨_,_,rfl,_,_,gi,_,_⟩
   exact lk_lst gi
  ·rintro i x τ G' hx ⟨fl,_,rfl,gf,hfl,gi,nfi,k1⟩
   obtain⟨c,hc,rfl⟩:=ents_at hx
   have h1:=tdp_mem (List.mem_of_getElem? hc)
   have h2:=mkss_take hc
   have h3:=mkss_le ts' (i+1)
   rw[h2,List.length_append]at h3
   refine⟨rfl,rfl,?_⟩
   refine ifF rfl ?_
   left
   refine⟨c,rfl,by(first|lia|omega),by(first|lia|omega),fun l2 G2 hl2 g2 k2=> ?_⟩
   refine addEL_i (lk_lst (k2 fl _ (by simp) gf)) (lk_lst g2) (by rw[List.length_map,List.length_map];(first|lia|omega)) fun l3 hl3=> ?_
   have gi2:=k2 li _ (by simp) gi
   have ni3:li≠l3:=ne_none gi2 hl3
   exact⟨l3,_,rfl,by rw[up_same,h2,List.map_append],ch0_none (k1.trans k2) hl3,by rw[up_ne ni3];exact gi2,Ne.symm ni3,(k1.trans k2).new hl3⟩
  ·rintro τ G' ⟨fl,_,rfl,gf,hfl,gi,nfi,k1⟩
   rw[ents_length,List.take_length]at gf
   refine⟨rfl,rfl,?_⟩
   refine ifF rfl ?_
   exact⟨_,GE.refl,q fl _ hfl (by rw[em];exact gf) k1⟩
 |sign z=>
  have hd1:tdps (tinn (.sign z))≤n:=by(first|lia|omega)
  have em:mks (.sign z)=mkss (tinn (.sign z)):=by rfl
  rw[em]at hm
  generalize hts:tinn (.sign z)=ts' at hd1 em hm
  refine⟨rfl,rfl,?_⟩
  refine⟨_,rfl,fun li hli=> ?_⟩
  rw[hts]
  have n0i:l0≠li:=fun z=>by subst z;rw[up_same]at hli;cases hli
  left
  rw[lk_up]
  left
  refine⟨fun i τ G'=>∃fl t2,τ=[some (ent (.sign z)),some (.ref fl),t2]∧G' fl=some (.lst ((mkss (ts'.take i)).map PV.int))∧G fl=none∧G' li=some (.lst (ents ts'))∧fl≠li∧Ch [] G G',⟨l0,_,rfl,by rw[up_ne n0i,up_same];rfl,hl0,up_same,n0i,(Ch.refl.new hl0).new hli⟩,?_,?_,?_⟩
  ·rintro i τ G' _ ⟨_,_,rfl,_,_,gi,_,_⟩
   exact lk_lst gi
  ·rintro i x τ G' hx ⟨fl,_,rfl,gf,hfl,gi,nfi,k1⟩
   obtain⟨c,hc,rfl⟩:=ents_at hx
   have h1:=tdp_mem (List.mem_of_getElem? hc)
   have h2:=mkss_take hc
   have h3:=mkss_le ts' (i+1)
   rw[h2,List.length_append]at h3
   refine⟨rfl,rfl,?_⟩
   refine ifF rfl ?_
   left
   refine⟨c,rfl,by(first|lia|omega),by(first|lia|omega),fun l2 G2 hl2 g2 k2=> ?_⟩
   refine addEL_i (lk_lst (k2 fl _ (by simp) gf)) (lk_lst g2) (by rw[List.length_map,List.length_map];(first|lia|omega)) fun l3 hl3=> ?_
   have gi2:=k2 li _ (by simp) gi
   have ni3:li≠l3:=ne_none gi2 hl3
   exact⟨l3,_,rfl,by rw[up_same,h2,List.map_append],ch0_none (k1.trans k2) hl3,by rw[up_ne ni3];exact gi2,Ne.symm ni3,(k1.trans k2).new hl3⟩
  ·rintro τ G' ⟨fl,_,rfl,gf,hfl,gi,nfi,k1⟩
   rw[ents_length,List.take_length]at gf
   refine⟨rfl,rfl,?_⟩
   refine ifF rfl ?_
   exact⟨_,GE.refl,q fl _ hfl (by rw[em];exact gf) k1⟩
 |pick kk t=>
  have hd1:tdp t≤n:=by have:tdp (.pick kk t)=1+tdp t:=rfl;(first|lia|omega)
  have em:mks (.pick kk t)=kk::mks t:=rfl
  rw[em,List.length_cons]at hm
  refine⟨rfl,rfl,?_⟩
  refine ifT rfl ?_
  left
  refine⟨isL_of up_same,?_⟩
  left
  refine ixT_i (x:= .int kk) rfl ?_
  left
  refine append_i (xs:=[]) up_same (by decide) ?_
  have g0:up (up G l0 (.lst [])) l0 (.lst ([]++[PV.int kk])) l0=some (.lst [.int kk]):=up_same
  have k0:Ch [] G (up (up G l0 (.lst [])) l0 (.lst ([]++[PV.int kk]))):=(Ch.refl.new hl0).mod' hl0
  generalize up (up G l0 (.lst [])) l0 (.lst ([]++[PV.int kk]))=G0 at g0 k0⊢
  left
  refine⟨_,rfl,fun li hli=> ?_⟩
  have n0i:l0≠li:=ne_none g0 hli
  rw[show tinn (Tr.pick kk t)=[t]from rfl]
  left
  rw[lk_up]
  left
  refine⟨fun i τ G'=>∃fl t2,τ=[some (ent (.pick kk t)),some (.ref fl),t2]∧G' fl=some (.lst ((kk::mkss ([t].take i)).map PV.int))∧G fl=none∧G' li=some (.lst (ents [t]))∧fl≠li∧Ch [] G G',⟨l0,_,rfl,by rw[up_ne n0i];exact g0,hl0,up_same,n0i,k0.new hli⟩,?_,?_,?_⟩
  ·rintro i τ G' _ ⟨_,_,rfl,_,_,gi,_,_⟩
   exact lk_lst gi
  ·rintro i x τ G' hx ⟨fl,_,rfl,gf,hfl,gi,nfi,k1⟩
   obtain⟨c,hc,rfl⟩:=ents_at hx
   have hct:c=t:=List.mem_singleton.mp (List.mem_of_getElem? hc)
   have h2:=mkss_take hc
   have h3:=mkss_le [t] (i+1)
   have h4:mkss [t]=mks t:=List.append_nil _
   rw[h4]at h3
   rw[h2,List.length_append]at h3
   subst hct
   refine⟨rfl,rfl,?_⟩
   refine ifF rfl ?_
   left
   refine⟨c,rfl,by(first|lia|omega),by(first|lia|omega),fun l2 G2 hl2 g2 k2=> ?_⟩
   refine addEL_i (lk_lst (k2 fl _ (by simp) gf)) (lk_lst g2) (by rw[List.length_map,List.length_map,List.length_cons];(first|lia|omega)) fun l3 hl3=> ?_
   have gi2:=k2 li _ (by simp) gi
   have ni3:li≠l3:=ne_none gi2 hl3
   exact⟨l3,_,rfl,by rw[up_same,h2,←List.map_append];rfl,ch0_none (k1.trans k2) hl3,by rw[up_ne ni3];exact gi2,Ne.symm ni3,(k1.trans k2).new hl3⟩
  ·rintro τ G' ⟨fl,_,rfl,gf,hfl,gi,nfi,k1⟩
   rw[ents_length,List.take_length,show mkss [t]=mks t from List.append_nil _]at gf
   refine⟨rfl,rfl,?_⟩
   refine ifF rfl ?_
   exact⟨_,GE.refl,q fl _ hfl (by rw[em];exact gf) k1⟩
 |again ts=>
  have hd1:tdps ts≤n:=by have:tdp (.again ts)=1+tdps ts:=rfl;(first|lia|omega)
  have em:mks (.again ts)=mksU ts++[1]:=mksU_T ts
  rw[em,List.length_append]at hm
  refine⟨rfl,rfl,?_⟩
  refine ifF rfl ?_
  left
  refine⟨_,rfl,fun li hli=> ?_⟩
  have n0i:l0≠li:=fun z=>by subst z;rw[up_same]at hli;cases hli
  rw[show tinn (Tr.again ts)=ts from rfl]
  left
  rw[lk_up]
  left
  refine⟨fun i τ G'=>∃fl t2,τ=[some (ent (.again ts)),some (.ref fl),t2]∧G' fl=some (.lst ((mksU (ts.take i)).map PV.int))∧G fl=none∧G' li=some (.lst (ents ts))∧fl≠li∧Ch [] G G',⟨l0,_,rfl,by rw[up_ne n0i,up_same];rfl,hl0,up_same,n0i,(Ch.refl.new hl0).new hli⟩,?_,?_,?_⟩
  ·rintro i τ G' _ ⟨_,_,rfl,_,_,gi,_,_⟩
   exact lk_lst gi
  ·rintro i x τ G' hx ⟨fl,_,rfl,gf,hfl,gi,nfi,k1⟩
   obtain⟨c,hc,rfl⟩:=ents_at hx
   have h1:=tdp_mem (List.mem_of_getElem? hc)
   have h2:=mksU_take hc
   have h3:=mksU_le ts (i+1)
   rw[h2,List.length_append,List.length_cons]at h3
   refine⟨rfl,rfl,?_⟩
   refine ifT rfl ?_
   left
   refine⟨isL_of gf,?_⟩
   refine append_i gf (by rw[List.length_map];(first|lia|omega)) ?_
   have gf':up G' fl (.lst ((mksU (ts.take i)).map PV.int++[.int 0])) fl=some (.lst ((mksU (ts.take i)).map PV.int++[.int 0])):=up_same
   have gi':up G' fl (.lst ((mksU (ts.take i)).map PV.int++[.int 0])) li=some (.lst (ents ts)):=by rw[up_ne (Ne.symm nfi)];exact gi
   have k1':Ch [] G (up G' fl (.lst ((mksU (ts.take i)).map PV.int++[.int 0]))):=k1.mod' hfl
   generalize up G' fl (.lst ((mksU (ts.take i)).map PV.int++[.int 0]))=G1 at gf' gi' k1'⊢
   left
   refine⟨c,rfl,by(first|lia|omega),by(first|lia|omega),fun l2 G2 hl2 g2 k2=> ?_⟩
   refine addEL_i (lk_lst (k2 fl _ (by simp) gf')) (lk_lst g2) (by rw[List.length_append,List.length_map,List.length_map];simp;(first|lia|omega)) fun l3 hl3=> ?_
   have gi2:=k2 li _ (by simp) gi'
   have ni3:li≠l3:=ne_none gi2 hl3
   exact⟨l3,_,rfl,by rw[up_same,h2,List.map_append];simp,ch0_none (k1'.trans k2) hl3,by rw[up_ne ni3];exact gi2,Ne.symm ni3,(k1'.trans k2).new hl3⟩
  ·rintro τ G' ⟨fl,_,rfl,gf,hfl,gi,nfi,k1⟩
   rw[ents_length,List.take_length]at gf
   refine⟨rfl,rfl,?_⟩
   refine ifT rfl ?_
   left
   refine⟨isL_of gf,?_⟩
   refine append_i gf (by rw[List.length_map];(first|lia|omega)) ?_
   exact⟨_,GE.refl,q fl _ hfl (by rw[up_same,em,List.map_append];rfl) (k1.mod' hfl)⟩
end
theorem cut_take'{xs:List PV}{n:Nat}:cutP xs none (some (n:Int))=xs.take n:=by
 unfold cutP
 rw[HT.sIx_none,HT.sIx_nat,List.drop_zero,Nat.sub_zero]
 by_cases h:n≤xs.length
 ·rw[Nat.min_eq_left h]
 ·rw[Nat.min_eq_right (by(first|lia|omega)),List.take_length,List.take_of_length_le (by(first|lia|omega))]
section
variable{P:Program}{w:World}{K:PySem.W.Frag}{mg:Str→Option Value}{base:Heap}{f fn fi ft fa fs fw fp fl:Addr}{fd dn di dt da ds dw dp dl:FuncData}
noncomputable abbrev nWT:List Str:=["pattern", "text", "most", "size", "left", "found"]
theorem scWT:FnScope nWT ["pattern", "text", "most"] (defScope xWText):=⟨rfl,rfl,rfl,by decide+kernel,rfl,by decide+kernel,by decide+kernel⟩
structure Rs(p:Pt)(y:Str)(L:List (Tr×Nat)):Prop where
 ok:∀x∈L,Fit p x.1∧x.2≤y.length∧tcs x.1=y.cps.toList.take x.2
 all:L≠[]→∀t k,Fit p t→k≤y.length→tcs t=y.cps.toList.take k→(t,k)∈L
 n:L.length≤301
 y:y.length≤6
noncomputable def spWT:Sp2:=fun as G Q=>∃(p:Pt) (z:Str),as=[enc p,.str z,.int 300]∧wq p∧depth p≤5∧z.length≤6∧∀(y:Str) c L G',Rs p y L→G c=none→G' c=some (.lst (L.map prP))→Ch [] G G'→Q (.tup [.str y,.ref c]) G'
theorem ok_wt{k:Nat}(hk:1≤k)(F:Fun K "_law_whole_text" "_law_whole_text" xWText f fd)(B:BN mg)(C:Cal2 P w K mg base k "_law_all" fa da ["pattern", "text", "at", "left"] (spAll 47)):Ok2 P w K mg base (k+1) f fd ["pattern", "text", "most"] spWT:=by
 have nd:=scWT.nd
 have hUE:=UseE.mk
 refine fn2 F scWT (fun vs G Q h=> ?_) (fun cdv A outer s H E as G Q hr h=> ?_)
 ·obtain⟨_,_,rfl,_⟩:=h
  rfl
 have hU:=u200 hr
 apply ex2
 case a=>symm
 obtain⟨p,z,rfl,hw,hd,hz,q⟩:=h
 left
 refine⟨by(first|lia|omega),?_⟩
 left
 refine⟨rfl,⟨by(first|lia|omega),by(first|lia|omega),by decide,by decide⟩,?_⟩
 refine⟨fun i τ G'=>∃t3 t4 t5,τ=[some (enc p),some (.str z),some (.int 300),t3,t4,t5]∧Ch [] G G',⟨_,_,_,rfl,Ch.refl⟩,fun _ _ _ _ _=>trivial,?_,?_⟩
 ·rintro i x τ G' hx ⟨_,_,_,rfl,k1⟩
  obtain⟨hi,rfl⟩:=down_at hx
  left
  refine⟨lek,fun lf hlf=> ?_⟩
  have gl:up G' lf (.lst [.int 300]) lf=some (.lst [.int 300]):=up_same
  have k2:Ch [] G (up G' lf (.lst [.int 300])):=k1.new hlf
  generalize hG2:up G' lf (.lst [.int 300])=G2 at gl k2⊢
  left
  refine⟨by(first|lia|omega),?_⟩
  have hsl:(Txt.slice z none (some ((z.length:Int)-(i:Int)))).length≤6:=by
   have:=PyProof.Txt.length_slice_le z none (some ((z.length:Int)-(i:Int)))
   (first|lia|omega)
  generalize hy:Txt.slice z none (some ((z.length:Int)-(i:Int)))=y at hsl
  have A0:Ask 47 p y 0 300:=⟨hw,by(first|lia|omega),by(first|lia|omega),by(first|lia|omega),by(first|lia|omega)⟩
  refine call_i A0 gl fun c G3 hc gc gl3 k3=> ?_
  have hok:=tra_ok y.cps.toList 47 p 0 300 hw (Nat.zero_le _)
  have hlen:=tra_len A0 y.cps.toList
  have hyl:y.cps.toList.length=y.length:=by rw[Array.length_toList];rfl
  have hcG:G c=none:=ch0_none k2 hc
  have k4:Ch [] G G3:=fun b o hb hG=>by
   have nb:b≠lf:=fun z=>by subst z;have:=k1 b o (by simp) hG;rw[hlf]at this;cases this
   exact k3 b o (by simpa using nb) (k2 b o (by simp) hG)
  left
  refine ixL_i (lk_lst gl3) atI_zero ?_
  left
  refine ifB (fun h0=> ?_) (fun _=> ?_)
  ·have h0':0≤(tra y.cps.toList 47 p 0 300).2:=of_decide_eq_true h0
   have rs:Rs p y (tra y.cps.toList 47 p 0 300).1:=⟨fun x hx=>by
    have o:=hok x hx
    have h1:=o.tx
    rw[List.drop_zero]at h1
    refine⟨o.fit,by rw[←hyl];exact o.hi,?_⟩
    have h2:=congrArg List.length h1
    rw[List.length_append,List.length_drop]at h2
    have h3:=o.hi
    rw[h1]
    conv=>rhs;rw[←h1]
    have h4:(tcs x.1).length=x.2:=by(first|lia|omega)
    conv=>rhs;rw[h1,←h4]
    rw[List.take_left],fun _ t k ht hk e=>tra_all y.cps.toList 47 p 0 300 hw (by(first|lia|omega)) (Nat.zero_le _) h0' t k ht (by(first|lia|omega)) (by rw[List.drop_zero,e,List.take_append_drop]),by(first|lia|omega),hsl⟩
   subst hy
   left
   refine⟨by(first|lia|omega),?_⟩
   refine⟨lek,_,GE.refl,q _ c _ G3 rs hcG gc k4⟩
  ·exact⟨_,_,_,rfl,k4⟩
 ·rintro τ G' ⟨_,_,_,rfl,k1⟩
  left
  refine⟨lek,fun c hc=>⟨lek,_,GE.refl,q _ c [] _ ⟨(fun x hx=>by cases hx),(fun h=>absurd rfl h),by simp,by decide⟩ (ch0_none k1 hc) up_same (k1.new hc)⟩⟩
end
noncomputable abbrev xUsed:Stmt:=inClass (top 10) 1
noncomputable def rdg(ms:List Int)(z:Str)(i j:Nat):List (Str×PV):=[("marks",.tup (ms.map PV.int)),("signs",.str z),("marks_used",.int i),("signs_used",.int j)]
section
variable{P:Program}{w:World}{K:PySem.W.Frag}{mg:Str→Option Value}{base:Heap}{f fi ft fm C:Addr}{fd di dt dm:FuncData}
theorem scUsed:FnScope ["self"] ["self"] (defScope xUsed):=⟨rfl,rfl,rfl,by decide+kernel,rfl,by decide+kernel,by decide+kernel⟩
noncomputable def spUsed(C:Addr):Sp2:=fun ps G Q=>∃(a dx:Addr) (ms:List Int) (z:Str) (i j:Nat),ps=[.ref a]∧G a=some (.ins C dx (rdg ms z i j))∧z.length≤1000000∧Q (.bl (decide (i=ms.length)&&decide (j=z.length))) G
theorem ok_used(c:Cls K C)(n1:NoAttr K C "marks")(n2:NoAttr K C "signs")(n3:NoAttr K C "marks_used")(n4:NoAttr K C "signs_used")(F:Fun K "is_used_up" "Reading.is_used_up" xUsed f fd)(B:BN mg):Ok2 P w K mg base 1 f fd ["self"] (spUsed C):=by
 have nd:=scUsed.nd
 refine fn2 F scUsed (fun vs G Q h=> ?_) (fun cdv A outer s H E as G Q hr h=> ?_)
 ·obtain⟨_,_,_,_,_,_,rfl,_⟩:=h
  rfl
 have hU:=u200 hr
 apply ex2
 case a=>
  symm
  all_goals try first
   |refine' j_fld (C:=C) c n1 ?_
   |refine' j_fld (C:=C) c n2 ?_
   |refine' j_fld (C:=C) c n3 ?_
   |refine' j_fld (C:=C) c n4 ?_
  all_goals symm
 obtain⟨a,dx,ms,z,i,j,rfl,ga,hz,q⟩:=h
 left
 refine fld_i ga rfl ?_
 left
 refine fld_i ga rfl ?_
 left
 refine(show∀{xs:List PV} {G:Gp} {Q:K2},Q (.int xs.length) G→len2 [.tup xs] G Q from fun q=>q) ?_
 rw[List.length_map]
 left
 refine eqP_i rfl rfl ?_
 have e1:deq (.int (i:Int)) (.int (ms.length:Nat))=decide (i=ms.length):=by
  show((i:Int)==((ms.length:Nat):Int))=_
  rw[Bool.eq_iff_iff];simp;(first|lia|omega)
 have e2:deq (.int (j:Int)) (.int (z.length:Nat))=decide (j=z.length):=by
  show((j:Int)==((z.length:Nat):Int))=_
  rw[Bool.eq_iff_iff];simp;(first|lia|omega)
 rw[e1]
 refine ifB (fun h=> ?_) (fun h=> ?_)
 ·rw[h,Bool.true_and]at q
  left
  refine fld_i ga rfl ?_
  left
  refine fld_i ga rfl ?_
  left
  refine(show∀{x:Str} {G:Gp} {Q:K2},x.length≤1000000→Q (.int x.length) G→len2 [.str x] G Q from fun h q=>⟨Nat.le_trans h (by decide),q⟩) hz ?_
  left
  refine eqP_i rfl rfl ?_
  rw[e2]
  exact⟨G,GE.refl,q⟩
 ·rw[h,Bool.false_and]at q
  exact⟨G,GE.refl,q⟩
end
noncomputable abbrev xInit:Stmt:=inClass (top 10) 0
noncomputable abbrev xTM:Stmt:=inClass (top 10) 2
noncomputable abbrev xTS:Stmt:=inClass (top 10) 3
section
variable{P:Program}{w:World}{K:PySem.W.Frag}{mg:Str→Option Value}{base:Heap}{f fi ft fm C D:Addr}{fd di dt dm:FuncData}
theorem len_tup{xs:List PV}{G:Gp}{Q:K2}(q:Q (.int xs.length) G):len2 [.tup xs] G Q:=q
theorem len_str{x:Str}{G:Gp}{Q:K2}(h:x.length≤1000000)(q:Q (.int x.length) G):len2 [.str x] G Q:=⟨Nat.le_trans h (by decide),q⟩
theorem augF_i{C a dx:Addr}{f:Str}{G:Gp}{Q:Gp→Prop}{fs:List (Str×PV)}{i j:Int}{τ:St2}(h:G a=some (.ins C dx fs))(e:fs.lookup f=some (.int i))(hl:fs.length<1000)(hq:Q (up G a (.ins C dx (putP2 f (.int (i+j)) fs)))):augF2 C f (.ref a) (eC (.int j)) τ G Q:=by
 unfold augF2;simp only[h,e,eC];exact⟨trivial,trivial,hl,hq⟩
theorem rdg_m{ms:List Int}{z:Str}{i j:Nat}:putP2 "marks_used" (.int ((i:Int)+1)) (rdg ms z i j)=rdg ms z (i+1) j:=rfl
theorem rdg_s{ms:List Int}{z:Str}{i j:Nat}:putP2 "signs_used" (.int ((j:Int)+1)) (rdg ms z i j)=rdg ms z i (j+1):=rfl
theorem notin1_i{S:Str}{c:Nat}{G:Gp}{Q:K2}(q:Q (.bl (!decide (c∈S.cps.toList))) G):in2 true (.str ⟨#[c]⟩) (.str S) G Q:=by
 show Q (.bl (!(!(Builtin.Str.occurrences S ⟨#[c]⟩ 0 S.length 1).isEmpty))) G
 rw[StrLaws.found_one];exact q
theorem scInit:FnScope ["self", "marks", "text"] ["self", "marks", "text"] (defScope xInit):=⟨rfl,rfl,rfl,by decide+kernel,rfl,by decide+kernel,by decide+kernel⟩
noncomputable def spInit(C:Addr):Sp2:=fun ps G Q=>∃(a dx:Addr) (ms:List Int) (z:Str),ps=[.ref a,.tup (ms.map PV.int),.str z]∧G a=some (.ins C dx [])∧Q .non (up G a (.ins C dx (rdg ms z 0 0)))
theorem ok_init(c:Cls K C)(n1:NoAttr K C "marks")(n2:NoAttr K C "signs")(n3:NoAttr K C "marks_used")(n4:NoAttr K C "signs_used")(F:Fun K "__init__" "Reading.__init__" xInit f fd)(B:BN mg):Ok2 P w K mg base 1 f fd ["self", "marks", "text"] (spInit C):=by
 have nd:=scInit.nd
 refine fn2 F scInit (fun vs G Q h=> ?_) (fun cdv A outer s H E as G Q hr h=> ?_)
 ·obtain⟨_,_,_,_,rfl,_⟩:=h
  rfl
 have hU:=u200 hr
 apply ex2
 case a=>symm
 obtain⟨a,dx,ms,z,rfl,ga,q⟩:=h
 left
 refine setF_i ga (Nat.le_of_ble_eq_true rfl) ?_
 left
 refine setF_i up_same (Nat.le_of_ble_eq_true rfl) ?_
 left
 refine setF_i up_same (Nat.le_of_ble_eq_true rfl) ?_
 left
 refine setF_i up_same (Nat.le_of_ble_eq_true rfl) ?_
 left
 rw[up_up,up_up,up_up]
 exact⟨_,GE.refl,q⟩
theorem scTM:FnScope ["self", "choices", "mark"] ["self", "choices"] (defScope xTM):=⟨rfl,rfl,rfl,by decide+kernel,rfl,by decide+kernel,by decide+kernel⟩
noncomputable def spTM(C:Addr):Sp3:=fun ps G Q EX=>∃(a dx:Addr) (ms:List Int) (z:Str) (i j:Nat) (c:Int),ps=[.ref a,.int c]∧G a=some (.ins C dx (rdg ms z i j))∧i≤ms.length∧
 (∀m,ms[i]? =some m→0≤m→m<c→Q (.int m) (up G a (.ins C dx (rdg ms z (i+1) j))))∧(ms[i]? =none→EX G)∧∀m,ms[i]? =some m→¬(0≤m∧m<c)→EX G
theorem ok_tm(c:Cls K C)(n1:NoAttr K C "marks")(n2:NoAttr K C "signs")(n3:NoAttr K C "marks_used")(n4:NoAttr K C "signs_used")(xq:PySem.W.excIn K D bmV "ValueError.__new__" =true)(hD:mg "NoTree" =some (.ref D))(F:Fun K "take_mark" "Reading.take_mark" xTM f fd)(B:BN mg):OkX P w K mg base D 1 f fd ["self", "choices"] (spTM C):=by
 have nd:=scTM.nd
 refine fnX F scTM (fun vs G Q EX h=> ?_) (fun cdv A outer s H E as G Q EX hr h hX=> ?_)
 ·obtain⟨_,_,_,_,_,_,_,rfl,_⟩:=h
  rfl
 have hU:=u200 hr
 apply ex2
 case a=>symm
 obtain⟨a,dx,ms,z,i,j,ch,rfl,ga,hi,q1,q2,q3⟩:=h
 have e1:deq (.int (i:Int)) (.int (ms.length:Nat))=decide (i=ms.length):=by
  show((i:Int)==((ms.length:Nat):Int))=_
  rw[Bool.eq_iff_iff];simp;(first|lia|omega)
 left
 refine fld_i ga rfl ?_
 left
 refine fld_i ga rfl ?_
 left
 refine len_tup ?_
 rw[List.length_map]
 left
 refine eqP_i rfl rfl ?_
 left
 rw[e1]
 refine ifB (fun h=> ?_) (fun h=> ?_)
 ·left
  have hi':=of_decide_eq_true h
  exact⟨lek,q2 (by rw[hi'];simp)⟩
 ·left
  have hi':=of_decide_eq_false h
  have hlt:i<ms.length:=by(first|lia|omega)
  refine fld_i ga rfl ?_
  left
  refine fld_i ga rfl ?_
  left
  have hm:ms[i]? =some ms[i]:=List.getElem?_eq_getElem hlt
  refine ixT_i (x:= .int ms[i]) (atI_nat (by rw[List.getElem?_map,hm];rfl)) ?_
  left
  refine ifB (fun h0=> ?_) (fun h0=> ?_)
  ·left
   refine ifB (fun h1=> ?_) (fun h1=> ?_)
   ·left
    refine⟨lek,q3 _ hm fun hh=> ?_⟩
    have:=of_decide_eq_false (Bool.not_eq_true' _▸h1)
    exact this hh.2
   ·left
    refine augF_i ga rfl (Nat.le_of_ble_eq_true rfl) ?_
    rw[rdg_m]
    left
    refine⟨_,GE.refl,q1 _ hm (of_decide_eq_true h0) ?_⟩
    have:=of_decide_eq_true (Bool.not_eq_false' _▸h1)
    exact this
  ·left
   refine⟨lek,q3 _ hm fun hh=> ?_⟩
   exact of_decide_eq_false h0 hh.1
theorem scTS:FnScope ["self", "signs", "sign"] ["self", "signs"] (defScope xTS):=⟨rfl,rfl,rfl,by decide+kernel,rfl,by decide+kernel,by decide+kernel⟩
noncomputable def spTS(C:Addr):Sp3:=fun ps G Q EX=>∃(a dx:Addr) (ms:List Int) (z:Str) (i j:Nat) (S:Str),ps=[.ref a,.str S]∧G a=some (.ins C dx (rdg ms z i j))∧j≤z.length∧z.length≤1000000∧
 (∀c,z.cps.toList[j]? =some c→c∈S.cps.toList→Q (.str ⟨#[c]⟩) (up G a (.ins C dx (rdg ms z i (j+1)))))∧(z.cps.toList[j]? =none→EX G)∧∀c,z.cps.toList[j]? =some c→c∉S.cps.toList→EX G
theorem ok_ts(c:Cls K C)(n1:NoAttr K C "marks")(n2:NoAttr K C "signs")(n3:NoAttr K C "marks_used")(n4:NoAttr K C "signs_used")(xq:PySem.W.excIn K D bmV "ValueError.__new__" =true)(hD:mg "NoTree" =some (.ref D))(F:Fun K "take_sign" "Reading.take_sign" xTS f fd)(B:BN mg):OkX P w K mg base D 1 f fd ["self", "signs"] (spTS C):=by
 have nd:=scTS.nd
 refine fnX F scTS (fun vs G Q EX h=> ?_) (fun cdv A outer s H E as G Q EX hr h hX=> ?_)
 ·obtain⟨_,_,_,_,_,_,_,rfl,_⟩:=h
  rfl
 have hU:=u200 hr
 apply ex2
 case a=>symm
 obtain⟨a,dx,ms,z,i,j,S,rfl,ga,hj,hz,q1,q2,q3⟩:=h
 have e1:deq (.int (j:Int)) (.int (z.length:Nat))=decide (j=z.length):=by
  show((j:Int)==((z.length:Nat):Int))=_
  rw[Bool.eq_iff_iff];simp;(first|lia|omega)
 have hzl:z.cps.toList.length=z.length:=by rw[Array.length_toList];rfl
 left
 refine fld_i ga rfl ?_
 left
 refine fld_i ga rfl ?_
 left
 refine len_str hz ?_
 left
 refine eqP_i rfl rfl ?_
 left
 rw[e1]
 refine ifB (fun h=> ?_) (fun h=> ?_)
 ·left
  have hi':=of_decide_eq_true h
  exact⟨lek,q2 (by rw[hi'];rw[←hzl];simp)⟩
 ·left
  have hi':=of_decide_eq_false h
  have hlt:j<z.cps.toList.length:=by(first|lia|omega)
  refine fld_i ga rfl ?_
  left
  refine fld_i ga rfl ?_
  left
  have hm:z.cps.toList[j]? =some z.cps.toList[j]:=List.getElem?_eq_getElem hlt
  refine ixS_i (c:=z.cps.toList[j]) (Nat.le_trans hz (by decide)) (atI_nat hm) ?_
  left
  refine notin1_i ?_
  left
  refine ifB (fun h0=> ?_) (fun h0=> ?_)
  ·left
   refine⟨lek,q3 _ hm ?_⟩
   exact of_decide_eq_false (Bool.not_eq_true' _▸h0)
  ·left
   refine augF_i ga rfl (Nat.le_of_ble_eq_true rfl) ?_
   rw[rdg_s]
   left
   exact⟨_,GE.refl,q1 _ hm (of_decide_eq_true (Bool.not_eq_false' _▸h0))⟩
end
noncomputable abbrev xTT:Stmt:=inClass (top 10) 5
noncomputable abbrev xTu:Stmt:=inClass (top 10) 4
noncomputable abbrev frm(z:Str)(j:Nat):List Nat:=z.cps.toList.drop j
structure At(ms:List Int)(z:Str)(i j:Nat):Prop where
 i:i≤ms.length
 j:j≤z.length
 ms:ms.length≤900000
 z:z.length≤1000000
noncomputable def spTT(C:Addr)(n:Nat):Sp3:=fun ps G Q EX=>∃(a dx:Addr) (p:Pt) (ms:List Int) (z:Str) (i j:Nat),ps=[.ref a,enc p]∧depth p≤n∧wq p∧G a=some (.ins C dx (rdg ms z i j))∧At ms z i j∧
 (∀t i' j',rd p (ms.drop i) (frm z j)=some (t,ms.drop i',frm z j')→i≤i'→At ms z i' j'→Q (ent t) (up G a (.ins C dx (rdg ms z i' j'))))∧(rd p (ms.drop i) (frm z j)=none→∀G',Ch [a] G G'→EX G')
noncomputable def spTu(C:Addr)(n:Nat):Sp3:=fun ps G Q EX=>∃(a dx:Addr) (p:Pt) (ms:List Int) (z:Str) (i j:Nat),ps=[.ref a,enc p]∧depth p≤n∧wq p∧G a=some (.ins C dx (rdg ms z i j))∧At ms z i j∧
 (∀ts i' j',rdT p (ms.drop i) (frm z j)=some (ts,ms.drop i',frm z j')→i≤i'→At ms z i' j'→Q (.tup (ents ts)) (up G a (.ins C dx (rdg ms z i' j'))))∧(rdT p (ms.drop i) (frm z j)=none→∀G',Ch [a] G G'→EX G')
theorem drop_at{ms:List Int}{i:Nat}{m:Int}(h:ms[i]? =some m):ms.drop i=m::ms.drop (i+1):=by
 rw[List.drop_eq_getElem_cons (List.getElem?_eq_some_iff.mp h).1,(List.getElem?_eq_some_iff.mp h).2]
theorem drop_no{ms:List Int}{i:Nat}(h:ms[i]? =none):ms.drop i=[]:=List.drop_eq_nil_of_le (List.getElem?_eq_none_iff.mp h)
theorem at_lt{ms:List Int}{i:Nat}{m:Int}(h:ms[i]? =some m):i<ms.length:=(List.getElem?_eq_some_iff.mp h).1
theorem flen{z:Str}:z.cps.toList.length=z.length:=by rw[Array.length_toList];rfl
theorem ch_put{a:Addr}{G G':Gp}{o:MO}(h:Ch [a] G G'):GE (up G a o) (up G' a o):=fun b u q=>by
 by_cases hb:b=a
 ·subst hb;rw[up_same]at q⊢;exact q
 ·rw[up_ne hb]at q⊢;exact h b u (by simpa using hb) q
theorem ch_at{a:Addr}{G G':Gp}{o:MO}(h:Ch [a] G G')(g:G' a=some o):GE (up G a o) G':=fun b u q=>by
 by_cases hb:b=a
 ·subst hb;rw[up_same]at q;cases q;exact g
 ·rw[up_ne hb]at q;exact h b u (by simpa using hb) q
section
variable{P:Program}{w:World}{K:PySem.W.Frag}{mg:Str→Option Value}{base:Heap}{f fi ft fm fs C D:Addr}{fd di dt dm ds:FuncData}
theorem scTu:FnScope ["self", "part", "turns"] ["self", "part"] (defScope xTu):=⟨rfl,rfl,rfl,by decide+kernel,rfl,by decide+kernel,by decide+kernel⟩
theorem ok_tu{n k:Nat}(hk:1≤k){t0:Tok}(h0:mg "TURN" =some (.int 0 t0))(F:Fun K "take_turns" "Reading.take_turns" xTu f fd)(B:BN mg)(MM:MetX P w K mg base D C 1 "take_mark" fm dm ["self", "choices"] (spTM C))(MT:MetX P w K mg base D C k "take_tree" ft dt ["self", "pattern"] (spTT C n)):OkX P w K mg base D (k+1) f fd ["self", "part"] (spTu C n):=by
 have nd:=scTu.nd
 refine fnX F scTu (fun vs G Q EX h=> ?_) (fun cdv A outer s H E as G Q EX hr h hX=> ?_)
 ·obtain⟨_,_,_,_,_,_,_,rfl,_⟩:=h
  rfl
 have hU:=u200 hr
 apply ex2
 case a=>symm
 obtain⟨a,dx,p,ms,z,i,j,rfl,hd,hw,ga,hA,q1,q2⟩:=h
 left
 refine⟨lek,fun l hl=> ?_⟩
 left
 have nla:a≠l:=ne_none ga hl
 refine⟨fun m τ G'=>∃(dn:List Tr) (i' j':Nat),τ=[some (.ref a),some (enc p),some (.ref l)]∧G' l=some (.lst (ents dn))∧G' a=some (.ins C dx (rdg ms z i' j'))∧Ch [a] G G'∧At ms z i' j'∧i≤i'∧
   rdT p (ms.drop i) (frm z j)=(rdT p (ms.drop i') (frm z j')).map (fun r=>(dn++r.1,r.2))∧dn.length≤i'∧m=ms.length-i',
  ⟨_,[],i,j,rfl,up_same,by rw[up_ne nla];exact ga,Ch.refl.new hl,hA,Nat.le_refl _,by simp,Nat.zero_le _,rfl⟩,?_⟩
 rintro m τ G' ⟨dn,i',j',rfl,gl,ga',ch,hA',hi',e3,hdn,rfl⟩
 left
 refine⟨⟨a,dx,_,rfl,ga',rfl⟩,?_⟩
 left
 refine⟨a,dx,ms,z,i',j',2,rfl,ga',hA'.i,fun m hm m0 m2=> ?_,(fun hm=>q2 (by rw[e3,drop_no hm,rdT_nil];rfl) G' ch),fun m hm h=>q2 (by rw[e3,drop_at hm,rdT_no (fun z=>h (by(first|lia|omega))) (fun z=>h (by(first|lia|omega)))];rfl) G' ch⟩
 have hlt:=at_lt hm
 have gl1:∀o,up G' a o l=some (.lst (ents dn)):=fun o=>by rw[up_ne (Ne.symm nla)];exact gl
 have hm':m=1∨m=0:=by(first|lia|omega)
 rcases hm' with rfl|rfl
 ·left
  refine eqP_i rfl rfl ?_
  left
  refine tupL_i (lk_lst (gl1 _)) ?_
  refine⟨_,ch_put ch,q1 dn (i'+1) j' ?_ (by(first|lia|omega)) ⟨hlt,hA'.j,hA'.ms,hA'.z⟩⟩
  rw[e3,drop_at hm,rdT_stop]
  show some (dn++[],_)=_
  rw[List.append_nil]
 ·left
  refine eqP_i rfl rfl ?_
  left
  refine⟨⟨_,gl1 _⟩,?_⟩
  left
  refine⟨⟨a,dx,_,rfl,up_same,rfl⟩,?_⟩
  left
  refine⟨a,dx,p,ms,z,i'+1,j',rfl,hd,hw,up_same,⟨hlt,hA'.j,hA'.ms,hA'.z⟩,fun t i2 j2 ht h2 hA2=> ?_,fun hn G2 c2=> ?_⟩
  ·rw[up_up]
   left
   refine append_i (xs:=ents dn) (gl1 _) (by rw[ents_length];have:=hA'.ms;(first|lia|omega)) ?_
   left
   refine⟨ms.length-i2,by(first|lia|omega),dn++[t],i2,j2,rfl,by rw[up_same,ents_append];rfl,by rw[up_ne nla,up_same],(ch.put (by simp)).mod' hl,hA2,by(first|lia|omega),?_,by rw[List.length_append,List.length_singleton];(first|lia|omega),rfl⟩
   rw[e3,drop_at hm,rdT_turn,ht]
   simp only[Option.map_map]
   congr 1
   funext x
   simp
  ·refine q2 ?_ G2 ((ch.put (by simp)).trans c2)
   rw[e3,drop_at hm,rdT_turn,hn]
   rfl
end
section
variable{P:Program}{w:World}{K:PySem.W.Frag}{mg:Str→Option Value}{base:Heap}{f fi ft fm fs fu C D:Addr}{fd di dt dm ds du:FuncData}
theorem scTT:FnScope ["self", "pattern", "kind", "mark"] ["self", "pattern"] (defScope xTT):=⟨rfl,rfl,rfl,by decide+kernel,rfl,by decide+kernel,by decide+kernel⟩
theorem csTT:compOkB (defScope xTT) ["self", "pattern", "kind", "mark"] (cscope [(".0",.local),("part",.local),("self",.free)]) ["part", "self"] [none,some 0] 0 "part" =true:=by decide+kernel
theorem rds_drop{ps:List Pt}{k:Nat}{q:Pt}{ms:List Int}{cs:List Nat}(h:ps[k]? =some q):rds (ps.drop k) ms cs=(match rd q ms cs with
  |none=>none
  |some x=>(rds (ps.drop (k+1)) x.2.1 x.2.2).map fun r=>(x.1::r.1,r.2)):=by
 rw[List.drop_eq_getElem_cons (List.getElem?_eq_some_iff.mp h).1,(List.getElem?_eq_some_iff.mp h).2]
 rfl
theorem ok_tt{n k:Nat}(hk:1≤k)(xq:PySem.W.excIn K D bmV "ValueError.__new__" =true)(hD:mg "NoTree" =some (.ref D))(F:Fun K "take_tree" "Reading.take_tree" xTT f fd)(B:BN mg)(MM:MetX P w K mg base D C 1 "take_mark" fm dm ["self", "choices"] (spTM C))(MS:MetX P w K mg base D C 1 "take_sign" fs ds ["self", "signs"] (spTS C))(MT:MetX P w K mg base D C k "take_tree" ft dt ["self", "pattern"] (spTT C n))(MU:MetX P w K mg base D C (k+1) "take_turns" fu du ["self", "part"] (spTu C n)):OkX P w K mg base D (k+2) f fd ["self", "pattern"] (spTT C (n+1)):=by
 have nd:=scTT.nd
 refine fnX F scTT (fun vs G Q EX h=> ?_) (fun cdv A outer s H E as G Q EX hr h hX=> ?_)
 ·obtain⟨_,_,_,_,_,_,_,rfl,_⟩:=h
  rfl
 have hU:=u200 hr
 apply ex2
 case a=>
  symm
  all_goals try (refine' j_compX csTT ?_ fun _ _ _ _ hp=>⟨?_,?_⟩)
  all_goals symm
 obtain⟨a,dx,p,ms,z,i,j,rfl,hd,hw,ga,hA,q1,q2⟩:=h
 have hdi:=size_depth_inner p
 cases p with
 |none=>
  left
  refine⟨rfl,rfl,?_⟩
  refine ifT rfl ?_
  left
  exact⟨lek,q2 rfl G Ch.refl⟩
 |blank=>
  left
  refine⟨rfl,rfl,?_⟩
  refine ifF rfl ?_
  left
  refine⟨rfl,rfl,?_⟩
  refine ifF rfl ?_
  left
  refine⟨rfl,rfl,?_⟩
  refine ifF rfl ?_
  left
  refine⟨rfl,rfl,?_⟩
  refine ifF rfl ?_
  left
  refine⟨rfl,rfl,?_⟩
  refine ifF rfl ?_
  left
  refine⟨lek,rfl,rfl,?_⟩
  refine ifF rfl ?_
  left
  refine⟨lek,?_⟩
  refine⟨G,GE.refl,?_⟩
  have:=q1 .blank i j rfl (Nat.le_refl _) hA
  rw[show up G a (.ins C dx (rdg ms z i j))=G from up_self ga]at this
  exact this
 |sign S=>
  left
  refine⟨rfl,rfl,?_⟩
  refine ifF rfl ?_
  left
  refine⟨rfl,rfl,?_⟩
  refine ifT rfl ?_
  left
  refine⟨⟨a,dx,_,rfl,ga,rfl⟩,?_⟩
  left
  refine⟨a,dx,ms,z,i,j,S,rfl,ga,hA.j,hA.z,fun d hd' hS=> ?_,fun hn=> ?_,fun d hd' hS=> ?_⟩
  ·left
   refine⟨lek,?_⟩
   refine⟨_,GE.refl,q1 (.sign ⟨#[d]⟩) i (j+1) ?_ (Nat.le_refl _) ⟨hA.i,by have:=(List.getElem?_eq_some_iff.mp hd').1;rw[flen]at this;exact this,hA.ms,hA.z⟩⟩
   rw[frm,List.drop_eq_getElem_cons (List.getElem?_eq_some_iff.mp hd').1,(List.getElem?_eq_some_iff.mp hd').2]
   show(if d∈S.cps.toList then some (Tr.sign ⟨#[d]⟩,_,_)else none)=_
   rw[if_pos hS]
  ·refine q2 ?_ G Ch.refl
   rw[frm,List.drop_eq_nil_of_le (List.getElem?_eq_none_iff.mp hn)]
   rfl
  ·refine q2 ?_ G Ch.refl
   rw[frm,List.drop_eq_getElem_cons (List.getElem?_eq_some_iff.mp hd').1,(List.getElem?_eq_some_iff.mp hd').2]
   show(if d∈S.cps.toList then some (Tr.sign ⟨#[d]⟩,_,_)else none)=_
   rw[if_neg hS]
 |row ps=>
  have hw':2≤ps.length∧ps.length≤6∧wqs ps:=hw
  have hdp:depth (.row ps)=1+depths ps:=hdi
  have hfl:rd (.row ps) (ms.drop i) (frm z j)=(rds ps (ms.drop i) (frm z j)).map fun r=>(.row r.1,r.2):=by rw[rd]
  left
  refine⟨rfl,rfl,?_⟩
  refine ifF rfl ?_
  left
  refine⟨rfl,rfl,?_⟩
  refine ifF rfl ?_
  left
  refine⟨rfl,rfl,?_⟩
  refine ifT rfl ?_
  left
  intro acc hacc
  have nac:a≠acc:=ne_none ga hacc
  refine⟨fun k ys G'=>∃(dn:List Tr) (i' j':Nat),ys=ents dn∧G' acc=some (.lst ys)∧G' a=some (.ins C dx (rdg ms z i' j'))∧Ch [a] G G'∧At ms z i' j'∧i≤i'∧
    rds ps (ms.drop i) (frm z j)=(rds (ps.drop k) (ms.drop i') (frm z j')).map (fun r=>(dn++r.1,r.2))∧dn.length=k,
   ⟨[],i,j,rfl,up_same,by rw[up_ne nac];exact ga,Ch.refl.new hacc,hA,Nat.le_refl _,by simp,rfl⟩,?_,?_,?_⟩
  ·rintro k ys G' hk' ⟨dn,i',j',rfl,g1,_,_,_,_,_,hl⟩
   rw[encs_length]at hk'
   exact⟨trivial,g1,by rw[ents_length];(first|lia|omega)⟩
  ·rintro k ys G' x hx ⟨dn,i',j',rfl,g1,g2,ch,hA',hi',e3,hl⟩
   obtain⟨q,hq,rfl⟩:∃q,ps[k]? =some q∧x=enc q:=by
    rw[encs_map,List.getElem?_map]at hx
    cases e:ps[k]? with
    |none=>rw[e]at hx;cases hx
    |some c=>rw[e]at hx;exact⟨c,rfl,(Option.some.inj hx).symm⟩
   rw[rds_drop hq]at e3
   left
   refine⟨⟨a,dx,_,rfl,g2,rfl⟩,?_⟩
   left
   refine⟨a,dx,q,ms,z,i',j',rfl,?_,wqs_mem.mp hw'.2.2 q (List.mem_of_getElem? hq),g2,hA',fun t i2 j2 ht h2 hA2=> ?_,fun hn G2 c2=> ?_⟩
   ·have:=depth_part (q:= .row ps) hq
    (first|lia|omega)
   ·have g3:up G' a (.ins C dx (rdg ms z i2 j2)) acc=some (.lst (ents dn)):=by rw[up_ne (Ne.symm nac)];exact g1
    refine⟨g3,dn++[t],i2,j2,by rw[ents_append];rfl,up_same,by rw[up_ne nac,up_same],(ch.put (by simp)).mod' hacc,hA2,by(first|lia|omega),?_,by rw[List.length_append,hl];rfl⟩
    rw[e3,ht]
    simp only[Option.map_map]
    congr 1
    funext x
    simp
   ·refine q2 ?_ G2 (ch.trans c2)
    rw[hfl,e3,hn]
    rfl
  ·rintro ys G' ⟨dn,i',j',rfl,g1,g2,ch,hA',hi',e3,hl⟩
   rw[encs_length,List.drop_length]at e3
   left
   refine tupL_i (lk_lst g1) ?_
   left
   refine⟨lek,?_⟩
   refine⟨_,ch_at ch g2,q1 (.row dn) i' j' ?_ hi' hA'⟩
   rw[hfl,e3]
   show some (Tr.row (dn++[]),_)=_
   rw[List.append_nil]
 |pick ps=>
  have hw':2≤ps.length∧ps.length≤6∧wqs ps:=hw
  have hfl:∀m ms cs,rd (.pick ps) (m::ms) cs=if 0≤m then(rdk ps m.toNat ms cs).map (fun r=>(.pick m r.1,r.2))else none:=fun m ms cs=>by rw[rd]
  left
  refine⟨rfl,rfl,?_⟩
  refine ifF rfl ?_
  left
  refine⟨rfl,rfl,?_⟩
  refine ifF rfl ?_
  left
  refine⟨rfl,rfl,?_⟩
  refine ifF rfl ?_
  left
  refine⟨rfl,rfl,?_⟩
  refine ifT rfl ?_
  left
  refine⟨⟨a,dx,_,rfl,ga,rfl⟩,?_⟩
  left
  refine⟨a,dx,ms,z,i,j,((encs ps).length:Nat),rfl,ga,hA.i,fun m hm0 m0 m2=> ?_,(fun hm=>q2 (by rw[drop_no hm];rfl) G Ch.refl),fun m hm0 h=> ?_⟩
  ·obtain⟨b,rfl⟩:∃b:Nat,m=b:=⟨m.toNat,by(first|lia|omega)⟩
   have hlt:=at_lt hm0
   rw[encs_length]at m2
   have hbp:b<ps.length:=by(first|lia|omega)
   obtain⟨q,hq⟩:∃q,ps[b]? =some q:=⟨_,List.getElem?_eq_getElem hbp⟩
   have hfl2:rd (.pick ps) (ms.drop i) (frm z j)=(rd q (ms.drop (i+1)) (frm z j)).map (fun r=>(.pick (b:Int) r.1,r.2)):=by
    rw[drop_at hm0,hfl,if_pos (by(first|lia|omega)),Int.toNat_natCast,rdk_at,hq]
   left
   refine⟨⟨a,dx,_,rfl,up_same,rfl⟩,?_⟩
   left
   refine ixT_i (x:= .tup (encs ps)) rfl ?_
   left
   refine ixT_i (x:=enc q) (atI_nat (by rw[encs_map,List.getElem?_map,hq];rfl)) ?_
   left
   refine⟨a,dx,q,ms,z,i+1,j,rfl,?_,wqs_mem.mp hw'.2.2 q (List.mem_of_getElem? hq),up_same,⟨hlt,hA.j,hA.ms,hA.z⟩,fun t i2 j2 ht h2 hA2=> ?_,fun hn G' c=>q2 (by rw[hfl2,hn];rfl) G' ((Ch.refl.put (by simp)).trans c)⟩
   ·have:=depth_part (q:= .pick ps) hq
    (first|lia|omega)
   rw[up_up]
   left
   refine⟨lek,?_⟩
   exact⟨_,GE.refl,q1 (.pick (b:Int) t) i2 j2 (by rw[hfl2,ht];rfl) (by(first|lia|omega)) hA2⟩
  ·rw[encs_length]at h
   refine q2 ?_ G Ch.refl
   rw[drop_at hm0,hfl]
   split
   ·rename_i h0
    rw[rdk_at,List.getElem?_eq_none (by(first|lia|omega))]
    rfl
   ·rfl
 |again p=>
  have hfl:∀ms cs,rd (.again p) ms cs=(rdT p ms cs).map (fun r=>(.again r.1,r.2)):=fun ms cs=>by rw[rd]
  left
  refine⟨rfl,rfl,?_⟩
  refine ifF rfl ?_
  left
  refine⟨rfl,rfl,?_⟩
  refine ifF rfl ?_
  left
  refine⟨rfl,rfl,?_⟩
  refine ifF rfl ?_
  left
  refine⟨rfl,rfl,?_⟩
  refine ifF rfl ?_
  left
  refine⟨rfl,rfl,?_⟩
  refine ifT rfl ?_
  left
  refine⟨⟨a,dx,_,rfl,ga,rfl⟩,?_⟩
  left
  refine⟨a,dx,p,ms,z,i,j,rfl,by show depth p≤n;have:depth (.again p)=1+depths [p]:=hdi;simp only[depths]at this;(first|lia|omega),wq_inn hw (List.mem_singleton.mpr rfl),ga,hA,fun ts i2 j2 ht h2 hA2=> ?_,fun hn G' c=>q2 (by rw[hfl,hn];rfl) G' c⟩
  left
  refine⟨lek,?_⟩
  exact⟨_,GE.refl,q1 (.again ts) i2 j2 (by rw[hfl,ht];rfl) h2 hA2⟩
 |held m p=>
  have hfl:∀ms cs,rd (.held m p) ms cs=(rd p ms cs).map (fun r=>(.held m r.1,r.2)):=fun ms cs=>by rw[rd]
  left
  refine⟨rfl,rfl,?_⟩
  refine ifF rfl ?_
  left
  refine⟨rfl,rfl,?_⟩
  refine ifF rfl ?_
  left
  refine⟨rfl,rfl,?_⟩
  refine ifF rfl ?_
  left
  refine⟨rfl,rfl,?_⟩
  refine ifF rfl ?_
  left
  refine⟨rfl,rfl,?_⟩
  refine ifF rfl ?_
  left
  refine⟨lek,rfl,rfl,?_⟩
  refine ifT rfl ?_
  left
  refine⟨⟨a,dx,_,rfl,ga,rfl⟩,?_⟩
  left
  refine⟨a,dx,p,ms,z,i,j,rfl,by show depth p≤n;have:depth (.held m p)=1+depths [p]:=hdi;simp only[depths]at this;(first|lia|omega),wq_inn hw (List.mem_singleton.mpr rfl),ga,hA,fun t i2 j2 ht h2 hA2=> ?_,fun hn G' c=>q2 (by rw[hfl,hn];rfl) G' c⟩
  left
  refine⟨lek,?_⟩
  exact⟨_,GE.refl,q1 (.held m t) i2 j2 (by rw[hfl,ht];rfl) h2 hA2⟩
 |price m p=>
  have hfl:∀ms cs,rd (.price m p) ms cs=(rd p ms cs).map (fun r=>(.price m r.1,r.2)):=fun ms cs=>by rw[rd]
  left
  refine⟨rfl,rfl,?_⟩
  refine ifF rfl ?_
  left
  refine⟨rfl,rfl,?_⟩
  refine ifF rfl ?_
  left
  refine⟨rfl,rfl,?_⟩
  refine ifF rfl ?_
  left
  refine⟨rfl,rfl,?_⟩
  refine ifF rfl ?_
  left
  refine⟨rfl,rfl,?_⟩
  refine ifF rfl ?_
  left
  refine⟨lek,rfl,rfl,?_⟩
  refine ifT rfl ?_
  left
  refine⟨⟨a,dx,_,rfl,ga,rfl⟩,?_⟩
  left
  refine⟨a,dx,p,ms,z,i,j,rfl,by show depth p≤n;have:depth (.price m p)=1+depths [p]:=hdi;simp only[depths]at this;(first|lia|omega),wq_inn hw (List.mem_singleton.mpr rfl),ga,hA,fun t i2 j2 ht h2 hA2=> ?_,fun hn G' c=>q2 (by rw[hfl,hn];rfl) G' c⟩
  left
  refine⟨lek,?_⟩
  exact⟨_,GE.refl,q1 (.price m t) i2 j2 (by rw[hfl,ht];rfl) h2 hA2⟩
end
noncomputable abbrev xTB:Stmt:=top 11
theorem tb_of{p:Pt}{ms r:List Int}{cs s:List Nat}{t:Tr}(h:rd p ms cs=some (t,r,s)):tb p ms cs=if r=[]∧s=[]then some t else none:=by
 unfold tb
 rw[h]
 cases r with
 |nil=>cases s with
  |nil=>rfl
  |cons _ _=>rfl
 |cons _ _=>rfl
noncomputable def spTB(n:Nat):Sp3:=fun ps G Q EX=>∃(p:Pt) (ms:List Int) (z:Str),ps=[enc p,.tup (ms.map PV.int),.str z]∧depth p≤n∧wq p∧ms.length≤900000∧z.length≤1000000∧
 (∀t,tb p ms z.cps.toList=some t→Q (ent t) G)∧(tb p ms z.cps.toList=none→∀G',GE G G'→EX G')
section
variable{P:Program}{w:World}{K:PySem.W.Frag}{mg:Str→Option Value}{base:Heap}{f fi ft fm fs fu C D:Addr}{fd di dt dm ds du:FuncData}
theorem scTB:FnScope ["pattern", "marks", "text", "reading", "tree"] ["pattern", "marks", "text"] (defScope xTB):=⟨rfl,rfl,rfl,by decide+kernel,rfl,by decide+kernel,by decide+kernel⟩
theorem ok_tb{n k:Nat}(hk:2≤k)(xq:PySem.W.excIn K D bmV "ValueError.__new__" =true)(hD:mg "NoTree" =some (.ref D))(F:Fun K "tree_by" "tree_by" xTB f fd)(B:BN mg)(Mk1:Mk K C fi)(oki:Ok2 P w K mg base 1 fi di ["self", "marks", "text"] (spInit C))(bi:Binds K di ["self", "marks", "text"] [])(hC:mg "Reading" =some (.ref C))
  (MT:MetX P w K mg base D C k "take_tree" ft dt ["self", "pattern"] (spTT C n)) (MU:Met2 P w K mg base C 1 "is_used_up" fu du ["self"] (spUsed C)):OkX P w K mg base D (k+1) f fd ["pattern", "marks", "text"] (spTB n):=by
 have nd:=scTB.nd
 refine fnX F scTB (fun vs G Q EX h=> ?_) (fun cdv A outer s H E as G Q EX hr h hX=> ?_)
 ·obtain⟨_,_,_,rfl,_⟩:=h
  rfl
 have hU:=u200 hr
 apply ex2
 case a=>symm
 obtain⟨p,ms,z,rfl,hd,hw,hms,hz,q1,q2⟩:=h
 left
 intro x dx hx hdx ne
 refine⟨x,dx,ms,z,rfl,up_same,rfl,?_⟩
 rw[up_up]
 left
 refine⟨⟨x,dx,_,rfl,up_same,rfl⟩,?_⟩
 left
 have chg:∀{G1 G':Gp} {o:MO},G1=up G x o→Ch [x] G1 G'→GE G G':=fun e c=>by
  subst e
  exact((GE.refl.new hx).ch.trans c).ge fun b hb=>by cases List.mem_singleton.mp hb;exact hx
 refine⟨x,dx,p,ms,z,0,0,rfl,hd,hw,up_same,⟨Nat.zero_le _,Nat.zero_le _,hms,hz⟩,fun t i j ht _ hA=> ?_,fun hn G' c=>q2 ?_ G' (chg rfl c)⟩
 ·rw[up_up]
  left
  refine⟨⟨x,dx,_,rfl,up_same,rfl⟩,?_⟩
  left
  refine⟨x,dx,ms,z,i,j,rfl,up_same,hz,?_⟩
  have hb:tb p ms z.cps.toList=if ms.drop i=[]∧frm z j=[]then some t else none:=tb_of ht
  have e:(decide (i=ms.length)&&decide (j=z.length))=decide (ms.drop i=[]∧frm z j=[]):=by
   have hi:=hA.i
   have hj:=hA.j
   have e1:(frm z j=[])↔j=z.length:=by
    unfold frm
    rw[List.drop_eq_nil_iff,flen];(first|lia|omega)
   have e2:(ms.drop i=[])↔i=ms.length:=by rw[List.drop_eq_nil_iff];(first|lia|omega)
   rw[Bool.eq_iff_iff]
   simp only[Bool.and_eq_true,decide_eq_true_eq,e1,e2]
  rw[e]
  left
  refine ifB (fun h=> ?_) (fun h=> ?_)
  ·have h':=of_decide_eq_false (Bool.not_eq_true' _▸h)
   left
   refine⟨lek,q2 (by rw[hb,if_neg h']) _ (GE.refl.new hx)⟩
  ·have h':=of_decide_eq_true (Bool.not_eq_false' _▸h)
   left
   exact⟨G,GE.refl.new hx,q1 t (by rw[hb,if_pos h'])⟩
 ·unfold tb
  rw[show rd p ms z.cps.toList=none from hn]
theorem isX_i{x c:Addr}{b:Bool}{G:Gp}{Q:K2}(h:G x=some (.exc D))(xk:ExcK K D)(k:PySem.W.kitOne K (.ref D) (.ref c)=some b)(q:Q (.bl b) G):isX2 K [.ref x,.ref c] G Q:=⟨D,b,h,xk,k,q⟩
theorem isXV_i{x:Addr}{T:String}{b:Bool}{G:Gp}{Q:K2}(h:G x=some (.exc D))(xk:ExcK K D)(k:PySem.W.kitOne K (.ref D) (.type T)=some b)(q:Q (.bl b) G):isX2 K [.ref x,.ty T] G Q:=⟨D,b,h,xk,k,q⟩
structure Cls5(K:PySem.W.Frag)(mg:Str→Option Value)(D Gv c1 c2 c3 c4 c5:Addr):Prop where
 xq:PySem.W.excIn K D bmV "ValueError.__new__" =true
 xg:PySem.W.excIn K Gv bmV "ValueError.__new__" =true
 xu:excHas K D Gv=true
 xk:ExcK K D
 hD:mg "NoTree" =some (.ref D)
 hG:mg "GroveError" =some (.ref Gv)
 hV:mg "ValueError" =none
 h1:mg "NoName" =some (.ref c1)
 h2:mg "NoRow" =some (.ref c2)
 h3:mg "NoTaste" =some (.ref c3)
 h4:mg "NoText" =some (.ref c4)
 h5:mg "TooMany" =some (.ref c5)
 kD:PySem.W.kitOne K (.ref D) (.ref D)=some true
 kV:PySem.W.kitOne K (.ref D) (.type "ValueError")=some true
 k1:PySem.W.kitOne K (.ref D) (.ref c1)=some false
 k2:PySem.W.kitOne K (.ref D) (.ref c2)=some false
 k3:PySem.W.kitOne K (.ref D) (.ref c3)=some false
 k4:PySem.W.kitOne K (.ref D) (.ref c4)=some false
 k5:PySem.W.kitOne K (.ref D) (.ref c5)=some false
noncomputable abbrev xFound:Stmt:=top 32
noncomputable abbrev xSpoil:Stmt:=top 33
noncomputable abbrev xDue:Stmt:=top 34
theorem scFound:FnScope ["pattern", "marks", "text", "e", "others"] ["pattern", "marks", "text"] (defScope xFound):=⟨rfl,rfl,rfl,by decide+kernel,rfl,by decide+kernel,by decide+kernel⟩
noncomputable def foundV(p:Pt)(ms:List Int)(cs:List Nat):PV:=match tb p ms cs with
 |some t=>ent t
 |none=> .non
noncomputable def spFound(n:Nat):Sp2:=fun ps G Q=>∃(p:Pt) (ms:List Int) (z:Str),ps=[enc p,.tup (ms.map PV.int),.str z]∧depth p≤n∧wq p∧ms.length≤900000∧z.length≤1000000∧∀G',GE G G'→Q (foundV p ms z.cps.toList) G'
theorem ok_found{n k:Nat}{Gv c1 c2 c3 c4 c5:Addr}(hk:1≤k)(c:Cls5 K mg D Gv c1 c2 c3 c4 c5)(F:Fun K "_law_found" "_law_found" xFound f fd)(B:BN mg)(CT:CalX P w K mg base D k "tree_by" ft dt ["pattern", "marks", "text"] (spTB n)):Ok2 P w K mg base (k+1) f fd ["pattern", "marks", "text"] (spFound n):=by
 have nd:=scFound.nd
 obtain⟨xq,xg,xu,xk,hD,hG,hV,h1,h2,h3,h4,h5,kD,kV,k1,k2,k3,k4,k5⟩:=c
 refine fn2 F scFound (fun vs G Q h=> ?_) (fun cdv A outer s H E as G Q hr h=> ?_)
 ·obtain⟨_,_,_,rfl,_⟩:=h
  rfl
 have hU:=u200 hr
 apply ex2
 case a=>symm
 obtain⟨p,ms,z,rfl,hd,hw,hms,hz,q⟩:=h
 left
 refine⟨p,ms,z,rfl,hd,hw,hms,hz,fun t ht=>⟨G,GE.refl,?_⟩,fun hn G' ge x hx=> ?_⟩
 ·have:=q G GE.refl
  unfold foundV at this
  rw[ht]at this
  exact this
 have ge2:GE G (up G' x (.exc D)):=ge.new hx
 have gx:up G' x (.exc D) x=some (.exc D):=up_same
 generalize up G' x (.exc D)=G2 at ge2 gx⊢
 left
 refine isX_i (K:=K) gx xk k1 ?_
 left
 refine isX_i (K:=K) gx xk k2 ?_
 left
 refine isX_i (K:=K) gx xk k3 ?_
 left
 refine isX_i (K:=K) gx xk k4 ?_
 refine⟨lek,fun l hl=> ?_⟩
 have gx3:up G2 l (.lst [.bl false,.bl false,.bl false,.bl false]) x=some (.exc D):=by rw[up_ne (ne_none gx hl)];exact gx
 have ge3:GE G (up G2 l (.lst [.bl false,.bl false,.bl false,.bl false])):=ge2.new hl
 have gl3:up G2 l (.lst [.bl false,.bl false,.bl false,.bl false]) l=some (.lst [.bl false,.bl false,.bl false,.bl false]):=up_same
 generalize up G2 l (.lst [.bl false,.bl false,.bl false,.bl false])=G3 at gx3 ge3 gl3⊢
 left
 refine isX_i (K:=K) gx3 xk kD ?_
 refine ifF rfl ?_
 left
 refine isXV_i (K:=K) gx3 xk kV ?_
 refine ifF rfl ?_
 left
 refine inL_i (lk_lst gl3) rfl rfl ?_
 refine ifF rfl ?_
 left
 refine isX_i (K:=K) gx3 xk k5 ?_
 refine ifF rfl ?_
 refine⟨G3,GE.refl,?_⟩
 have:=q G3 ge3
 unfold foundV at this
 rw[hn]at this
 exact this
end
section
variable{P:Program}{w:World}{K:PySem.W.Frag}{mg:Str→Option Value}{base:Heap}{f fn:Addr}{fd dn:FuncData}
theorem cut_ints(ms:List Int)(lo hi:Option Int):∃ms':List Int,cutP (ms.map PV.int) lo hi=ms'.map PV.int∧ms'.length≤ms.length:=by
 unfold cutP
 rw[←List.map_drop,←List.map_take]
 exact⟨_,rfl,by rw[List.length_take,List.length_drop];(first|lia|omega)⟩
theorem slI_i{ms:List Int}{lo hi:Option Int}{G:Gp}{Q:K2}(q:∀ms':List Int,ms'.length≤ms.length→Q (.tup (ms'.map PV.int)) G):slT2 (.tup (ms.map PV.int)) lo hi G Q:=by
 show Q (.tup (cutP (ms.map PV.int) lo hi)) G
 obtain⟨ms',e,h⟩:=cut_ints ms lo hi
 rw[e]
 exact q ms' h
theorem addEI_i{i j:Int}{G:Gp}{Q:K2}(q:Q (.int (i+j)) G):addE2 (.int i) (.int j) G Q:=q
theorem scSpoil:FnScope ["marks", "pool", "at", "way", "number"] ["marks", "pool"] (defScope xSpoil):=⟨rfl,rfl,rfl,by decide+kernel,rfl,by decide+kernel,by decide+kernel⟩
noncomputable def spSpoil:Sp2:=fun ps G Q=>∃(a:Addr) (ms:List Int),ps=[.tup (ms.map PV.int),.ref a]∧Pool G a∧ms.length≤100000∧∀(ms':List Int) G',ms'.length≤200001→Pool G' a→Ch [a] G G'→Q (.tup (ms'.map PV.int)) G'
theorem ok_spoil(F:Fun K "_law_spoiled" "_law_spoiled" xSpoil f fd)(B:BN mg)(CN:Cal2 P w K mg base 1 "_law_next" fn dn ["pool", "base"] spNext):Ok2 P w K mg base 2 f fd ["marks", "pool"] spSpoil:=by
 have nd:=scSpoil.nd
 have hUE:=UseE.mk
 refine fn2 F scSpoil (fun vs G Q h=> ?_) (fun cdv A outer s H E as G Q hr h=> ?_)
 ·obtain⟨_,_,rfl,_⟩:=h
  rfl
 have hU:=u200 hr
 apply ex2
 case a=>symm
 obtain⟨a,ms,rfl,p1,hms,q⟩:=h
 left
 refine lenT_i ?_
 rw[List.length_map]
 left
 refine⟨a,(ms.length:Int)+1,rfl,p1,by(first|lia|omega),by(first|lia|omega),fun at' G2 a0 a1 p2 c2=> ?_⟩
 left
 refine⟨a,4,rfl,p2,by decide,by decide,fun way G3 w0 w1 p3 c3=> ?_⟩
 left
 refine⟨by unfold CPow;decide,?_⟩
 refine⟨lek,fun l hl=> ?_⟩
 have nla:l≠a:=pool_ne p3 hl
 generalize hG4:up G3 l _=G4
 have g4:∃N:Int,G4 l=some (.lst ([0,1,2,-1,6,N].map PV.int)):=⟨_,by rw[←hG4];exact up_same⟩
 have p4:Pool G4 a:=by rw[←hG4];exact p3.new hl
 have c4:Ch [a] G G4:=by rw[←hG4];exact(c2.trans c3).new hl
 clear hG4
 obtain⟨N,g4⟩:=g4
 left
 refine⟨a,6,rfl,p4,by decide,by decide,fun j G5 j0 j1 p5 c5=> ?_⟩
 have g5:=c5 l _ (by simpa using nla) g4
 have c6:=c4.trans c5
 obtain⟨j,rfl⟩:∃b:Nat,j=b:=⟨j.toNat,by(first|lia|omega)⟩
 obtain⟨num,hnum⟩:∃m,([0,1,2,-1,6,N]:List Int)[j]? =some m:=⟨_,List.getElem?_eq_getElem (by simp;(first|lia|omega))⟩
 left
 refine ixL_i (lk_lst g5) (x:= .int num) (atI_nat (by rw[List.getElem?_map,hnum];rfl)) ?_
 left
 refine eqP_i rfl rfl ?_
 refine ifB (fun _=> ?_) (fun _=> ?_)
 ·left
  refine slI_i fun m1 h1=> ?_
  left
  refine addEI_i ?_
  left
  refine slI_i fun m2 h2=> ?_
  left
  refine addET_i (by rw[List.length_map,List.length_map];(first|lia|omega)) ?_
  rw[←List.map_append]
  exact⟨_,GE.refl,q _ _ (by rw[List.length_append];(first|lia|omega)) p5 c6⟩
 ·left
  refine eqP_i rfl rfl ?_
  refine ifB (fun _=> ?_) (fun _=> ?_)
  ·left
   refine slI_i fun m1 h1=> ?_
   left
   refine⟨lek,?_⟩
   refine addET_i (xs:=m1.map PV.int) (ys:=[num].map PV.int) (by simp;(first|lia|omega)) ?_
   rw[←List.map_append]
   left
   refine slI_i fun m2 h2=> ?_
   left
   refine addET_i (by rw[List.length_map,List.length_map,List.length_append];simp;(first|lia|omega)) ?_
   rw[←List.map_append]
   exact⟨_,GE.refl,q _ _ (by rw[List.length_append,List.length_append];simp;(first|lia|omega)) p5 c6⟩
  ·left
   refine slI_i fun m1 h1=> ?_
   left
   refine⟨lek,?_⟩
   refine addET_i (xs:=m1.map PV.int) (ys:=[num].map PV.int) (by simp;(first|lia|omega)) ?_
   rw[←List.map_append]
   left
   refine addEI_i ?_
   left
   refine slI_i fun m2 h2=> ?_
   left
   refine addET_i (by rw[List.length_map,List.length_map,List.length_append];simp;(first|lia|omega)) ?_
   rw[←List.map_append]
   exact⟨_,GE.refl,q _ _ (by rw[List.length_append,List.length_append];simp;(first|lia|omega)) p5 c6⟩
theorem scDue:FnScope ["known", "marks", "text"] ["known", "marks", "text"] (defScope xDue):=⟨rfl,rfl,rfl,by decide+kernel,rfl,by decide+kernel,by decide+kernel⟩
noncomputable def spDue(P:Program)(w:World):Sp2:=fun ps G Q=>∃(d:Addr) (ms:List Int) (z:Str) (kvs:List (NK×PV)),ps=[.ref d,.tup (ms.map PV.int),.str z]∧G d=some (.dN (hashNK P w) kvs)∧Q ((valN kvs (ms,z)).getD .non) G
theorem ok_due(F:Fun K "_law_due" "_law_due" xDue f fd)(B:BN mg):Ok2 P w K mg base 1 f fd ["known", "marks", "text"] (spDue P w):=by
 have nd:=scDue.nd
 have hUE:=UseE.mk
 refine fn2 F scDue (fun vs G Q h=> ?_) (fun cdv A outer s H E as G Q hr h=> ?_)
 ·obtain⟨_,_,_,_,rfl,_⟩:=h
  rfl
 have hU:=u200 hr
 apply ex2
 case a=>symm
 obtain⟨d,ms,z,kvs,rfl,gd,q⟩:=h
 left
 refine⟨⟨d,kvs,rfl,gd⟩,?_⟩
 left
 refine⟨lek,?_⟩
 refine getN_i (ms,z) gd ⟨G,GE.refl,q⟩
end
theorem sl_at{z:Str}(b:Int):∃n:Nat,n≤z.length∧(Txt.slice z none (some b)).cps.toList=z.cps.toList.take n∧(0≤b→b≤z.length→(n:Int)=b):=by
 obtain⟨n,hn⟩:∃n:Nat,(n:Int)=max 0 (min (if b<0 then b+z.length else b) z.length):=⟨(max 0 (min (if b<0 then b+(z.length:Int)else b) (z.length:Int))).toNat,by(first|lia|omega)⟩
 have h1:n≤z.length:=by(first|lia|omega)
 refine⟨n,h1,?_,fun h0 h2=> ?_⟩
 ·have e0:Builtin.Str.strSliceIndices none (some b) 1 z.length=Builtin.Str.strSliceIndices (some 0) (some (n:Int)) 1 z.length:=by
   unfold Builtin.Str.strSliceIndices
   simp only[show(1:Int)>0 by decide,if_true,show¬((0:Int)<0)by decide,show¬((n:Int)<0)by(first|lia|omega),if_false]
   rw[←hn]
   congr 1
   (first|lia|omega)
  have e:Txt.slice z none (some b)=Txt.slice z (some 0) (some (n:Int)):=by
   unfold Txt.slice
   rw[e0]
  rw[e]
  have el:=flen (z:=z)
  have:=PyProof.Rows.slice_closes (x:=z) (i:=0) (j:=(n:Int)) ⟨by decide,by(first|lia|omega),by(first|lia|omega)⟩
  rw[beq_iff_eq]at this
  rw[this]
  show List.take _ (List.drop 0 _)=_
  rw[List.drop_zero]
  congr 1
 ·rw[if_neg (by(first|lia|omega))]at hn
  (first|lia|omega)
theorem sl_nat{z:Str}{n:Nat}(h:n≤z.length):(Txt.slice z none (some (n:Int))).cps.toList=z.cps.toList.take n:=by
 obtain⟨k,_,e,h2⟩:=sl_at (z:=z) (n:Int)
 have:=h2 (by(first|lia|omega)) (by(first|lia|omega))
 rw[e]
 congr 1
 (first|lia|omega)
theorem str_eq{x y:Str}(h:x.cps.toList=y.cps.toList):x=y:=by
 obtain⟨⟨l⟩⟩:=x
 obtain⟨⟨m⟩⟩:=y
 have:l=m:=h
 rw[this]
noncomputable abbrev sl(y:Str)(e:Nat):Str:=Txt.slice y none (some (e:Int))
noncomputable abbrev key(y:Str)(x:Tr×Nat):NK:=(mks x.1,sl y x.2)
structure Kn(y:Str)(L:List (Tr×Nat))(kvs:List (NK×PV)):Prop where
 a:∀k v,valN kvs k=some v→∃x∈L,k=key y x∧v=ent x.1
 b:∀x∈L,(valN kvs (key y x)).isSome=true
theorem Kn.nil{y:Str}:Kn y [] []:=⟨(fun k v h=>nomatch (show(none:Option PV)=some v from h)),fun x hx=>by cases hx⟩
theorem Kn.put{y:Str}{L:List (Tr×Nat)}{kvs:List (NK×PV)}(h:Kn y L kvs)(x:Tr×Nat):Kn y (L++[x]) (putN kvs (key y x) (ent x.1)):=by
 refine⟨fun k v hv=> ?_,fun u hu=> ?_⟩
 ·rw[valN_put]at hv
  split at hv
  ·rename_i e
   cases hv
   exact⟨x,by simp,e,rfl⟩
  ·obtain⟨u,hu,e⟩:=h.a k v hv
   exact⟨u,by simp[hu],e⟩
 ·rw[valN_put]
  split
  ·rfl
  ·rename_i e
   rcases List.mem_append.mp hu with hu|hu
   ·exact h.b u hu
   ·cases List.mem_singleton.mp hu
    exact absurd rfl e
theorem due{p:Pt}{y z:Str}{L:List (Tr×Nat)}{kvs:List (NK×PV)}{ms:List Int}{n:Nat}(h:Kn y L kvs)(r:Rs p y L)(hL:L≠[])(hn:n≤y.length)(hz:z.cps.toList=y.cps.toList.take n):(valN kvs (ms,z)).getD .non=foundV p ms z.cps.toList:=by
 have one:∀x∈L,(ms,z)=key y x→tb p ms z.cps.toList=some x.1:=fun x hx e=>by
  obtain⟨o1,o2,o3⟩:=r.ok x hx
  have e1:ms=mks x.1:=congrArg Prod.fst e
  have e2:z=sl y x.2:=congrArg Prod.snd e
  exact tb_some.mpr ⟨o1,e1.symm,by rw[e2,sl_nat o2];exact o3⟩
 unfold foundV
 cases ht:tb p ms z.cps.toList with
 |none=>
  cases hv:valN kvs (ms,z)with
  |none=>rfl
  |some v=>
   obtain⟨x,hx,e,_⟩:=h.a _ v hv
   rw[one x hx e]at ht
   cases ht
 |some t=>
  obtain⟨h1,h2,h3⟩:=tb_some.mp ht
  have mem:=r.all hL t n h1 hn (by rw[h3,hz])
  have ek:(ms,z)=key y (t,n):=by
   refine Prod.ext h2.symm (str_eq ?_)
   show z.cps.toList=(sl y n).cps.toList
   rw[sl_nat hn,hz]
  have hb:=h.b _ mem
  rw[←ek]at hb
  obtain⟨v,hv⟩:=Option.isSome_iff_exists.mp hb
  obtain⟨x,hx,e,rfl⟩:=h.a _ v hv
  have:=one x hx e
  rw[ht]at this
  cases this
  rw[hv]
  rfl
theorem foundV_pure{p:Pt}{ms:List Int}{cs:List Nat}(h:∀t,tb p ms cs=some t→tdp t≤40):pureP 100 (foundV p ms cs)=true:=by
 unfold foundV
 cases ht:tb p ms cs with
 |none=>rfl
 |some t=>exact ent_pure t _ (by have:=h t ht;(first|lia|omega))
theorem fit_dp{p:Pt}{t:Tr}(h:Fit p t):tdp t≤depth p:=by
 induction h with
 |blank=>exact Nat.le_refl _
 |sign _=>exact Nat.le_refl _
 | @row ps ts hl h ih=>
  show 1+tdps ts≤1+depths ps
  have:tdps ts≤depths ps:=tdps_le fun c hc=>by
   obtain⟨i,hi,e⟩:=List.getElem_of_mem hc
   have hp:ps[i]? =some ps[i]:=List.getElem?_eq_getElem (by(first|lia|omega))
   have h1:=ih i _ c hp (by rw[List.getElem?_eq_getElem hi,e])
   have h2:=depth_mem (List.mem_of_getElem? hp)
   (first|lia|omega)
  (first|lia|omega)
 | @pick ps i p t hp h ih=>
  show 1+tdp t≤1+depths ps
  have h2:=depth_mem (List.mem_of_getElem? hp)
  (first|lia|omega)
 | @again p ts h ih=>
  show 1+tdps ts≤1+depth p
  have:=tdps_le ih
  (first|lia|omega)
 |held h ih=>show 1+_≤1+_;(first|lia|omega)
 |price h ih=>show 1+_≤1+_;(first|lia|omega)
mutual
theorem mks_wT:∀t:Tr,(mks t).length≤wT t
 | .pick k t=>by have:=mks_wT t;show(mks t).length+1≤2+wT t;(first|lia|omega)
 | .again ts=>by have:=mksT_wT ts;show(mksT ts).length≤2+wTT ts;(first|lia|omega)
 | .row ts=>by have:=mkss_wT ts;show(mkss ts).length≤1+wTs ts;(first|lia|omega)
 | .held _ t=>by have:=mks_wT t;show(mks t).length≤1+wT t;(first|lia|omega)
 | .price _ t=>by have:=mks_wT t;show(mks t).length≤1+wT t;(first|lia|omega)
 | .blank=>Nat.zero_le _
 | .sign _=>Nat.zero_le _
theorem mkss_wT:∀ts:List Tr,(mkss ts).length≤wTs ts
 |[]=>Nat.zero_le _
 |t::ts=>by have:=mks_wT t;have:=mkss_wT ts;show(mks t++mkss ts).length≤wT t+wTs ts;rw[List.length_append];(first|lia|omega)
theorem mksT_wT:∀ts:List Tr,(mksT ts).length≤2+wTT ts
 |[]=>by show 1≤_;(first|lia|omega)
 |t::ts=>by have:=mks_wT t;have:=mksT_wT ts;show(0::(mks t++mksT ts)).length≤2+wTT (t::ts);simp only[wTT,List.length_cons,List.length_append];(first|lia|omega)
end
theorem mks_few{p:Pt}{t:Tr}(hw:wq p)(hs:size p≤40)(h6:(tcs t).length≤6)(f:Fit p t):tsz t≤240:=by
 have h1:=tsz_few f hw
 have h2:wM (tcs t).length≤wM 6:=wM_mono h6
 have h3:wM 6=6:=rfl
 have h5:size p*wM (tcs t).length≤40*6:=Nat.mul_le_mul hs (by(first|lia|omega))
 (first|lia|omega)
section
variable{P:Program}{w:World}{K:PySem.W.Frag}{mg:Str→Option Value}{base:Heap}{f fp fl fi ft fa fn fm fo fx fy:Addr}{fd dp dl di dt da dn dm do' dx dy:FuncData}
noncomputable abbrev nLaw:List Str:=["script", "cell", "pool", "letters", "pattern", "text", "some", "known", "tree", "end", "marks", "asked", "row", "part"]
theorem scLaw:FnScope nLaw ["script"] (defScope xLaw):=⟨rfl,rfl,rfl,by decide+kernel,rfl,by decide+kernel,by decide+kernel⟩
noncomputable def spLaw:Sp2:=fun ps G Q=>∃ns:List Int,ps=[.ro (ns.map PV.int)]∧ns.length≤63∧∀G',Q (.bl true) G'
theorem ok_law{k:Nat}(hk:120≤k)(F:Fun K "law" "law" xLaw f fd)(B:BN mg)(CP:Cal2 P w K mg base 1 "_law_pool" fp dp ["cell"] spPool)(CL:Cal2 P w K mg base 2 "_law_letters" fl dl ["pool"] spLetters)(CD:Cal2 P w K mg base 16 "_law_drawn" fi di ["pool", "letters"] spDrawn)
  (CN:Cal2 P w K mg base 1 "_law_next" fn dn ["pool", "base"] spNext) (CT:Cal2 P w K mg base 2 "_law_text" ft dt ["pool", "letters", "most"] spText) (CA:Cal2 P w K mg base k "_law_whole_text" fa da ["pattern", "text", "most"] spWT) (CX:Cal2 P w K mg base 10 "_law_marked" fx dx ["tree"] (spMarked 9))
  (CS:Cal2 P w K mg base 2 "_law_spoiled" fm dm ["marks", "pool"] spSpoil) (CF:Cal2 P w K mg base k "_law_found" fo do' ["pattern", "marks", "text"] (spFound 9)) (CY:Cal2 P w K mg base 1 "_law_due" fy dy ["known", "marks", "text"] (spDue P w)):
  Ok2 P w K mg base (k+1) f fd ["script"] spLaw:=by
 have nd:=scLaw.nd
 refine fn2 F scLaw (fun vs G Q h=> ?_) (fun cdv A outer s H E as G Q hr h=> ?_)
 ·obtain⟨_,rfl,_⟩:=h
  rfl
 have hU:=u200 hr
 apply ex2
 case a=>symm
 obtain⟨ns,rfl,h63,q⟩:=h
 left
 refine⟨lek,fun l0 hl0=> ?_⟩
 left
 refine addR_i lk_up (by simp;(first|lia|omega)) fun sc hsc=> ?_
 left
 rw[lk_up]
 left
 have g0:up (up G l0 (.lst [PV.int 0])) sc (.lst ([PV.int 0]++ns.map PV.int)) sc=some (.lst ([PV.int 0]++ns.map PV.int)):=up_same
 generalize up (up G l0 (.lst [PV.int 0])) sc (.lst ([PV.int 0]++ns.map PV.int))=G0 at g0
 refine⟨fun i τ G2=>∃t1 t2 t3 t4 t5 t6 t7 t8 t9 t10 t11 t12 t13:Option PV,τ=[some (.ro (ns.map PV.int)),t1,t2,t3,t4,t5,t6,t7,t8,t9,t10,t11,t12,t13]∧G2 sc=some (.lst ([PV.int 0]++ns.map PV.int)),⟨_,_,_,_,_,_,_,_,_,_,_,_,_,rfl,g0⟩,?_,?_,?_⟩
 ·rintro i τ G2 _ ⟨_,_,_,_,_,_,_,_,_,_,_,_,_,rfl,h⟩
  exact lk_lst h
 ·rintro i x τ G2 hx ⟨_,_,_,_,_,_,_,_,_,_,_,_,_,rfl,g2⟩
  obtain⟨c,rfl⟩:∃c,x= .int c:=by
   have hm:=List.mem_of_getElem? hx
   rcases List.mem_append.mp hm with z|z
   ·exact⟨0,List.mem_singleton.mp z⟩
   ·obtain⟨c,_,e⟩:=List.mem_map.mp z
    exact⟨c,e.symm⟩
  left
  refine⟨c,rfl,fun a G3 ha p3 c3=> ?_⟩
  have nsa:sc≠a:=ne_none g2 ha
  have g3:=c3 sc _ (by simpa using nsa) g2
  left
  refine⟨a,rfl,p3,fun z G4 z1 z6 zs p4 c4=> ?_⟩
  have g4:=c4 sc _ (by simpa using nsa) g3
  left
  refine⟨a,z,rfl,p4,z1,z6,zs,fun p G5 w5 d5 s5 p5 c5=> ?_⟩
  have g5:=c5 sc _ (by simpa using nsa) g4
  left
  refine⟨a,z,rfl,p5,z1,z6,fun y G6 y6 p6 c6=> ?_⟩
  have g6:=c6 sc _ (by simpa using nsa) g5
  left
  refine⟨p,y,rfl,w5,d5,y6,fun y2 lc L G7 rs hlc gL k7=> ?_⟩
  have g7:=k7 sc _ (by simp) g6
  have p7:=p6.ch k7 (by simp)
  have y26:=rs.y
  have hL1:=rs.n
  have hok:∀x∈L,Fit p x.1∧x.2≤y2.length∧tdp x.1≤5∧(mks x.1).length≤720:=fun x hx=>by
   obtain⟨o1,o2,o3⟩:=rs.ok x hx
   have hl:(tcs x.1).length≤6:=by rw[o3,List.length_take];(first|lia|omega)
   have h1:=mks_few w5 s5 hl o1
   have h2:=mks_wT x.1
   have h3:=wT_le x.1
   have h4:=fit_dp o1
   exact⟨o1,o2,by(first|lia|omega),by(first|lia|omega)⟩
  left
  intro kd hkd
  generalize hG8:up G7 kd _=G8
  have gk8:G8 kd=some (.dN (hashNK P w) []):=by rw[←hG8];exact up_same
  have g8:G8 sc=some (.lst ([PV.int 0]++ns.map PV.int)):=by rw[←hG8,up_ne (ne_none g7 hkd)];exact g7
  have gL8:G8 lc=some (.lst (L.map prP)):=by rw[←hG8,up_ne (ne_none gL hkd)];exact gL
  have p8:Pool G8 a:=by rw[←hG8];exact p7.new hkd
  have nka:kd≠a:=pool_ne p7 hkd
  have nks:kd≠sc:=Ne.symm (ne_none g7 hkd)
  have nkl:kd≠lc:=Ne.symm (ne_none gL hkd)
  clear hG8
  left
  rw[lk_lst gL8]
  left
  refine⟨fun i τ G2=>∃(t8 t9 t10 t11 t12 t13:Option PV) (kvs:List (NK×PV)),τ=[some (.ro (ns.map PV.int)),some (.int c),some (.ref a),some (.str z),some (enc p),some (.str y2),some (.ref lc),some (.ref kd),t8,t9,t10,t11,t12,t13]∧G2 sc=some (.lst ([PV.int 0]++ns.map PV.int))∧G2 lc=some (.lst (L.map prP))∧G2 kd=some (.dN (hashNK P w) kvs)∧Kn y2 (L.take i) kvs∧kvs.length≤i∧Pool G2 a,
   ⟨_,_,_,_,_,_,[],rfl,g8,gL8,gk8,Kn.nil,Nat.zero_le _,p8⟩,?_,?_,?_⟩
  ·rintro j τ G2 _ ⟨_,_,_,_,_,_,_,rfl,_,h,_,_,_,_⟩
   exact lk_lst h
  ·rintro j x τ G9 hx ⟨_,_,_,_,_,_,kvs,rfl,g9,gL9,gk9,kn,kl,p9⟩
   rw[List.getElem?_map]at hx
   obtain⟨⟨t,e⟩,ht,rfl⟩:=Option.map_eq_some_iff.mp hx
   obtain⟨hf,he,htd,hmk⟩:Fit p t∧e≤y2.length∧tdp t≤5∧(mks t).length≤720:=hok _ (List.mem_of_getElem? ht)
   have hj:=(List.getElem?_eq_some_iff.mp ht).1
   left
   refine⟨t,rfl,by(first|lia|omega),by(first|lia|omega),fun l2 G12 hl2 gl2 k2=> ?_⟩
   have g12:=k2 sc _ (by simp) g9
   have gL12:=k2 lc _ (by simp) gL9
   have gk12:=k2 kd _ (by simp) gk9
   have p12:=p9.ch k2 (by simp)
   left
   refine tupL_i (lk_lst gl2) ?_
   left
   refine⟨by(first|lia|omega),?_⟩
   left
   refine⟨lek,?_⟩
   refine setN_i (mks t,Txt.slice y2 none (some (e:Int))) gk12 (by(first|lia|omega)) ?_
   have tk:L.take (j+1)=L.take j++[(t,e)]:=by rw[List.take_add_one,ht];rfl
   refine⟨_,_,_,_,_,_,_,rfl,by rw[up_ne (Ne.symm nks)];exact g12,by rw[up_ne (Ne.symm nkl)];exact gL12,up_same,by rw[tk];exact kn.put (t,e),Nat.le_trans (putN_len _ _ _) (by(first|lia|omega)),p12.ne nka⟩
  rintro τ G9 ⟨_,_,_,_,_,_,kvs,rfl,g9,gL9,gk9,kn,kl,p9⟩
  rw[List.length_map,List.take_length]at kn
  left
  refine slL_i (lk_lst gL9) fun ld hld=> ?_
  rw[show cutP (L.map prP) none (some 12)=(L.take 12).map prP by rw[List.map_take];exact cut_take' (n:=12)]
  have g10:up G9 ld (.lst ((L.take 12).map prP)) sc=some (.lst ([PV.int 0]++ns.map PV.int)):=by rw[up_ne (ne_none g9 hld)];exact g9
  have gk10:up G9 ld (.lst ((L.take 12).map prP)) kd=some (.dN (hashNK P w) kvs):=by rw[up_ne (ne_none gk9 hld)];exact gk9
  have gd10:up G9 ld (.lst ((L.take 12).map prP)) ld=some (.lst ((L.take 12).map prP)):=up_same
  have p10:Pool (up G9 ld (.lst ((L.take 12).map prP))) a:=p9.new hld
  have nda:ld≠a:=pool_ne p9 hld
  generalize up G9 ld (.lst ((L.take 12).map prP))=G10 at g10 gk10 gd10 p10⊢
  left
  rw[lk_lst gd10]
  left
  refine⟨fun i τ G2=>∃(t8 t9 t10 t11 t12 t13:Option PV),τ=[some (.ro (ns.map PV.int)),some (.int c),some (.ref a),some (.str z),some (enc p),some (.str y2),some (.ref lc),some (.ref kd),t8,t9,t10,t11,t12,t13]∧G2 sc=some (.lst ([PV.int 0]++ns.map PV.int))∧G2 ld=some (.lst ((L.take 12).map prP))∧G2 kd=some (.dN (hashNK P w) kvs)∧Pool G2 a,
   ⟨_,_,_,_,_,_,rfl,g10,gd10,gk10,p10⟩,?_,?_,?_⟩
  ·rintro j τ G2 _ ⟨_,_,_,_,_,_,rfl,_,h,_,_⟩
   exact lk_lst h
  ·rintro j x τ G11 hx ⟨_,_,_,_,_,_,rfl,g11,gd11,gk11,p11⟩
   rw[List.getElem?_map]at hx
   obtain⟨⟨t,e⟩,ht,rfl⟩:=Option.map_eq_some_iff.mp hx
   have hmem:=List.mem_of_mem_take (List.mem_of_getElem? ht)
   have hL:L≠[]:=fun z=>by rw[z]at hmem;cases hmem
   obtain⟨hf,he,htd,hmk⟩:Fit p t∧e≤y2.length∧tdp t≤5∧(mks t).length≤720:=hok _ hmem
   left
   refine⟨t,rfl,by(first|lia|omega),by(first|lia|omega),fun l2 G12 hl2 gl2 k2=> ?_⟩
   have g12:=k2 sc _ (by simp) g11
   have gd12:=k2 ld _ (by simp) gd11
   have gk12:=k2 kd _ (by simp) gk11
   have p12:=p11.ch k2 (by simp)
   left
   refine tupL_i (lk_lst gl2) ?_
   left
   refine⟨by(first|lia|omega),?_⟩
   left
   refine⟨lek,?_⟩
   left
   refine⟨a,mks t,rfl,p12,by(first|lia|omega),fun m2 G13 hm2 p13 c13=> ?_⟩
   left
   refine⟨by(first|lia|omega),?_⟩
   left
   refine⟨lek,?_⟩
   left
   refine⟨by(first|lia|omega),?_⟩
   left
   refine⟨lek,?_⟩
   refine⟨lek,fun lq hlq=> ?_⟩
   have g13:=c13 sc _ (by simpa using nsa) g12
   have gd13:=c13 ld _ (by simpa using nda) gd12
   have gk13:=c13 kd _ (by simpa using nka) gk12
   generalize hG14:up G13 lq _=G14
   have gq14:G14 lq=some (.lst ([(mks t,Txt.slice y2 none (some (e:Int))),(m2,Txt.slice y2 none (some (e:Int))),(mks t,Txt.slice y2 none (some ((e:Int)-1)))].map keyN)):=by rw[←hG14];exact up_same
   have g14:G14 sc=some (.lst ([PV.int 0]++ns.map PV.int)):=by rw[←hG14,up_ne (ne_none g13 hlq)];exact g13
   have gd14:G14 ld=some (.lst ((L.take 12).map prP)):=by rw[←hG14,up_ne (ne_none gd13 hlq)];exact gd13
   have gk14:G14 kd=some (.dN (hashNK P w) kvs):=by rw[←hG14,up_ne (ne_none gk13 hlq)];exact gk13
   have p14:Pool G14 a:=by rw[←hG14];exact p13.new hlq
   have nqa:lq≠a:=pool_ne p13 hlq
   have nqs:lq≠sc:=Ne.symm (ne_none g13 hlq)
   have nqd:lq≠ld:=Ne.symm (ne_none gd13 hlq)
   have nqk:lq≠kd:=Ne.symm (ne_none gk13 hlq)
   clear hG14
   left
   refine⟨⟨_,gq14⟩,?_⟩
   left
   refine⟨a,mks t,rfl,p14,by(first|lia|omega),fun m4 G15 hm4 p15 c15=> ?_⟩
   have g15:=c15 sc _ (by simpa using nsa) g14
   have gd15:=c15 ld _ (by simpa using nda) gd14
   have gk15:=c15 kd _ (by simpa using nka) gk14
   have gq15:=c15 lq _ (by simpa using nqa) gq14
   left
   refine lenS_i (by(first|lia|omega)) ?_
   left
   refine⟨a,(y2.length:Int)+1,rfl,p15,by(first|lia|omega),by(first|lia|omega),fun m G16 m0 m1 p16 c16=> ?_⟩
   have g16:=c16 sc _ (by simpa using nsa) g15
   have gd16:=c16 ld _ (by simpa using nda) gd15
   have gk16:=c16 kd _ (by simpa using nka) gk15
   have gq16:=c16 lq _ (by simpa using nqa) gq15
   left
   refine⟨by(first|lia|omega),?_⟩
   left
   refine⟨lek,?_⟩
   refine append_i gq16 (by simp) ?_
   have gq17:up G16 lq (.lst ([(mks t,Txt.slice y2 none (some (e:Int))),(m2,Txt.slice y2 none (some (e:Int))),(mks t,Txt.slice y2 none (some ((e:Int)-1)))].map keyN++[keyN (m4,Txt.slice y2 none (some m))])) lq=some (.lst ([(mks t,Txt.slice y2 none (some (e:Int))),(m2,Txt.slice y2 none (some (e:Int))),(mks t,Txt.slice y2 none (some ((e:Int)-1))),(m4,Txt.slice y2 none (some m))].map keyN)):=up_same
   have hAs:∀k∈[(mks t,Txt.slice y2 none (some (e:Int))),(m2,Txt.slice y2 none (some (e:Int))),(mks t,Txt.slice y2 none (some ((e:Int)-1))),(m4,Txt.slice y2 none (some m))],k.1.length≤200001∧∃n:Nat,n≤y2.length∧k.2.cps.toList=y2.cps.toList.take n:=by
    have sl3:=fun b:Int=>(show∃n:Nat,n≤y2.length∧(Txt.slice y2 none (some b)).cps.toList=y2.cps.toList.take n from let⟨n,h1,h2,_⟩:=sl_at (z:=y2) b;⟨n,h1,h2⟩)
    intro k hk
    simp only[List.mem_cons,List.not_mem_nil,or_false]at hk
    rcases hk with rfl|rfl|rfl|rfl
    ·exact⟨by show(mks t).length≤_;(first|lia|omega),sl3 _⟩
    ·exact⟨hm2,sl3 _⟩
    ·exact⟨by show(mks t).length≤_;(first|lia|omega),sl3 _⟩
    ·exact⟨hm4,sl3 _⟩
   generalize hG17:up G16 lq _=G17 at gq17
   have g17:G17 sc=some (.lst ([PV.int 0]++ns.map PV.int)):=by rw[←hG17,up_ne (Ne.symm nqs)];exact g16
   have gd17:G17 ld=some (.lst ((L.take 12).map prP)):=by rw[←hG17,up_ne (Ne.symm nqd)];exact gd16
   have gk17:G17 kd=some (.dN (hashNK P w) kvs):=by rw[←hG17,up_ne (Ne.symm nqk)];exact gk16
   have p17:Pool G17 a:=by rw[←hG17];exact p16.ne nqa
   clear hG17
   generalize [(mks t,Txt.slice y2 none (some (e:Int))),(m2,Txt.slice y2 none (some (e:Int))),(mks t,Txt.slice y2 none (some ((e:Int)-1))),(m4,Txt.slice y2 none (some m))]=As at gq17 hAs
   left
   rw[lk_lst gq17]
   left
   refine⟨fun i τ G2=>∃(t8 t9 t10 t11 t12 t13:Option PV),τ=[some (.ro (ns.map PV.int)),some (.int c),some (.ref a),some (.str z),some (enc p),some (.str y2),some (.ref lc),some (.ref kd),t8,t9,t10,t11,t12,t13]∧G2 sc=some (.lst ([PV.int 0]++ns.map PV.int))∧G2 ld=some (.lst ((L.take 12).map prP))∧G2 kd=some (.dN (hashNK P w) kvs)∧G2 lq=some (.lst (As.map keyN))∧Pool G2 a,
    ⟨_,_,_,_,_,_,rfl,g17,gd17,gk17,gq17,p17⟩,?_,?_,?_⟩
   ·rintro j2 τ G2 _ ⟨_,_,_,_,_,_,rfl,_,_,_,h,_⟩
    exact lk_lst h
   ·rintro j2 x τ G18 hx ⟨_,_,_,_,_,_,rfl,g18,gd18,gk18,gq18,p18⟩
    rw[List.getElem?_map]at hx
    obtain⟨⟨ms,u⟩,hk,rfl⟩:=Option.map_eq_some_iff.mp hx
    obtain⟨hms,n,hn,hu⟩:ms.length≤200001∧∃n:Nat,n≤y2.length∧u.cps.toList=y2.cps.toList.take n:=hAs _ (List.mem_of_getElem? hk)
    have hul:u.length≤6:=by
     have:=congrArg List.length hu
     rw[List.length_take,flen]at this
     (first|lia|omega)
    left
    refine⟨p,ms,u,rfl,by(first|lia|omega),w5,by(first|lia|omega),by(first|lia|omega),fun G19 ge=> ?_⟩
    have g19:=ge sc _ g18
    have gd19:=ge ld _ gd18
    have gk19:=ge kd _ gk18
    have gq19:=ge lq _ gq18
    have p19:Pool G19 a:=p18.ch (show Ch [] G18 G19 from fun b o _ h=>ge b o h) (by simp)
    have hp:pureP 100 (foundV p ms u.cps.toList)=true:=foundV_pure fun t ht=>by
     have:=fit_dp (tb_some.mp ht).1
     (first|lia|omega)
    left
    refine⟨kd,ms,u,kvs,rfl,gk19,?_⟩
    rw[due kn rs hL hn hu]
    refine neP_i hp hp ?_
    refine ifF (by rw[deq_refl 100 _ hp];rfl) ?_
    exact⟨_,_,_,_,_,_,rfl,g19,gd19,gk19,gq19,p19⟩
   ·rintro τ G18 ⟨_,_,_,_,_,_,rfl,g18,gd18,gk18,_,p18⟩
    exact⟨_,_,_,_,_,_,rfl,g18,gd18,gk18,p18⟩
  ·rintro τ G11 ⟨_,_,_,_,_,_,rfl,g11,_⟩
   exact⟨_,_,_,_,_,_,_,_,_,_,_,_,_,rfl,g11⟩
 ·rintro τ G2 ⟨_,_,_,_,_,_,_,_,_,_,_,_,_,rfl,g2⟩
  exact⟨G2,GE.refl,q _⟩
end
noncomputable def clsB(K:PySem.W.Frag)(C D:Addr)(fs:List Addr):Bool:=
 (PySem.W.plainGet K C Str.empty&&PySem.W.hasDictIn K C&&PySem.W.plainOver K C&&(PySem.W.findIn K (.ref C) "__setattr__" ==some (some (.builtin "object.__setattr__"))))&&((PySem.W.findIn K (.ref C) "marks" ==some none)&&(PySem.W.findIn K (.ref C) "signs" ==some none)&&(PySem.W.findIn K (.ref C) "marks_used" ==some none)&&(PySem.W.findIn K (.ref C) "signs_used" ==some none))
  &&PySem.W.excIn K D bmV "ValueError.__new__" &&(PySem.W.makesIn K C&&PySem.W.keepIn K (.ref C))&&fs.all (fun f=>PySem.W.isFn K (.ref f))
theorem cls_of{K:PySem.W.Frag}{C D:Addr}{fs:List Addr}(h:clsB K C D fs=true):Cls K C∧NoAttr K C "marks" ∧NoAttr K C "signs" ∧NoAttr K C "marks_used" ∧NoAttr K C "signs_used" ∧PySem.W.excIn K D bmV "ValueError.__new__" =true∧(PySem.W.makesIn K C=true∧PySem.W.keepIn K (.ref C)=true)∧∀f∈fs,PySem.W.isFn K (.ref f)=true:=by
 unfold clsB at h
 simp only[Bool.and_eq_true,List.all_eq_true,beq_iff_eq]at h
 obtain⟨⟨⟨⟨⟨⟨⟨h1,h2⟩,h3⟩,h4⟩,⟨⟨n1,n2⟩,n3⟩,n4⟩,hx⟩,hm⟩,hf⟩:=h
 exact⟨⟨h1,h2,h3,h4⟩,n1,n2,n3,n4,hx,hm,hf⟩
theorem never_okX{P:Program}{w:World}{K:PySem.W.Frag}{mg:Str→Option Value}{base:Heap}{D:Addr}{k:Nat}{f:Addr}{fd:FuncData}{ps:List Str}{sp:Sp3}(h:∀as G Q EX,¬sp as G Q EX):OkX P w K mg base D k f fd ps sp:=
 ⟨fun vs H Q E ⟨as,G,Q2,EX,_,_,q,_⟩=>absurd q (h as G Q2 EX),fun A outer s H args us vs Q E _ _ _ _ ⟨as,G,Q2,EX,_,_,q,_⟩=>absurd q (h as G Q2 EX)⟩
noncomputable def excB(K:PySem.W.Frag)(D G c1 c2 c3 c4 c5:Addr):Bool:=
 PySem.W.excIn K D bmV "ValueError.__new__" &&PySem.W.excIn K G bmV "ValueError.__new__" &&excHas K D G&&(PySem.W.findIn K (.ref D) "__getattribute__" ==some (some (.builtin "BaseException.__getattribute__")))&&(PySem.W.findIn K (.ref D) "__getattr__" ==some none)&&(PySem.W.mroIn K D (.type "BaseException")==some true)&&(PySem.W.clsIn K D).isSome&&(PySem.W.findIn K (.ref D) "__class__" ==some (some (.builtin "object.__class__")))&&(PySem.W.specialIn K (.builtin "object.__class__") "__get__" ==some (some (.builtin "getset_descriptor.__get__")))&&(PySem.W.takesIn K (.builtin "object.__class__")==some true)&&(PySem.W.mroIn K D (.type "object")==some true)
  &&(PySem.W.kitOne K (.ref D) (.ref D)==some true)&&(PySem.W.kitOne K (.ref D) (.type "ValueError")==some true)&&(PySem.W.kitOne K (.ref D) (.ref c1)==some false)&&(PySem.W.kitOne K (.ref D) (.ref c2)==some false)&&(PySem.W.kitOne K (.ref D) (.ref c3)==some false)&&(PySem.W.kitOne K (.ref D) (.ref c4)==some false)&&(PySem.W.kitOne K (.ref D) (.ref c5)==some false)
theorem exc_of{K:PySem.W.Frag}{mg:Str→Option Value}{D G c1 c2 c3 c4 c5:Addr}(h:excB K D G c1 c2 c3 c4 c5=true)(hG:mg "GroveError" =some (.ref G))(hD:mg "NoTree" =some (.ref D))(g1:mg "NoName" =some (.ref c1))(g2:mg "NoRow" =some (.ref c2))(g3:mg "NoTaste" =some (.ref c3))(g4:mg "NoText" =some (.ref c4))(g5:mg "TooMany" =some (.ref c5))(hV:mg "ValueError" =none):Cls5 K mg D G c1 c2 c3 c4 c5:=by
 unfold excB at h
 simp only[Bool.and_eq_true,beq_iff_eq]at h
 obtain⟨⟨⟨⟨⟨⟨⟨⟨⟨⟨⟨⟨⟨⟨⟨⟨⟨h1,hg⟩,h2⟩,h3⟩,h4⟩,h5⟩,h6⟩,h7⟩,h8⟩,h9⟩,h10⟩,h11⟩,h12⟩,h13⟩,h14⟩,h15⟩,h16⟩,h17⟩:=h
 exact⟨h1,hg,h2,⟨h3,h4,h5,h6,h7,h8,h9,h10⟩,hD,hG,hV,g1,g2,g3,g4,g5,h11,h12,h13,h14,h15,h16,h17⟩
noncomputable def bnB(K:PySem.W.Frag):Bool:=bnames.all fun x=>PySem.W.nsIn K mainGlobals x==some none
theorem bn_of{K:PySem.W.Frag}{h:Heap}{mg:Str→Option Value}(X:K.In h)(G:h.Ns mainGlobals mg)(z:bnB K=true):BN mg:=fun x hx=>by
 unfold bnB at z
 rw[List.all_eq_true]at z
 have:=z x (by simpa using hx)
 exact PySem.W.mg_none_of X G (beq_iff_eq.mp this)
theorem len1{us:List Value}(h:us.length=1):∃a,us=[a]:=by
 cases us with
 |nil=>cases h
 |cons a l=>cases l with
  |nil=>exact⟨a,rfl⟩
  |cons b l=>cases h
theorem len2{us:List Value}(h:us.length=2):∃a0 a1,us=[a0,a1]:=by
 cases us with
 |nil=>cases h
 |cons a l=>
  obtain⟨a1,rfl⟩:=len1 (us:=l) (by simpa using h)
  exact⟨a,a1,rfl⟩
theorem len3{us:List Value}(h:us.length=3):∃a0 a1 a2,us=[a0,a1,a2]:=by
 cases us with
 |nil=>cases h
 |cons a l=>
  obtain⟨a1,a2,rfl⟩:=len2 (us:=l) (by simpa using h)
  exact⟨a,a1,a2,rfl⟩
theorem len4{us:List Value}(h:us.length=4):∃a0 a1 a2 a3,us=[a0,a1,a2,a3]:=by
 cases us with
 |nil=>cases h
 |cons a l=>
  obtain⟨a1,a2,a3,rfl⟩:=len3 (us:=l) (by simpa using h)
  exact⟨a,a1,a2,a3,rfl⟩
theorem len5{us:List Value}(h:us.length=5):∃a0 a1 a2 a3 a4,us=[a0,a1,a2,a3,a4]:=by
 cases us with
 |nil=>cases h
 |cons a l=>
  obtain⟨a1,a2,a3,a4,rfl⟩:=len4 (us:=l) (by simpa using h)
  exact⟨a,a1,a2,a3,a4,rfl⟩
noncomputable def FnB(K:PySem.W.Frag)(x qual:Str)(st:Stmt)(f:Addr):Prop:=∃oc od kV dc pm an cd ct sl,K.lookup f=some ⟨oc,od,.func (PySem.W.fnOf x qual (defArgs st) (defBody st) (defScope st) .none kV dc pm an cd ct),sl⟩∧PySem.W.codeIn K cd qual=true∧PySem.W.keepIn K (.ref f)=true
noncomputable def FnIn(K:PySem.W.Frag)(x:Str)(st:Stmt)(f:Addr):Prop:=PySem.W.nsIn K mainGlobals x=some (some (.ref f))∧FnB K x x st f
noncomputable def MtIn(K:PySem.W.Frag)(C:Addr)(x q:Str)(st:Stmt)(f:Addr):Prop:=PySem.W.findIn K (.ref C) x=some (some (.ref f))∧FnB K x q st f
theorem FnB.get{K:PySem.W.Frag}{x q:Str}{st:Stmt}{f:Addr}(u:FnB K x q st f):∃fd,Fun K x q st f fd:=by
 obtain⟨_,_,_,_,_,_,_,_,_,l,c,k⟩:=u
 exact⟨_,fun_mk l c k⟩
theorem all_mk{l:PySem.W.OpenLaw}{w:World}{K:PySem.W.Frag}{h:Heap}{mg:Str→Option Value}{fa f1 f2 f3 f4 f5 f6 f7 f8 f9 f10 f11 f12 f13 f14 f15 f16 f17 f18 f19 f20 f21 f22 f23 f24 f25 f26 f27 f28 f29:Addr}{cC cD cG c1 c2 c3 c4 c5:Addr}{tTU:Tok}(X:K.In h)(G:h.Ns mainGlobals mg)(hfa:mg "law" =some (.ref fa))
  (zv:PySem.W.nsIn K mainGlobals "ValueError" =some none) (u1:MtIn K cC "__init__" "Reading.__init__" xInit f1) (u2:MtIn K cC "is_used_up" "Reading.is_used_up" xUsed f2) (u3:MtIn K cC "take_mark" "Reading.take_mark" xTM f3) (u4:MtIn K cC "take_sign" "Reading.take_sign" xTS f4) (u5:MtIn K cC "take_turns" "Reading.take_turns" xTu f5) (u6:MtIn K cC "take_tree" "Reading.take_tree" xTT f6) (u7:FnIn K "tree_by" xTB f7) (u8:FnIn K "_law_pool" xPool f8) (u9:FnIn K "_law_next" xNext f9) (u10:FnIn K "_law_letters" xLetters f10) (u11:FnIn K "_law_signs" xSigns f11) (u12:FnIn K "_law_leaf" xLeaf f12) (u13:FnIn K "_law_parts" xParts f13) (u14:FnIn K "_law_pattern" xPattern f14) (u15:FnIn K "_law_inside" xInside f15) (u16:FnIn K "_law_size" xSize f16) (u17:FnIn K "_law_drawn" xDrawn f17) (u18:FnIn K "_law_text" xText f18) (u19:FnIn K "_law_inner" xLInner f19) (u20:FnIn K "_law_marked" xMarked f20) (u21:FnIn K "_law_row" xRow f21) (u22:FnIn K "_law_agains" xAgains f22) (u23:FnIn K "_law_picked" xPicked f23) (u24:FnIn K "_law_all" xAll f24) (u25:FnIn K "_law_whole_text" xWText f25) (u26:FnIn K "_law_found" xFound f26) (u27:FnIn K "_law_spoiled" xSpoil f27) (u28:FnIn K "_law_due" xDue f28) (u29:FnIn K "law" xLaw f29) (m0:PySem.W.nsIn K mainGlobals "TURN" =some (some (.int 0 tTU))) (m1:PySem.W.nsIn K mainGlobals "GroveError" =some (some (.ref cG))) (m2:PySem.W.nsIn K mainGlobals "NoTree" =some (some (.ref cD))) (m3:PySem.W.nsIn K mainGlobals "NoName" =some (some (.ref c1))) (m4:PySem.W.nsIn K mainGlobals "NoRow" =some (some (.ref c2))) (m5:PySem.W.nsIn K mainGlobals "NoTaste" =some (some (.ref c3))) (m6:PySem.W.nsIn K mainGlobals "NoText" =some (some (.ref c4))) (m7:PySem.W.nsIn K mainGlobals "TooMany" =some (some (.ref c5))) (m8:PySem.W.nsIn K mainGlobals "Reading" =some (some (.ref cC))) (zc:clsB K cC cD [f1,f2,f3,f4,f5,f6]=true) (zeB:excB K cD cG c1 c2 c3 c4 c5=true) (zb:bnB K=true):
  ∃fd:FuncData,(∀(s:Shared) (v:Value),BindsTo s fd ⟨[v],[]⟩ [("script",v)])∧∀base:Heap,K.In base→base.Ns mainGlobals mg→FnOk l.prog w K mg base CX0 121 fa fd ["script"] (spL K spLaw):=by
 have e:=hfa.symm.trans (PySem.W.mg_of X G u29.1)
 cases e
 have B:=bn_of X G zb
 obtain⟨d1,F1⟩:=u1.2.get
 have k1:=F1.kp
 have b1:=F1.binds (ps:=["self", "marks", "text"]) fun _ _ _ _ _ _ us hl=>by obtain⟨_,_,_,rfl⟩:=len3 hl;rfl
 obtain⟨d2,F2⟩:=u2.2.get
 have k2:=F2.kp
 have b2:=F2.binds (ps:=["self"]) fun _ _ _ _ _ _ us hl=>by obtain⟨_,rfl⟩:=len1 hl;rfl
 obtain⟨d3,F3⟩:=u3.2.get
 have k3:=F3.kp
 have b3:=F3.binds (ps:=["self", "choices"]) fun _ _ _ _ _ _ us hl=>by obtain⟨_,_,rfl⟩:=len2 hl;rfl
 obtain⟨d4,F4⟩:=u4.2.get
 have k4:=F4.kp
 have b4:=F4.binds (ps:=["self", "signs"]) fun _ _ _ _ _ _ us hl=>by obtain⟨_,_,rfl⟩:=len2 hl;rfl
 obtain⟨d5,F5⟩:=u5.2.get
 have k5:=F5.kp
 have b5:=F5.binds (ps:=["self", "part"]) fun _ _ _ _ _ _ us hl=>by obtain⟨_,_,rfl⟩:=len2 hl;rfl
 obtain⟨d6,F6⟩:=u6.2.get
 have k6:=F6.kp
 have b6:=F6.binds (ps:=["self", "pattern"]) fun _ _ _ _ _ _ us hl=>by obtain⟨_,_,rfl⟩:=len2 hl;rfl
 obtain⟨d7,F7⟩:=u7.2.get
 have k7:=F7.kp
 have b7:=F7.binds (ps:=["pattern", "marks", "text"]) fun _ _ _ _ _ _ us hl=>by obtain⟨_,_,_,rfl⟩:=len3 hl;rfl
 have g7:=PySem.W.mg_of X G u7.1
 obtain⟨d8,F8⟩:=u8.2.get
 have k8:=F8.kp
 have b8:=F8.binds (ps:=["cell"]) fun _ _ _ _ _ _ us hl=>by obtain⟨_,rfl⟩:=len1 hl;rfl
 have g8:=PySem.W.mg_of X G u8.1
 obtain⟨d9,F9⟩:=u9.2.get
 have k9:=F9.kp
 have b9:=F9.binds (ps:=["pool", "base"]) fun _ _ _ _ _ _ us hl=>by obtain⟨_,_,rfl⟩:=len2 hl;rfl
 have g9:=PySem.W.mg_of X G u9.1
 obtain⟨d10,F10⟩:=u10.2.get
 have k10:=F10.kp
 have b10:=F10.binds (ps:=["pool"]) fun _ _ _ _ _ _ us hl=>by obtain⟨_,rfl⟩:=len1 hl;rfl
 have g10:=PySem.W.mg_of X G u10.1
 obtain⟨d11,F11⟩:=u11.2.get
 have k11:=F11.kp
 have b11:=F11.binds (ps:=["pool", "letters"]) fun _ _ _ _ _ _ us hl=>by obtain⟨_,_,rfl⟩:=len2 hl;rfl
 have g11:=PySem.W.mg_of X G u11.1
 obtain⟨d12,F12⟩:=u12.2.get
 have k12:=F12.kp
 have b12:=F12.binds (ps:=["pool", "letters", "blank"]) fun _ _ _ _ _ _ us hl=>by obtain⟨_,_,_,rfl⟩:=len3 hl;rfl
 have g12:=PySem.W.mg_of X G u12.1
 obtain⟨d13,F13⟩:=u13.2.get
 have k13:=F13.kp
 have b13:=F13.binds (ps:=["pool", "letters", "deep", "room", "hard"]) fun _ _ _ _ _ _ us hl=>by obtain⟨_,_,_,_,_,rfl⟩:=len5 hl;rfl
 have g13:=PySem.W.mg_of X G u13.1
 obtain⟨d14,F14⟩:=u14.2.get
 have k14:=F14.kp
 have b14:=F14.binds (ps:=["pool", "letters", "deep", "room", "blank"]) fun _ _ _ _ _ _ us hl=>by obtain⟨_,_,_,_,_,rfl⟩:=len5 hl;rfl
 have g14:=PySem.W.mg_of X G u14.1
 obtain⟨d15,F15⟩:=u15.2.get
 have k15:=F15.kp
 have b15:=F15.binds (ps:=["pattern"]) fun _ _ _ _ _ _ us hl=>by obtain⟨_,rfl⟩:=len1 hl;rfl
 have g15:=PySem.W.mg_of X G u15.1
 obtain⟨d16,F16⟩:=u16.2.get
 have k16:=F16.kp
 have b16:=F16.binds (ps:=["pattern"]) fun _ _ _ _ _ _ us hl=>by obtain⟨_,rfl⟩:=len1 hl;rfl
 have g16:=PySem.W.mg_of X G u16.1
 obtain⟨d17,F17⟩:=u17.2.get
 have k17:=F17.kp
 have b17:=F17.binds (ps:=["pool", "letters"]) fun _ _ _ _ _ _ us hl=>by obtain⟨_,_,rfl⟩:=len2 hl;rfl
 have g17:=PySem.W.mg_of X G u17.1
 obtain⟨d18,F18⟩:=u18.2.get
 have k18:=F18.kp
 have b18:=F18.binds (ps:=["pool", "letters", "most"]) fun _ _ _ _ _ _ us hl=>by obtain⟨_,_,_,rfl⟩:=len3 hl;rfl
 have g18:=PySem.W.mg_of X G u18.1
 obtain⟨d19,F19⟩:=u19.2.get
 have k19:=F19.kp
 have b19:=F19.binds (ps:=["tree"]) fun _ _ _ _ _ _ us hl=>by obtain⟨_,rfl⟩:=len1 hl;rfl
 have g19:=PySem.W.mg_of X G u19.1
 obtain⟨d20,F20⟩:=u20.2.get
 have k20:=F20.kp
 have b20:=F20.binds (ps:=["tree"]) fun _ _ _ _ _ _ us hl=>by obtain⟨_,rfl⟩:=len1 hl;rfl
 have g20:=PySem.W.mg_of X G u20.1
 obtain⟨d21,F21⟩:=u21.2.get
 have k21:=F21.kp
 have b21:=F21.binds (ps:=["parts", "text", "at", "left"]) fun _ _ _ _ _ _ us hl=>by obtain⟨_,_,_,_,rfl⟩:=len4 hl;rfl
 have g21:=PySem.W.mg_of X G u21.1
 obtain⟨d22,F22⟩:=u22.2.get
 have k22:=F22.kp
 have b22:=F22.binds (ps:=["pattern", "text", "at", "left"]) fun _ _ _ _ _ _ us hl=>by obtain⟨_,_,_,_,rfl⟩:=len4 hl;rfl
 have g22:=PySem.W.mg_of X G u22.1
 obtain⟨d23,F23⟩:=u23.2.get
 have k23:=F23.kp
 have b23:=F23.binds (ps:=["parts", "text", "at", "left"]) fun _ _ _ _ _ _ us hl=>by obtain⟨_,_,_,_,rfl⟩:=len4 hl;rfl
 have g23:=PySem.W.mg_of X G u23.1
 obtain⟨d24,F24⟩:=u24.2.get
 have k24:=F24.kp
 have b24:=F24.binds (ps:=["pattern", "text", "at", "left"]) fun _ _ _ _ _ _ us hl=>by obtain⟨_,_,_,_,rfl⟩:=len4 hl;rfl
 have g24:=PySem.W.mg_of X G u24.1
 obtain⟨d25,F25⟩:=u25.2.get
 have k25:=F25.kp
 have b25:=F25.binds (ps:=["pattern", "text", "most"]) fun _ _ _ _ _ _ us hl=>by obtain⟨_,_,_,rfl⟩:=len3 hl;rfl
 have g25:=PySem.W.mg_of X G u25.1
 obtain⟨d26,F26⟩:=u26.2.get
 have k26:=F26.kp
 have b26:=F26.binds (ps:=["pattern", "marks", "text"]) fun _ _ _ _ _ _ us hl=>by obtain⟨_,_,_,rfl⟩:=len3 hl;rfl
 have g26:=PySem.W.mg_of X G u26.1
 obtain⟨d27,F27⟩:=u27.2.get
 have k27:=F27.kp
 have b27:=F27.binds (ps:=["marks", "pool"]) fun _ _ _ _ _ _ us hl=>by obtain⟨_,_,rfl⟩:=len2 hl;rfl
 have g27:=PySem.W.mg_of X G u27.1
 obtain⟨d28,F28⟩:=u28.2.get
 have k28:=F28.kp
 have b28:=F28.binds (ps:=["known", "marks", "text"]) fun _ _ _ _ _ _ us hl=>by obtain⟨_,_,_,rfl⟩:=len3 hl;rfl
 have g28:=PySem.W.mg_of X G u28.1
 have x0:=PySem.W.mg_of X G m0
 have x1:=PySem.W.mg_of X G m1
 have x2:=PySem.W.mg_of X G m2
 have x3:=PySem.W.mg_of X G m3
 have x4:=PySem.W.mg_of X G m4
 have x5:=PySem.W.mg_of X G m5
 have x6:=PySem.W.mg_of X G m6
 have x7:=PySem.W.mg_of X G m7
 have x8:=PySem.W.mg_of X G m8
 obtain⟨_,_,kV,dc,pm,an,cd,ct,_,lL,qL,kL⟩:=u29.2
 have F29:=fun_mk lL qL kL
 refine⟨PySem.W.fnOf "law" "law" (defArgs xLaw) (defBody xLaw) (defScope xLaw) .none kV dc pm an cd ct,fun s v=> .of_eq rfl,fun base _ _=> ?_⟩
 have hV:=PySem.W.mg_none_of X G zv
 have cls:=exc_of (mg:=mg) zeB x1 x2 x3 x4 x5 x6 x7 hV
 obtain⟨cl,n1,n2,n3,n4,xq,hmk,hfn⟩:=cls_of zc
 have mk:Mk K cC f1:=⟨hmk.1,u1.1,hfn f1 (by simp),hmk.2⟩
 have m2:Meth K cC "is_used_up" f2:=⟨u2.1,hfn f2 (by simp),k2⟩
 have m3:Meth K cC "take_mark" f3:=⟨u3.1,hfn f3 (by simp),k3⟩
 have m4:Meth K cC "take_sign" f4:=⟨u4.1,hfn f4 (by simp),k4⟩
 have m5:Meth K cC "take_turns" f5:=⟨u5.1,hfn f5 (by simp),k5⟩
 have m6:Meth K cC "take_tree" f6:=⟨u6.1,hfn f6 (by simp),k6⟩
 have oki:Ok2 l.prog w K mg base 1 f1 _ ["self", "marks", "text"] (spInit cC):=ok_init cl n1 n2 n3 n4 F1 B
 have M2:Met2 l.prog w K mg base cC 1 "is_used_up" f2 _ ["self"] (spUsed cC):=⟨ok_used cl n1 n2 n3 n4 F2 B,b2,cl,m2⟩
 have M3:MetX l.prog w K mg base cD cC 1 "take_mark" f3 _ ["self", "choices"] (spTM cC):=⟨ok_tm cl n1 n2 n3 n4 xq x2 F3 B,b3,cl,m3⟩
 have M4:MetX l.prog w K mg base cD cC 1 "take_sign" f4 _ ["self", "signs"] (spTS cC):=⟨ok_ts cl n1 n2 n3 n4 xq x2 F4 B,b4,cl,m4⟩
 have M6:∀n:Nat,MetX l.prog w K mg base cD cC (2*n+2) "take_tree" f6 d6 ["self", "pattern"] (spTT cC n):=by
  intro n
  induction n with
  |zero=>exact⟨never_okX fun as G Q EX h=>by obtain⟨_,_,p,_,_,_,_,_,hd,_⟩:=h;have:=depth_pos p;(first|lia|omega),b6,cl,m6⟩
  |succ n ih=>exact⟨ok_tt (k:=2*n+2) (by(first|lia|omega)) xq x2 F6 B M3 M4 ih ⟨ok_tu (k:=2*n+2) (by(first|lia|omega)) x0 F5 B M3 ih,b5,cl,m5⟩,b6,cl,m6⟩
 have C7:CalX l.prog w K mg base cD 21 "tree_by" f7 _ ["pattern", "marks", "text"] (spTB 9):=⟨ok_tb (k:=20) (by decide) xq x2 F7 B mk oki b1 x8 (M6 9) M2,b7,k7,g7⟩
 have C8:Cal2 l.prog w K mg base 1 "_law_pool" f8 _ ["cell"] spPool:=⟨ok_pool F8 B,b8,k8,g8⟩
 have C9:Cal2 l.prog w K mg base 1 "_law_next" f9 _ ["pool", "base"] spNext:=⟨ok_next F9 B,b9,k9,g9⟩
 have C10:Cal2 l.prog w K mg base 2 "_law_letters" f10 _ ["pool"] spLetters:=⟨ok_letters F10 B C9,b10,k10,g10⟩
 have C11:Cal2 l.prog w K mg base 2 "_law_signs" f11 _ ["pool", "letters"] spSigns:=⟨ok_signs F11 B C9,b11,k11,g11⟩
 have C12:Cal2 l.prog w K mg base 3 "_law_leaf" f12 _ ["pool", "letters", "blank"] spLeaf:=⟨ok_leaf F12 B C9 C11,b12,k12,g12⟩
 have C14:∀n:Nat,Cal2 l.prog w K mg base (2*n+3) "_law_pattern" f14 d14 ["pool", "letters", "deep", "room", "blank"] (spPattern n):=by
  intro n
  induction n with
  |zero=>exact⟨never_ok fun as G Q h=>by obtain⟨_,_,_,d,_,_,_,hd,_⟩:=h;(first|lia|omega),b14,k14,g14⟩
  |succ n ih=>exact⟨ok_pattern (k:=2*n+3) (by(first|lia|omega)) F14 B C9 C12 ih ⟨ok_parts (k:=2*n+3) (by(first|lia|omega)) F13 B C9 ih,b13,k13,g13⟩,b14,k14,g14⟩
 have C15:Cal2 l.prog w K mg base 1 "_law_inside" f15 _ ["pattern"] spInside:=⟨ok_inside F15 B,b15,k15,g15⟩
 have C16:∀n:Nat,Cal2 l.prog w K mg base (n+1) "_law_size" f16 d16 ["pattern"] (spSize n):=by
  intro n
  induction n with
  |zero=>exact⟨never_ok fun as G Q h=>by obtain⟨_,_,hd,_⟩:=h;(first|lia|omega),b16,k16,g16⟩
  |succ n ih=>exact⟨ok_size (k:=n+1) (by(first|lia|omega)) F16 B C15 ih,b16,k16,g16⟩
 have C17:Cal2 l.prog w K mg base 16 "_law_drawn" f17 _ ["pool", "letters"] spDrawn:=⟨ok_drawn (k:=15) (by decide) F17 B C9 (C14 6) C15 (C16 10),b17,k17,g17⟩
 have C18:Cal2 l.prog w K mg base 2 "_law_text" f18 _ ["pool", "letters", "most"] spText:=⟨ok_text F18 B C9,b18,k18,g18⟩
 have C19:Cal2 l.prog w K mg base 1 "_law_inner" f19 _ ["tree"] spLInn:=⟨ok_linn F19 B,b19,k19,g19⟩
 have C20:∀n:Nat,Cal2 l.prog w K mg base (n+1) "_law_marked" f20 d20 ["tree"] (spMarked n):=by
  intro n
  induction n with
  |zero=>exact⟨never_ok fun as G Q h=>by obtain⟨t,_,hd,_⟩:=h;have:=tdp_pos t;(first|lia|omega),b20,k20,g20⟩
  |succ n ih=>exact⟨ok_marked (k:=n+1) (by(first|lia|omega)) F20 B C19 ih,b20,k20,g20⟩
 have C24:∀n:Nat,Cal2 l.prog w K mg base (2*n+1) "_law_all" f24 d24 ["pattern", "text", "at", "left"] (spAll n):=by
  intro n
  induction n with
  |zero=>exact⟨never_ok fun as G Q h=>by obtain⟨p,_,_,_,_,_,hA,_⟩:=h;have:=depth_pos p;have:=hA.d;(first|lia|omega),b24,k24,g24⟩
  |succ n ih=>exact⟨ok_all (k:=2*n+2) (by(first|lia|omega)) F24 B ⟨ok_row (k:=2*n+1) (by(first|lia|omega)) F21 B ih,b21,k21,g21⟩ ⟨ok_agains (k:=2*n+1) (by(first|lia|omega)) F22 B ih,b22,k22,g22⟩ ⟨ok_picked (k:=2*n+1) (by(first|lia|omega)) F23 B ih,b23,k23,g23⟩ ⟨ih.ok.mono (by(first|lia|omega)),b24,k24,g24⟩,b24,k24,g24⟩
 have C25:Cal2 l.prog w K mg base 120 "_law_whole_text" f25 _ ["pattern", "text", "most"] spWT:=⟨(ok_wt (k:=95) (by decide) F25 B (C24 47)).mono (by decide),b25,k25,g25⟩
 have C26:Cal2 l.prog w K mg base 120 "_law_found" f26 _ ["pattern", "marks", "text"] (spFound 9):=⟨(ok_found (k:=21) (by decide) cls F26 B C7).mono (by decide),b26,k26,g26⟩
 have C27:Cal2 l.prog w K mg base 2 "_law_spoiled" f27 _ ["marks", "pool"] spSpoil:=⟨ok_spoil F27 B C9,b27,k27,g27⟩
 have C28:Cal2 l.prog w K mg base 1 "_law_due" f28 _ ["known", "marks", "text"] (spDue l.prog w):=⟨ok_due F28 B,b28,k28,g28⟩
 exact ok_law (k:=120) (by decide) F29 B C8 C10 C17 C9 C18 C25 (C20 9) C27 C26 C28
theorem fz_of{K:PySem.W.Frag}{H:Hp}{a:Addr}{xs:List V}(h:SqL K H a xs)(o:Only H):FzL K H a xs:=by
 rcases h with(h|⟨ob,h⟩)|h
 ·rcases o a with e|⟨ob,ys,e⟩<;>(rw[e]at h;cases h)
 ·exact .inl ⟨ob,h⟩
 ·exact .inr h
theorem walk{l:PySem.W.OpenLaw}{q:Program}{loose:List Str}{XP:(Str→Option Value)→Heap→Prop}{YP:World→Heap→Prop}{d:DefRec}{K:Params→PySem.W.Frag}(hn:l.most=some 63)(hdf:d.params.defaults=[])
  (hY:∀(w:World) (h:Heap),YP w h→(K w.params).In h)
  (F:∀(w:World) (mg:Str→Option Value) (fa:Addr) (h:Heap),(K w.params).In h→h.Ns mainGlobals mg→mg d.name=some (.ref fa)→
   ∃fd:FuncData,(∀(s:Shared) (u:Value),BindsTo s fd ⟨[u],[]⟩ [("script",u)])∧∀base:Heap,(K w.params).In base→base.Ns mainGlobals mg→FnOk l.prog w (K w.params) mg base CX0 121 fa fd ["script"] (spL (K w.params) spLaw)):
  PySem.W.WalkO q loose XP YP l.row.toRowW d [] (fun f vs=>PySem.call f vs):=
 L2.walk_of (n:=63) (k:=121) (x:= "script") (CX:=fun _=>CX0) (sp:=fun w=>spL (K w.params) spLaw) hn (by decide) hdf ⟨rfl,by decide,by decide⟩ hY F
  (fun _ H a ns hl ho hS=>⟨[.ro (ns.map PV.int)],fun _=>none,fun p _=>p= .bl true,.cons ⟨a,_,rfl,fz_of hS ho,ints_Dm ns⟩ .nil,fun _ _ z=>(nomatch z),⟨ns,rfl,hl,fun _=>rfl⟩,fun p G v H' e d _ _=>by subst e;exact d⟩) fun _ _ _ _ _ z=>z
end T11
open PySem PySem.W PyProof.Rows
set_option maxRecDepth 100000 in
theorem PySem.Challenge.cw_tastegrove_k11_trees_by_marks_holds : PySem.Challenge.rw_tastegrove_k11_trees_by_marks.Holds := by
 refine T11.tp ⟨⟨T11.h1,T11.h2⟩,?_⟩
 k_fill
 refine T11.walk (l:=PySem.Challenge.rw_tastegrove_k11_trees_by_marks) rfl rfl (fun w h Y=>PySem.W.kIn_of Y) ?F
 case F=>
  intro w mg fa h KX G hmg
  refine' T11.all_mk KX G hmg ?zv ?u1 ?u2 ?u3 ?u4 ?u5 ?u6 ?u7 ?u8 ?u9 ?u10 ?u11 ?u12 ?u13 ?u14 ?u15 ?u16 ?u17 ?u18 ?u19 ?u20 ?u21 ?u22 ?u23 ?u24 ?u25 ?u26 ?u27 ?u28 ?u29 ?m0 ?m1 ?m2 ?m3 ?m4 ?m5 ?m6 ?m7 ?m8 ?zc ?zeB ?zb
  (case zv=>k_is)
  (case m0=>k_is)
  (case m1=>k_is)
  (case m2=>k_is)
  (case m3=>k_is)
  (case m4=>k_is)
  (case m5=>k_is)
  (case m6=>k_is)
  (case m7=>k_is)
  (case m8=>k_is)
  case u1=>exact⟨by k_is,_,_,_,_,_,_,_,_,_,by k_is,by k_is,by k_is⟩
  case u2=>exact⟨by k_is,_,_,_,_,_,_,_,_,_,by k_is,by k_is,by k_is⟩
  case u3=>exact⟨by k_is,_,_,_,_,_,_,_,_,_,by k_is,by k_is,by k_is⟩
  case u4=>exact⟨by k_is,_,_,_,_,_,_,_,_,_,by k_is,by k_is,by k_is⟩
  case u5=>exact⟨by k_is,_,_,_,_,_,_,_,_,_,by k_is,by k_is,by k_is⟩
  case u6=>exact⟨by k_is,_,_,_,_,_,_,_,_,_,by k_is,by k_is,by k_is⟩
  case u7=>exact⟨by k_is,_,_,_,_,_,_,_,_,_,by k_is,by k_is,by k_is⟩
  case u8=>exact⟨by k_is,_,_,_,_,_,_,_,_,_,by k_is,by k_is,by k_is⟩
  case u9=>exact⟨by k_is,_,_,_,_,_,_,_,_,_,by k_is,by k_is,by k_is⟩
  case u10=>exact⟨by k_is,_,_,_,_,_,_,_,_,_,by k_is,by k_is,by k_is⟩
  case u11=>exact⟨by k_is,_,_,_,_,_,_,_,_,_,by k_is,by k_is,by k_is⟩
  case u12=>exact⟨by k_is,_,_,_,_,_,_,_,_,_,by k_is,by k_is,by k_is⟩
  case u13=>exact⟨by k_is,_,_,_,_,_,_,_,_,_,by k_is,by k_is,by k_is⟩
  case u14=>exact⟨by k_is,_,_,_,_,_,_,_,_,_,by k_is,by k_is,by k_is⟩
  case u15=>exact⟨by k_is,_,_,_,_,_,_,_,_,_,by k_is,by k_is,by k_is⟩
  case u16=>exact⟨by k_is,_,_,_,_,_,_,_,_,_,by k_is,by k_is,by k_is⟩
  case u17=>exact⟨by k_is,_,_,_,_,_,_,_,_,_,by k_is,by k_is,by k_is⟩
  case u18=>exact⟨by k_is,_,_,_,_,_,_,_,_,_,by k_is,by k_is,by k_is⟩
  case u19=>exact⟨by k_is,_,_,_,_,_,_,_,_,_,by k_is,by k_is,by k_is⟩
  case u20=>exact⟨by k_is,_,_,_,_,_,_,_,_,_,by k_is,by k_is,by k_is⟩
  case u21=>exact⟨by k_is,_,_,_,_,_,_,_,_,_,by k_is,by k_is,by k_is⟩
  case u22=>exact⟨by k_is,_,_,_,_,_,_,_,_,_,by k_is,by k_is,by k_is⟩
  case u23=>exact⟨by k_is,_,_,_,_,_,_,_,_,_,by k_is,by k_is,by k_is⟩
  case u24=>exact⟨by k_is,_,_,_,_,_,_,_,_,_,by k_is,by k_is,by k_is⟩
  case u25=>exact⟨by k_is,_,_,_,_,_,_,_,_,_,by k_is,by k_is,by k_is⟩
  case u26=>exact⟨by k_is,_,_,_,_,_,_,_,_,_,by k_is,by k_is,by k_is⟩
  case u27=>exact⟨by k_is,_,_,_,_,_,_,_,_,_,by k_is,by k_is,by k_is⟩
  case u28=>exact⟨by k_is,_,_,_,_,_,_,_,_,_,by k_is,by k_is,by k_is⟩
  case u29=>exact⟨by k_is,_,_,_,_,_,_,_,_,_,by k_is,by k_is,by k_is⟩
  (case zc=>kernel_rfl)
  (case zeB=>kernel_rfl)
  (case zb=>kernel_rfl)
