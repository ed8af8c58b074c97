import PyProof.Rows.All
import Wide.All
import OpenK.KLine
import OpenK.KOwn
import OpenK.KMore
import OpenK.KMake
import OpenK.KList
import OpenK.KFacts
import OpenK.KDescr
import OpenK.KGet
import OpenK.KCall
import OpenK.KCls
import OpenK.Peek
import OpenK.Lit
import KE.KIsAll
import KE.KItem
import Wide.FinOn
import Lean
import PyProof.EqAt
import PyProof.EqKinds
import PyProof.NeKinds
import PyProof.TupleCall
import PyProof.CollectStr
import PyProof.FactsAll.tuple
import PyProof.Draws
import PyProof.EnumMake
import PyProof.ListTruth
import PyProof.RaisesMany
import PyProof.Rows.SetFrom
import PyProof.StrLawsIn
import PyProof.TupleIter
import PySem.Challenge.RW_tastegrove_k19_at_most_two_hundred
set_option Elab.async false
set_option linter.all false
set_option maxRecDepth 100000
set_option maxHeartbeats 0
set_option compiler.extract_closed false
set_option genSizeOf false
namespace T19
open PySem
def top(i:Nat):Stmt:=PySem.Challenge.pw_tastegrove_k19_at_most_two_hundred.main.body.getD i (.Pass ⟨0,0,0,0⟩)
abbrev pw:Program:=PySem.Challenge.pw_tastegrove_k19_at_most_two_hundred
def vw:Program:={pw with main:={pw.main with body:=[top 1,top 3,top 4,top 5,top 7,top 8,top 9,top 11,top 12,top 13,top 15,top 16,top 17,top 19,top 20,top 21,top 22,top 24,top 25,top 26,top 27,top 28,top 29,top 30,top 32,top 33,top 34,top 35,top 36,top 37,top 38,top 39,top 40]}}
open PySem.W in
theorem left_boot{p q:Program}{loose:List Str}{Xt:Shared→Bool}{α:Type}{Yf:Shared→α}{Ya:World→α}{N:Nat}{g0:Bool}(e:opening p=PySem.W.plainProg p.main.scope.names)(hN:Nat.ble 600 N=true)(f:∀s,fenceModules? p s=some s)
  (h1:∀(w:World) (os:OsState),(PySem.W.topFrom treeTable p w N ⟨PySem.W.boot_heap w.params,Array.mk [],PySem.W.boot_drawn,PySem.W.boot_toks,os⟩).map (fun s=>PySem.W.openSeen q loose (importedModules p.main.body) Xt g0 s)=some (PySem.W.openGood q loose))
  (h2:∀(w:World) (os:OsState),(PySem.W.topFrom treeTable p w N ⟨PySem.W.boot_heap w.params,Array.mk [],PySem.W.boot_drawn,PySem.W.boot_toks,os⟩).map Yf=some (Ya w)):PySem.W.LeftO p q loose Xt Yf Ya N g0:=fun w=>by
 obtain⟨⟨h,gs,d,k,os⟩,e1,e2⟩:=Option.map_eq_some_iff.mp (PySem.W.boot_open e hN f w)
 simp only[Prod.mk.injEq]at e2
 obtain⟨rfl,rfl,rfl,rfl⟩:=e2
 unfold PySem.W.openEnds
 rw[e1]
 show(PySem.W.topFrom treeTable p w N _).map _=_
 have a:=h1 w os
 have b:=h2 w os
 cases t:PySem.W.topFrom treeTable p w N ⟨PySem.W.boot_heap w.params,Array.mk [],PySem.W.boot_drawn,PySem.W.boot_toks,os⟩with
 |none=>rw[t]at a;cases a
 |some x=>
  rw[t]at a b
  simp only[Option.map_some,Option.some.injEq]at a b⊢
  rw[a,b]
theorem helper{A B C:Prop}(f:A→B→C)(hw:A)(call:B):C:=f hw call
def q1{A B W V:Prop}(_:(A∧B)∧W→V):Prop:=A
def q2{A B W V:Prop}(_:(A∧B)∧W→V):Prop:=B
end T19
open PySem PySem.W PyProof.Rows in
local macro_rules | `(tactic| o_head $H) => `(tactic| (apply T19.helper (fun hw hc => holds_open (q := T19.vw) (loose := []) (Xt := fun s => xlAt T19.vw [] s && recOk (RowW.records (OpenRow.toRowW (OpenLaw.row PySem.Challenge.rw_tastegrove_k19_at_most_two_hundred))) s) (XP := XL T19.vw []) (Yf := Hook.obs $H) (Ya := Hook.val $H) (YP := Hook.says $H) (N := 5730) (T19.left_boot (by rfl) (by decide) (fun _ => by rfl) (And.left (And.left hc)) (And.right (And.left hc))) (Hook.of $H) (Hook.keeps $H) (fun s e => xl_of s (Bool.and_eq_true_iff.mp e).1) XL.keeps (by rfl) (by rfl) (by rfl) (fun s e => recFacts_of (Bool.and_eq_true_iff.mp e).2) (by rfl) (by first | assumption | decide +kernel) (by decide +kernel) ⟨rfl, rfl, rfl, rfl, rfl, by decide +kernel⟩ hw (And.right hc))))
open PySem PySem.W PyProof.Rows in
open_top T19.tp for PySem.Challenge.rw_tastegrove_k19_at_most_two_hundred
theorem T19.h1:T19.q1 @T19.tp:=by
 unfold T19.q1
 intro w os
 kernel_rfl
theorem T19.h2:T19.q2 @T19.tp:=by
 unfold T19.q2
 intro w os
 kernel_rfl
open PySem renaming wpAny_bind → aa, Value → ae, Shared → ai, starEach → aq, wpAny_pure → aA, Program → aI, sizeLine → aK, model → aQ, FuncData → aW, World → aY, wpAny_mono → bc, wpAny_field → bw, mainGlobals → bx, backTo → bB, wpAny_newObj_type → bF, compareOp → bQ, bootBuiltins → bY, Builtin → cb, attributeBase → cg, binaryOp → cK, wpAny_callSpecial?_slot → cS, wpAny_holding → dH, wpAny_seqItems → dN, keywordEach → dO, foldedSetIterable → dU, IsPair → dY, NameKind → eo, wpAny_call_entry → eB, wpAny_setField_rec → eF, lookup_relabel_local → eU, sysModules → eY, Scope → e8, Keyword → fz, wpAny_Call_Name_kw → fL, call_meets → fN, wpAny_passesOwn → fQ, wpAny_truthy_bool → fT, sizeLine_eq → gA, backToKw → gB, swapsWith → gC, cLine → gZ, behindInMarks → g6, wpAny_execs_nil → hZ, sliceBounds → iY, letOwnedTupleGo → jh, getItem → jC, typeIs_int → jP, assignEach → jW, Operator → jX, wpAny_binaryOp_repeat_ref → j8, wpAny_onRaise → kS, wpAny_comprehension_free → kT, wpAny_attempt → kU, codeAny_mono → mX, codeAny_compStart_list → mY, wpAny_updateSeq → nw, wpAny_updateSeq_pair → o5, wpAny_setField → o6, wpAny_newFunctionEnv → o7, tupleKind_room_in1 → rE, wpAny_pyIter_list → sX, wpAny_loadPart_at → sY, slot_list_getitem → tJ, wpAny_getItem_list_slice → Bx
open List renaming replicate → aj, getElem?_eq_getElem → al, getElem?_eq_some_iff → am, length_map → ap, mem_singleton → au, size_toArray → aw, mem_of_getElem? → ax, mem_map → ay, mem_cons → aD, map_cons → aE, getElem?_map → aF, length_append → aN, mem_append → aR, map_append → aS, length_cons → aT, mem_append_right → aX, length_take → bb, replicate_succ → bf, not_mem_nil → bi, mem_flatMap → bp, all_eq_true → bq, nodup_cons → bu, append_nil → bz, length_reverse → bA, take_length → bD, mem_cons_of_mem → bH, flatMap_cons → bI, map_map → bT, getElem?_append_right → bX, take_add_one → bZ, getElem?_set_ne → cf, flatten_cons → cx, sum_cons → cA, getElem?_set_self → cE, length → cG, append_assoc → cH, mem_filter → cL, range → cV, getElem?_range → cX, getElem?_append_left → c9, drop_eq_getElem_cons → dj, filterMap_cons → dP, any_cons → dX, take_append_drop → er, getElem?_eq_none → eA, find?_cons → eJ, reverse_cons → eK, mem_of_mem_take → eL, lookup_cons → eW, mem_iff_getElem? → fI, length_replicate → fJ, length_drop → fV, map_congr_left → gu, length_set → gI, mem_cons_self → gK, cons_append → iu, lookup → iD, eq_nil_of_length_eq_zero → iE, nodup_append → jN, all_cons → jO, getElem?_replicate → j5, take_of_length_le → kO, map_nil → kQ, nil_append → le, forIn_cons → lf, take_succ → lV, mem_range → lW, mem_append_left → lX, reverse_append → nz, length_flatten → nA, filter_eq_self → nE, map_take → oH, getElem?_take → oX, getElem?_drop → oY, length_range → pP, replicate_append_replicate → rq, countP_eq_length_filter → sN, pairwise_iff_getElem → wv, getElem?_cons_zero → yd, filter_cons_of_pos → ye, filter_cons_of_neg → yf
open PySem.Heap renaming get?_push_of_some → ak, lt_size → aC, get?_push_size → aJ, get?_update_other → cj, size_push → cW, SameBut → dW, get?_update_self → fK
open Nat renaming le_refl → av, le_trans → aO, le_of_ble_eq_true → aP, ne_of_lt → aU, lt_of_lt_of_le → ba, zero_le → bK, lt_or_ge → cP, lt_irrefl → cU, lt_succ_of_lt → eQ, pos_of_ne_zero → fA, add_comm → fC, le_succ → fS, lt_succ_self → gf, le_of_lt → gh, not_lt_zero → gJ, lt_of_le_of_lt → gP, min_eq_left → iR, ne_of_gt → i6, mul_comm → i7, mul_le_mul → nv, lt_succ_of_le → rn
open PySem.Value renaming ref → aB, none → bn, type → bv, int → dB, bool → eP, str → iW, builtin → jL
open Ne renaming symm → aG
open Bool renaming and_eq_true → aH, false_ne_true → bd, and_false → lY, false_eq_true → o4, and_eq_true_iff → Bk
open Option.some renaming inj → a8
open PySem.Str renaming ofString → a9
open PySem.Builtin.SmallTypes renaming nextOf → bC
open Int renaming toNat_natCast → bL, natCast_add → gL, ofNat_inj → iF, le_trans → i8, emod_lt_of_pos → jq, natCast_mul → lx, emod_nonneg → ly
open False renaming elim → bN
open PySem.Builtin.Slice renaming slicePlaces → bV, sliceAdjust → dS, sliceApplied → fj, sliceFields → oZ
open PySem.Builtin.Tuple renaming tupleExact → ce, tupleTooMany → iq, tupleItemsOf → oI
open PyProof.Rows renaming slot_tuple_getitem → cw, callWith_type1 → dG, envOfC → j3, AllBare → kR
open True renaming intro → cz
open PySem.Builtin.List renaming listTooLong → cY, listExtendWith → eZ, listFitsIndex → iw, listSameRef → pR
open PySem.Data renaming fields → cZ, seq → eM
open PySem.Builtin.Range renaming rangeSize → eE
open PySem.Obj renaming mapSeq → eS
open ForInStep renaming yield → fW
open PySem.Builtin.Str renaming occurrences → fX
open PySem.AutoSeq1 renaming wpAny_loadPart' → fY
open PySem.F renaming slot_tuple_iterator_next → gi, slot_zip_next → gR, slot_int_rmul → gS, slot_tuple_mul → lg, args_zip_next_1 → rN, args_int_rmul_2 → rO, slot_int_index → uC, slot_dict_keyiterator_iter → wz, args_tuple_iterator_next_1 → wA, entry_tuple_iterator_next → wE, slot_tuple_rmul → Li
open Array renaming length_toList → gj, getElem?_eq_some_iff → jb
open Or renaming inr → gQ, inl → io
open PySem.Calls renaming callWith_builtin → hJ, spliced_cons → i9, Name_function_global → ja, evalArgs_plain → lU, spliced_nil → pj, loadGlobal_global → wF
open Sum renaming inl → il
open PySem.NameKind renaming free → je
open Option renaming some → jp, isSome_iff_exists → jr
open PySem.Heap.IsSliceOf renaming new → j6
open PySem.Txt renaming join → kz
open Prod.mk renaming inj → lc
open PySem.SeqAt.EqAt renaming str_int → lv, int_str → lw
local macro_rules | `(tactic| ac_nf) => `(tactic| first | lia | omega)
namespace L2
open PySem PySem.Spec PyProof.Rows
noncomputable abbrev Key:=Sum Int Str
noncomputable def sw:Key->ae->Bool
 | .inl k,v=>ae.isInt k v
 | .inr x,v=>ae.isStrOf x v
noncomputable def OE(w:aY):Key->Int
 | .inl k=>hashInt k
 | .inr x=>hashStr w x
theorem dM:∀{k:Key} {v:ae},sw k v=true->(∃i t,k=il i/\v=dB i t)\/(∃x t,k=Sum.inr x/\v=iW x t)
 | .inl i,v,h=>by
  obtain⟨t,e⟩:=ae.isInt_shape (k:=i) (v:=v) h
  exact .inl ⟨i,t,rfl,e⟩
 | .inr x,v,h=>by
  obtain⟨t,e⟩:=ae.isStrOf_shape (x:=x) (v:=v) h
  exact .inr ⟨x,t,rfl,e⟩
theorem AG(i:Int)(t:Tok):sw (.inl i) (.int i t)=true:=by simp[sw,ae.isInt]
theorem AF(x:Str)(t:Tok):sw (.inr x) (.str x t)=true:=by simp[sw,ae.isStrOf]
theorem JJ(a b:Int):decide ((il a:Key)=il b)=(a==b):=by
 by_cases e:a=b
 ·subst e;simp
 ·have h:¬(il a:Key)=il b:=λq=>e (il.inj q)
  rw[decide_eq_false h]
  exact(beq_eq_false_iff_ne.mpr e).symm
theorem JC(a b:Str):decide ((Sum.inr a:Key)=Sum.inr b)=decide (a=b):=by
 by_cases e:a=b
 ·subst e;simp
 ·have h:¬(Sum.inr a:Key)=Sum.inr b:=λq=>e (Sum.inr.inj q)
  rw[decide_eq_false h,decide_eq_false e]
theorem JH(a:Int)(b:Str):decide ((il a:Key)=Sum.inr b)=false:=decide_eq_false (λq=>nomatch q)
theorem JD(a:Str)(b:Int):decide ((Sum.inr a:Key)=il b)=false:=decide_eq_false (λq=>nomatch q)
noncomputable def mixKind(prog:aI)(w:aY):PySem.KeyKind prog w Key where
 is:=sw
 hash:=OE w
 inj:=λv a b ha hb=>by
  rcases dM ha with⟨i,t,rfl,rfl⟩|⟨x,t,rfl,rfl⟩
  ·rcases dM hb with⟨j,u,rfl,e⟩|⟨y,u,rfl,e⟩
   ·injection e with e1 _;rw[e1]
   ·exact nomatch e
  ·rcases dM hb with⟨j,u,rfl,e⟩|⟨y,u,rfl,e⟩
   ·exact nomatch e
   ·injection e with e1 _;rw[e1]
 byValue:=λk v h=>by
  rcases dM h with⟨i,t,rfl,rfl⟩|⟨x,t,rfl,rfl⟩<;>rfl
 pyHash:=λhv h=>by
  rcases dM hv with⟨i,t,rfl,rfl⟩|⟨x,t,rfl,rfl⟩
  ·exact wpAny_pyHash_int h
  ·exact wpAny_pyHash_str h
 eqBool:=λhu hv h=>by
  rcases dM hu with⟨i,t,rfl,rfl⟩|⟨x,t,rfl,rfl⟩
  ·rcases dM hv with⟨j,u,rfl,rfl⟩|⟨y,u,rfl,rfl⟩
   ·rw[JJ]at h;exact wpAny_eqBool_int h
   ·rw[JH]at h;exact lw i t y u _ _ _ _ h
  ·rcases dM hv with⟨j,u,rfl,rfl⟩|⟨y,u,rfl,rfl⟩
   ·rw[JD]at h;exact lv x t j u _ _ _ _ h
   ·rw[JC]at h;exact wpAny_eqBool_str h
 «strs»:=λk x t v h=>by
  rcases dM h with⟨i,u,rfl,e⟩|⟨y,u,rfl,e⟩
  ·exact nomatch e
  ·injection e with e1 _
   subst e1
   cases v<;>rfl
theorem vF(prog:aI)(w:aY)(i:Int)(t:Tok):(mixKind prog w).is (.inl i) (.int i t)=true:=AG i t
theorem vE(prog:aI)(w:aY)(x:Str)(t:Tok):(mixKind prog w).is (.inr x) (.str x t)=true:=AF x t
inductive V where
 |non|bl (b:Bool)|int (i:Int)|str (x:Str)|byt (b:Array UInt8)|flt (b:UInt64)|ref (a:Addr)|ty (n:String)
 deriving DecidableEq
noncomputable def RelV:V->ae->Prop
 | .non,u=>u=bn
 | .bl b,u=>u=eP b
 | .int i,u=>∃t,u=dB i t
 | .str x,u=>∃t,u=iW x t
 | .byt b,u=>∃t,u=ae.bytes b t
 | .flt b,u=>∃t,u=ae.float b t
 | .ref a,u=>u=aB a
 | .ty n,u=>u=bv n
noncomputable abbrev Vals:List V->List ae->Prop:=Paired RelV
theorem Vals.length{xs:List V}{us:List ae}(r:Vals xs us):xs.length=us.length:=Paired.length r
theorem Vals.get:∀{xs:List V} {us:List ae} {i:Nat} {x:V},Vals xs us->xs[i]? =some x->∃u,us[i]? =some u/\RelV x u
 |_,_,_,_,.nil,e=>by simp at e
 |_,_,0,_,.cons r _,e=>by simp at e;subst e;exact⟨_,rfl,r⟩
 |_,_,i+1,x,.cons _ t,e=>by
  obtain⟨u,h1,h2⟩:=Vals.get (i:=i) (x:=x) t (by simpa using e)
  exact⟨u,by simpa using h1,h2⟩
theorem Vals.set{x:V}{u:ae}(r:RelV x u):∀{xs:List V} {us:List ae} (i:Nat),Vals xs us->Vals (xs.set i x) (us.set i u)
 |_,_,_,.nil=> .nil
 |_,_,0,.cons _ t=> .cons r t
 |_,_,i+1,.cons q t=> .cons q (Vals.set r i t)
theorem Vals.append:∀{xs ys:List V} {us ws:List ae},Vals xs us->Vals ys ws->Vals (xs++ys) (us++ws)
 |_,_,_,_,.nil,s=>s
 |_,_,_,_,.cons r t,s=> .cons r (Vals.append t s)
theorem Vals.take:∀{xs:List V} {us:List ae} (n:Nat),Vals xs us->Vals (xs.take n) (us.take n)
 |_,_,0,_=> .nil
 |_,_,_+1,.nil=> .nil
 |_,_,n+1,.cons r t=> .cons r (Vals.take n t)
theorem Vals.drop:∀{xs:List V} {us:List ae} (n:Nat),Vals xs us->Vals (xs.drop n) (us.drop n)
 |_,_,0,r=>r
 |_,_,_+1,.nil=> .nil
 |_,_,n+1,.cons _ t=>Vals.drop n t
noncomputable def RelO:Option V->Option ae->Prop
 |some v,some u=>RelV v u
 |none,none=>True
 |_,_=>False
noncomputable def KV{κ:Type}:List (κ×V)->List (κ×ae)->Prop:=Paired fun(p:κ×V) (q:κ×ae)=>p.1=q.1/\RelV p.2 q.2
noncomputable def kV:Key->V
 | .inl i=> .int i
 | .inr x=> .str x
inductive HO where
  |lst (xs:List V)
  |tup (xs:List V)
  |dK (kvs:List (Key×V))|dT (kvs:List (List Key×V))
  |set (S:Int->Bool) (n:Nat)
  |ins (C dx:Addr) (fs:List (Str×V))
  |own (x:Addr)
  |xd (fs:List (Str×V))
  |met (f x:Addr)
  |rng (lo hi:Int)
  |frz (o:Obj) (u:HO)
  |tbl (ps:Array ae)
  |ext (φ:Heap->Prop)
noncomputable abbrev Hp:=Addr->Option HO
noncomputable def upd(H:Hp)(a:Addr)(o:HO):Hp:=λb=>if b=a then some o else H b
theorem cr{H:Hp}{a:Addr}{o:HO}:upd H a o a=some o:=by unfold upd;rw[if_pos rfl]
theorem br{H:Hp}{a b:Addr}{o:HO}(h:b≠a):upd H a o b=H b:=by unfold upd;rw[if_neg h]
theorem Mc{H:Hp}{a b:Addr}{o u:HO}(h:H a=some o)(h':H b=some u)(d:o≠u):a≠b:=by
 intro e;subst e;rw[h]at h';exact d (a8 h')
theorem cq{H:Hp}{a b:Addr}{o:HO}(h:H a=some o)(h':H b=none):a≠b:=by
 intro e;subst e;rw[h]at h';cases h'
section
variable(P:aI)(w:aY)
noncomputable def ObjOk(H:Hp)(h:Heap)(a:Addr):HO->Prop
 | .lst xs=>xs.length<=aK/\∃(its:List ae) (n:Nat),Vals xs its/\h.get? a=some {cls:= .type "list",data:= .seq its.toArray n}
 | .tup xs=>xs.length<=aK/\∃its:List ae,Vals xs its/\IsTup h a its.toArray
 | .dK kvs=>kvs.length<=aK/\(a==eY)=false/\∃vs,KV kvs vs/\h.DictOf (mixKind P w) a vs
 | .dT kvs=>kvs.length<=aK/\(a==eY)=false/\∃xs:List (List Key×Addr×ae),
   Paired (fun(p:List Key×V) (q:List Key×Addr×ae)=>p.1=q.1/\H q.2.1=some (.tup (p.1.map kV))/\RelV p.2 q.2.2) kvs xs/\
   ∃o es ep,h.get? a=some o/\o.ExactDict/\o.data= .dict es ep/\es.toList=xs.map (entryOfKey (tupleKind (mixKind P w)))/\(xs.map (·.1)).Nodup
 | .set S n=>h.SetOf (intKind P w) a S n
 | .ins C dx fs=>H dx=some (.own a)/\fs.length<=1000/\dx≠a/\h.get? a=some (PySem.W.instObj C dx)/\
   ∃mA,h.Ns1 dx mA/\(∀f,RelO (fs.lookup f) (mA f))/\PySem.Within mA (fs.map (·.1))
 | .own _=>∃o,h.get? a=some o
 | .xd fs=>∃mA,h.Ns1 a mA/\∀f,RelO (fs.lookup f) (mA f)
 | .rng lo hi=>∃t u v,h.get? a=some {cls:= .type "range",data:= .fields #[.int lo t,.int hi u,.int 1 v]}
 | .frz o u=>h.get? a=some o/\ObjOk H h a u
 | .tbl ps=>h.get? a=some {cls:= .none,data:= .fields ps}
 | .met f x=>h.get? a=some (PySem.W.methodObj (.ref f) (.ref x))
 | .ext φ=>φ h/\(∃o,h.get? a=some o)/\∀h1 h2:Heap,φ h1->(∀o,h1.get? a=some o->h2.get? a=some o)->φ h2
noncomputable def HOk(H:Hp)(h:Heap):Prop:=∀a o,H a=some o->ObjOk P w H h a o
end
section
variable{P:aI}{w:aY}{H H':Hp}{h h':Heap}{a:Addr}{o:HO}
theorem ObjOk.lt(x:ObjOk P w H h a o):a<h.objs.size:=by
 cases o with
 |lst xs=>obtain⟨_,_,_,_,e⟩:=x;exact aC e
 |tup xs=>obtain⟨_,_,_,p⟩:=x;exact p.lt
 |dK kvs=>obtain⟨_,_,_,_,o,_,_,e,_⟩:=x;exact aC e
 |dT kvs=>obtain⟨_,_,_,_,o,_,_,e,_⟩:=x;exact aC e
 |set S n=>obtain⟨o,_,_,_,e,_⟩:=x;exact aC e
 |ins C dx fs=>obtain⟨_,_,_,e,_⟩:=x;exact aC e
 |own y=>obtain⟨_,e⟩:=x;exact aC e
 |xd fs=>obtain⟨_,⟨_,_,_,e,_⟩,_⟩:=x;exact aC e
 |rng lo hi=>obtain⟨_,_,_,e⟩:=x;exact aC e
 |frz ob u=>obtain⟨e,_⟩:=x;exact aC e
 |tbl ps=>exact aC (show h.get? a=some _ from x)
 |met f y=>exact aC (show h.get? a=some _ from x)
 |ext φ=>obtain⟨_,⟨_,e⟩,_⟩:=x;exact aC e
theorem Paired.mapP{α β:Type}{F G:α->β->Prop}:∀{l₁:List α} {l₂:List β},Paired F l₁ l₂->(∀a b,F a b->G a b)->Paired G l₁ l₂
 |_,_,.nil,_=> .nil
 |_,_,.cons r t,f=> .cons (f _ _ r) (Paired.mapP t f)
theorem ObjOk.stay(x:ObjOk P w H h a o)(k:∀b u,(b=a\/H b=some (.own a))->h.get? b=some u->h'.get? b=some u)
  (ho:∀b,H b=some (.own a)->H' b=some (.own a)) (ht:∀b xs,H b=some (.tup xs)->H' b=some (.tup xs)):ObjOk P w H' h' a o:=by
 induction o with
 |lst xs=>obtain⟨z,its,n,r,e⟩:=x;exact⟨z,its,n,r,k _ _ (.inl rfl) e⟩
 |tup xs=>obtain⟨z,its,r,ob,e,c⟩:=x;exact⟨z,its,r,ob,k _ _ (.inl rfl) e,c⟩
 |dK kvs=>obtain⟨z,y,vs,r,ob,es,ep,e,c⟩:=x;exact⟨z,y,vs,r,ob,es,ep,k _ _ (.inl rfl) e,c⟩
 |dT kvs=>
  obtain⟨z,y,xs,r,ob,es,ep,e,c⟩:=x
  exact⟨z,y,xs,Paired.mapP r λp q z=>⟨z.1,ht _ _ z.2.1,z.2.2⟩,ob,es,ep,k _ _ (.inl rfl) e,c⟩
 |set S n=>obtain⟨ob,es,ep,t,e,c⟩:=x;exact⟨ob,es,ep,t,k _ _ (.inl rfl) e,c⟩
 |ins C dx fs=>
  obtain⟨d,z,ne,e,mA,⟨od,es,ep,e2,c⟩,r⟩:=x
  exact⟨ho _ d,z,ne,k _ _ (.inl rfl) e,mA,⟨od,es,ep,k _ _ (.inr d) e2,c⟩,r⟩
 |own y=>obtain⟨ob,e⟩:=x;exact⟨ob,k _ _ (.inl rfl) e⟩
 |xd fs=>obtain⟨mA,⟨od,es,ep,e,c⟩,r⟩:=x;exact⟨mA,⟨od,es,ep,k _ _ (.inl rfl) e,c⟩,r⟩
 |rng lo hi=>obtain⟨t,u,v,e⟩:=x;exact⟨t,u,v,k _ _ (.inl rfl) e⟩
 |frz ob u ih=>obtain⟨e,q⟩:=x;exact⟨k _ _ (.inl rfl) e,ih q⟩
 |tbl ps=>
  have e:h.get? a=some {cls:= .none,data:= .fields ps}:=x
  show h'.get? a=some {cls:= .none,data:= .fields ps}
  exact k a _ (.inl rfl) e
 |met f y=>
  have e:h.get? a=some (PySem.W.methodObj (.ref f) (.ref y)):=x
  show h'.get? a=some (PySem.W.methodObj (.ref f) (.ref y))
  exact k a _ (.inl rfl) e
 |ext φ=>obtain⟨p,⟨o,e⟩,st⟩:=x;exact⟨st _ _ p λo q=>k _ _ (.inl rfl) q,⟨o,k _ _ (.inl rfl) e⟩,st⟩
theorem HOk.lt(x:HOk P w H h)(e:H a=some o):a<h.objs.size:=(x a o e).lt
theorem HOk.fresh(x:HOk P w H h)(e:h.objs.size<=a):H a=none:=by
 cases q:H a with
 |none=>rfl
 |some u=>exact absurd (ba (x.lt q) e) (cU _)
theorem HOk.kept(x:HOk P w H h)(k:∀b u,h.get? b=some u->h'.get? b=some u):HOk P w H h':=λa o e=>
 (x a o e).stay (λb u _ q=>k b u q) (λ_ q=>q) λ_ _ q=>q
theorem HOk.laid(x:HOk P w H h)(k:∀b u,h.get? b=some u->h'.get? b=some u)(hp:h.objs.size<=a)(new:ObjOk P w (upd H a o) h' a o):HOk P w (upd H a o) h':=λb u e=>by
 have hn:=x.fresh hp
 by_cases hb:b=a
 ·subst hb;rw[cr]at e;cases e;exact new
 ·rw[br hb]at e
  exact(x b u e).stay (λc v _ q=>k c v q) (λc q=>by rw[br (cq q hn)];exact q) λc xs q=>by rw[br (cq q hn)];exact q
end
noncomputable def Rd(H:Hp)(a:Addr)(u:HO):Prop:=H a=some u\/∃o,H a=some (.frz o u)
theorem Rd.ok{P:aI}{w:aY}{H:Hp}{h:Heap}{a:Addr}{u:HO}(r:Rd H a u)(x:HOk P w H h):ObjOk P w H h a u:=by
 rcases r with r|⟨o,r⟩
 ·exact x a u r
 ·obtain⟨_,q⟩:=x a _ r
  exact q
noncomputable def NM:Option HO->Prop
 |some (.lst _)=>True
 |some (.dK _)=>True
 |some (.dT _)=>True
 |some (.set _ _)=>True
 |some (.ins _ _ _)=>True
 |some (.ext _)=>True
 |_=>False
section
variable{P:aI}{w:aY}{H:Hp}{h h':Heap}{x e:Addr}{o':HO}
theorem HOk.write(ok:HOk P w H h)(mu:NM (H x))(he:e=x\/H e=some (.own x))(k:∀b u,b≠e->h.get? b=some u->h'.get? b=some u)(heo:∃u,h'.get? e=some u)
  (new:ObjOk P w (upd H x o') h' x o'):HOk P w (upd H x o') h':=λb u q=>by
 have nown:∀c y,H c=some (.own y)->c≠x:=λc y r z=>by subst z;rw[r]at mu;exact mu
 have ntup:∀c xs,H c=some (.tup xs)->c≠x:=λc xs r z=>by subst z;rw[r]at mu;exact mu
 by_cases hb:b=x
 ·subst hb;rw[cr]at q;cases q;exact new
 ·rw[br hb]at q
  by_cases hbe:b=e
  ·have q':H b=some (.own x):=by
    rcases he with z|z
    ·exact absurd (hbe.trans z) hb
    ·rw[hbe];exact z
   rw[q]at q';cases q'
   obtain⟨v,hv⟩:=heo
   exact⟨v,by rw[hbe];exact hv⟩
  ·refine(ok b u q).stay (λc v hc r=>k c v ?_ r) (λc r=>by rw[br (nown c b r)];exact r) λc xs r=>by rw[br (ntup c xs r)];exact r
   rcases hc with rfl|hc
   ·exact hbe
   ·rintro rfl
    rcases he with z|z
    ·exact nown c b hc z
    ·rw[hc]at z;cases z;exact hb rfl
end
structure Un(fs ex:List Addr)(H H':Hp)(h h':Heap):Prop where
 keep:∀b o,h.get? b=some o->H b=none->b∉fs->b∉ex->h'.get? b=some o
 slot:∀b o,h.get? b=some o->H b=none->b∈fs->b∉ex->∃sl,h'.get? b=some {o with slots:=sl}
 free:∀b o,h.get? b=some o->H b=none->b∉ex->H' b=none
 there:∀b o,h.get? b=some o->b∉ex->∃o',h'.get? b=some o'
 tups:∀b xs,H b=some (.tup xs)->H' b=some (.tup xs)
 frzs:∀b o u,H b=some (.frz o u)->H' b=some (.frz o u)
 tbls:∀b ps,H b=some (.tbl ps)->∃more,H' b=some (.tbl (ps++more))
section
variable{fs ex:List Addr}{H H1:Hp}{h h1 h':Heap}{a x e:Addr}{o:HO}
theorem Un.any(u:Un fs ex H H1 h h1){b:Addr}{ob:Obj}(q:h.get? b=some ob)(n:H b=none)(hx:b∉ex):∃sl,h1.get? b=some {ob with slots:=sl}:=by
 by_cases hb:b∈fs
 ·exact u.slot b ob q n hb hx
 ·exact⟨ob.slots,u.keep b ob q n hb hx⟩
theorem Un.kept(k:∀b u,h.get? b=some u->h'.get? b=some u):Un fs ex H H h h':=
 ⟨λb ob q _ _ _=>k b ob q,λb ob q _ _ _=>⟨ob.slots,k b ob q⟩,λ_ _ _ n _=>n,λb ob q _=>⟨ob,k b ob q⟩,λ_ _ q=>q,λ_ _ _ q=>q,λ_ ps q=>⟨#[],by rw[q];simp⟩⟩
theorem Un.refl:Un fs ex H H h h:=Un.kept λ_ _ q=>q
theorem Un.laid(k:∀b u,h.get? b=some u->h'.get? b=some u)(hp:h.objs.size<=a)(hn:H a=none):Un fs ex H (upd H a o) h h' where
 keep:=λb u q _ _ _=>k b u q
 slot:=λb u q _ _ _=>⟨u.slots,k b u q⟩
 free:=λb u q n _=>by rw[br (aU (ba (aC q) hp))];exact n
 there:=λb u q _=>⟨u,k b u q⟩
 tups:=λb xs q=>by rw[br (cq q hn)];exact q
 frzs:=λb u xs q=>by rw[br (cq q hn)];exact q
 tbls:=λb ps q=>⟨#[],by rw[br (cq q hn),q];simp⟩
theorem Un.write(mu:NM (H x))(he:e=x\/H e=some (.own x))(k:∀b u,b≠e->h.get? b=some u->h'.get? b=some u)(heo:∃u,h'.get? e=some u):Un fs ex H (upd H x o) h h':=by
 have hx:∀b,H b=none->b≠x:=λb n z=>by subst z;rw[n]at mu;exact mu
 have hb:∀b,H b=none->b≠e:=λb n z=>by
  subst z
  rcases he with r|r
  ·exact hx b n r
  ·rw[n]at r;cases r
 have hm:∀b u,H b=some u->¬NM (some u)->b≠x:=λb u q nm z=>by subst z;rw[q]at mu;exact nm mu
 refine⟨λb u q n _ _=>k b u (hb b n) q,λb u q n _ _=>⟨u.slots,k b u (hb b n) q⟩,λb u q n _=>by rw[br (hx b n)];exact n,λb u q _=> ?_,
  λb xs q=>by rw[br (hm b _ q λz=>z)];exact q,λb u xs q=>by rw[br (hm b _ q λz=>z)];exact q,λb ps q=>⟨#[],by rw[br (hm b _ q λz=>z),q];simp⟩⟩
 by_cases hbe:b=e
 ·subst hbe;exact heo
 ·exact⟨u,k b u hbe q⟩
end
noncomputable def NQ(h:Heap)(H:Hp):List Addr:=(cV h.objs.size).filter λa=>(H a).isSome
noncomputable def uf(h:Heap)(H:Hp):Heap:=PySem.W.hideAll h (NQ h H)
theorem AW(h:Heap)(H:Hp):(uf h H).objs.size=h.objs.size:=PySem.W.hideAll_size _ _
theorem DJ{h:Heap}{H:Hp}{b:Addr}{o:Obj}(e:h.get? b=some o)(n:H b=none):(uf h H).get? b=some o:=
 PySem.W.hideAll_get _ e λhm=>by
  have q:(H b).isSome=true:=(cL.mp hm).2
  rw[n]at q;simp at q
theorem FE{h:Heap}{H:Hp}{b:Addr}{o:Obj}(e:(uf h H).get? b=some o):h.get? b=some o/\H b=none:=by
 have e':h.get? b=some o:=PySem.W.of_hideAll (NQ h H) e
 refine⟨e',?_⟩
 cases q:H b with
 |none=>rfl
 |some x=>
  have hm:b∈NQ h H:=cL.mpr ⟨lW.mpr (aC e'),by simp[q]⟩
  have z:(uf h H).get? b=none:=PySem.W.hideAll_none (NQ h H) hm
  rw[z]at e;cases e
structure Mod(K:PySem.W.Frag)(mg:Str->Option ae)(base:Heap):Prop where
 kin:K.In base
 glob:base.Ns bx mg
 blt:∃mb,base.Ns builtinsNs mb/\∀x:Str,x≠ "__name__" ->mb x=bY x
 nolimit:base.NoLimit
structure Cx where
 prog:aI
 w:aY
 K:PySem.W.Frag
 mg:Str->Option ae
 base:Heap
 A:Around
 N:List Str
 s₀:ai
 H₀:Hp
 env:Env
 outer:List Env
 stack:List Env
 ex:List Addr
 fn:Str->Bool
 calm:Bool
 pn:List (Addr×Obj)
 xe:ae->ai->Prop
noncomputable def kH(l:List Env):List Addr:=l.filterMap (·.frame)
noncomputable abbrev Cx.fs(X:Cx):List Addr:=kH X.outer
noncomputable def NX(sc:e8)(x:Str):Prop:=sc.names.lookup x=some .local\/sc.names.lookup x=some .cell\/sc.names.lookup x=some .free
noncomputable def zS(sc:e8)(x:Str):Prop:=sc.names.lookup x=some .local\/sc.names.lookup x=some .cell
noncomputable def O1(env:Env)(h:Heap)(m:Str->Option ae)(x:Str)(u:ae):Prop:=
 (env.kindOf x=some .local/\m x=some u)\/((env.kindOf x=some .cell\/env.kindOf x=some .free)/\∃c,env.cells.lookup x=some c/\h.IsCell c (some u))
structure Cx.Ok(X:Cx):Prop where
 mod:Mod X.K X.mg X.base
 kind:X.env.scope.kind= .function
 glob:X.env.globals=bx
 blt:X.env.builtins=builtinsNs
 above:X.s₀.heap.objs.size<=X.env.locals
 inj:∀x y c,X.env.cells.lookup x=some c->X.env.cells.lookup y=some c->x=y
 has:∀x,(X.env.kindOf x=some .cell\/X.env.kindOf x=some .free)->∃c,X.env.cells.lookup x=some c
 cab:∀x c,X.fn x=true->X.env.cells.lookup x=some c->X.s₀.heap.objs.size<=c
 hd:X.calm=true->X.A.handled=none
 frames:X.A.frames=some X.stack
 stk:X.stack=X.outer\/(X.stack=X.env::X.outer/\X.env.frame=some X.env.locals)
 exf:∀b∈X.ex,b≠X.env.locals/\∀x c,X.env.cells.lookup x=some c->c≠b
 bs:∀b o,X.base.get? b=some o->X.s₀.heap.get? b=some o/\X.H₀ b=none
 bsz:X.base.objs.size<=X.s₀.heap.objs.size
 noex:∀b o,X.base.get? b=some o->b∉X.ex
 exfs:∀b∈X.ex,b∉X.fs
 funs:X.s₀.heap.FunFrames X.base X.outer
 frf:∀b∈X.fs,X.H₀ b=none
structure Inv(X:Cx)(pins:List (Addr×Obj))(σ:List (Option V))(H:Hp)(s:ai):Prop where
 ok:X.Ok
 os:s.os=X.s₀.os
 bare:kR s.gens
 base:Un X.fs X.ex X.H₀ H X.s₀.heap s.heap
 loc:∃m,s.heap.Ns X.env.locals m/\∀(i:Nat) (x:Str) (v:V),X.N[i]? =some x->σ[i]? =some (some v)->NX X.env.scope x->∃u,RelV v u/\O1 X.env s.heap m x u
 cell:∀x c,X.env.cells.lookup x=some c->∃v,s.heap.IsCell c v
 free:H X.env.locals=none
 freeC:∀x c,X.env.cells.lookup x=some c->H c=none
 pin:∀p∈X.pn++pins,s.heap.get? p.1=some p.2/\H p.1=none/\p.1≠X.env.locals/\p.1∉X.fs/\∀v,p.2.data≠ .cell v
 hok:HOk X.prog X.w H s.heap
 len:σ.length=X.N.length
section
variable{X:Cx}{pins:List (Addr×Obj)}{σ:List (Option V)}{H H':Hp}{s:ai}{h':Heap}
theorem Cx.Ok.nofr(ok:X.Ok){b:Addr}{o:Obj}(e:X.base.get? b=some o):b∉X.fs:=λhb=>by
 have:=(ok.funs.mem hb).1
 rw[e]at this;cases this
theorem Inv.bs(I:Inv X pins σ H s):∀b o,X.base.get? b=some o->s.heap.get? b=some o/\H b=none:=λb o e=>
 ⟨I.base.keep b o (I.ok.bs b o e).1 (I.ok.bs b o e).2 (I.ok.nofr e) (I.ok.noex b o e),I.base.free b o (I.ok.bs b o e).1 (I.ok.bs b o e).2 (I.ok.noex b o e)⟩
theorem Inv.bk(I:Inv X pins σ H s):∀b o,X.base.get? b=some o->s.heap.get? b=some o:=λb o e=>(I.bs b o e).1
theorem Inv.mod(I:Inv X pins σ H s):Mod X.K X.mg X.base:=I.ok.mod
theorem Inv.kIn(I:Inv X pins σ H s):X.K.In s.heap:=I.ok.mod.kin.keeps I.bk
theorem Inv.fr(I:Inv X pins σ H s):∃m,Fr X.base X.env.locals s.heap m:=
 let⟨m,hn,_⟩:=I.loc
 ⟨m,hn,I.bk,aO I.ok.bsz I.ok.above⟩
theorem Inv.lt(I:Inv X pins σ H s):X.env.locals<s.heap.objs.size:=let⟨_,hn,_⟩:=I.loc;hn.lt
theorem Inv.sz(I:Inv X pins σ H s):X.s₀.heap.objs.size<=s.heap.objs.size:=aO I.ok.above (gh I.lt)
theorem Inv.nofs(I:Inv X pins σ H s){a:Addr}(h:s.heap.objs.size<=a):a∉X.fs:=λhb=>by
 obtain⟨_,o,ho,_⟩:=I.ok.funs.mem hb
 exact absurd (ba (aC ho) (aO I.sz h)) (cU _)
theorem Inv.cne(I:Inv X pins σ H s):∀x c,X.env.cells.lookup x=some c->c≠X.env.locals:=λx c e z=>by
 obtain⟨v,o,ho,hd⟩:=I.cell x c e
 obtain⟨m,⟨o',es,ep,ho',hd',_⟩,_⟩:=I.loc
 rw[z,ho']at ho;cases ho;rw[hd']at hd;cases hd
theorem Inv.funs(I:Inv X pins σ H s):s.heap.FunFrames X.base X.outer:=by
 have all:∀(l:List Env),(∀b∈kH l,b∈X.fs)->X.s₀.heap.FunFrames X.base l->s.heap.FunFrames X.base l:=by
  intro l
  induction l with
  |nil=>intro _ _;trivial
  |cons env r ih=>
   intro hs hl
   obtain⟨hk,⟨L,o,hf,hn,ho,hd⟩,hr⟩:=hl
   have hL:L∈X.fs:=hs L (by unfold kH;rw[dP,hf];exact gK)
   obtain⟨sl,e⟩:=I.base.slot L o ho (I.ok.frf L hL) hL λz=>I.ok.exfs L z hL
   exact⟨hk,⟨L,_,hf,hn,e,hd⟩,ih (λb hb=>hs b (by unfold kH;rw[dP,hf];exact bH _ hb)) hr⟩
 exact all X.outer (λ_ hb=>hb) I.ok.funs
theorem Inv.stack(I:Inv X pins σ H s):s.heap.FunFrames X.base X.stack:=by
 rcases I.ok.stk with e|⟨e,hf⟩
 ·rw[e];exact I.funs
 ·rw[e]
  obtain⟨m,hn,_⟩:=I.loc
  refine .cons (by rw[I.ok.kind];decide) hf hn ?_ I.funs
  exact Heap.get?_none_of_le (aO I.ok.bsz I.ok.above)
theorem Inv.stkSub(I:Inv X pins σ H s):∀b∈kH X.stack,b∈X.env.locals::X.fs:=λb hb=>by
 rcases I.ok.stk with e|⟨e,hf⟩
 ·rw[e]at hb;exact bH _ hb
 ·rw[e]at hb
  unfold kH at hb
  rw[dP,hf]at hb
  exact hb
theorem Inv.stkFree(I:Inv X pins σ H s):∀b∈kH X.stack,H b=none:=λb hb=>by
 rcases aD.mp (I.stkSub b hb)with e|hb
 ·rw[e];exact I.free
 ·obtain⟨_,o,ho,_⟩:=I.ok.funs.mem hb
  exact I.base.free b o ho (I.ok.frf b hb) λz=>I.ok.exfs b z hb
theorem Inv.step{g':Array GenState}{t':Nat}{d':Drawn}{ch:List Addr}(I:Inv X pins σ H s)
  (hch:∀b∈ch,(b∈X.ex\/X.s₀.heap.objs.size<=b)/\b≠X.env.locals/\(∀x c,X.env.cells.lookup x=some c->c≠b)/\∀p∈X.pn++pins,p.1≠b)
  (keep:∀b o,b≠X.env.locals->b∉X.fs->b∉ch->s.heap.get? b=some o->H b=none->h'.get? b=some o)
  (slot:∀b o,b≠X.env.locals->b∈X.fs->b∉ch->s.heap.get? b=some o->H b=none->∃sl,h'.get? b=some {o with slots:=sl}) (free:∀b o,b∉ch->s.heap.get? b=some o->H b=none->H' b=none)
  (there:∀b o,b∉ch->s.heap.get? b=some o->∃o',h'.get? b=some o')
  (tups:∀b xs,H b=some (.tup xs)->H' b=some (.tup xs)) (frzs:∀b o u,H b=some (.frz o u)->H' b=some (.frz o u)) (tbls:∀b ps,H b=some (.tbl ps)->∃more,H' b=some (.tbl (ps++more)))
  (ns:∀m,s.heap.Ns X.env.locals m->h'.Ns X.env.locals m) (hok:HOk X.prog X.w H' h') (hg:kR g'):
  Inv X pins σ H' {s with heap:=h',gens:=g',drawn:=d',toks:=t'}:=by
 have neL:∀b o,X.s₀.heap.get? b=some o->b≠X.env.locals:=λb o e=>aU (ba (aC e) I.ok.above)
 have neC:∀b o,X.s₀.heap.get? b=some o->b∉X.ex->b∉ch:=λb o e hx hb=>by
  rcases(hch b hb).1 with z|z
  ·exact hx z
  ·exact absurd (ba (aC e) z) (cU _)
 have cellK:∀x c,X.env.cells.lookup x=some c->∀v,s.heap.IsCell c v->h'.IsCell c v:=λx c e v hPl=>by
  obtain⟨o,ho,hd⟩:=hPl
  have nch:c∉ch:=λz=>(hch c z).2.2.1 x c e rfl
  by_cases hc:c∈X.fs
  ·obtain⟨sl,q⟩:=slot c o (I.cne x c e) hc nch ho (I.freeC x c e)
   exact⟨_,q,hd⟩
  ·exact⟨o,keep c o (I.cne x c e) hc nch ho (I.freeC x c e),hd⟩
 refine⟨I.ok,I.os,hg,⟨λb o e n hb hx=> ?_,λb o e n hb hx=> ?_,λb o e n hx=> ?_,λb o e hx=> ?_,λb xs e=>tups b xs (I.base.tups b xs e),λb o xs e=>frzs b o xs (I.base.frzs b o xs e),λb ps e=> ?_⟩,?_,λx c e=> ?_,?_,λx c e=> ?_,λp hp=> ?_,hok,I.len⟩
 ·exact keep b o (neL b o e) hb (neC b o e hx) (I.base.keep b o e n hb hx) (I.base.free b o e n hx)
 ·obtain⟨sl,e1⟩:=I.base.slot b o e n hb hx
  obtain⟨sl',e2⟩:=slot b _ (neL b o e) hb (neC b o e hx) e1 (I.base.free b o e n hx)
  exact⟨sl',e2⟩
 ·obtain⟨o',e1⟩:=I.base.there b o e hx
  exact free b o' (neC b o e hx) e1 (I.base.free b o e n hx)
 ·obtain⟨o',e1⟩:=I.base.there b o e hx
  exact there b o' (neC b o e hx) e1
 ·obtain⟨m1,e1⟩:=I.base.tbls b ps e
  obtain⟨m2,e2⟩:=tbls b _ e1
  exact⟨m1++m2,by rw[e2,Array.append_assoc]⟩
 ·obtain⟨m,hn,hl⟩:=I.loc
  refine⟨m,ns m hn,λi x v e1 e2 e3=> ?_⟩
  obtain⟨u,r,l⟩:=hl i x v e1 e2 e3
  refine⟨u,r,?_⟩
  rcases l with l|⟨k,c,e,z⟩
  ·exact .inl l
  ·exact .inr ⟨k,c,e,cellK x c e _ z⟩
 ·obtain⟨v,z⟩:=I.cell x c e
  exact⟨v,cellK x c e v z⟩
 ·obtain⟨m,⟨o,_,_,ho,_⟩,_⟩:=I.loc
  exact free _ o (λz=>(hch _ z).2.1 rfl) ho I.free
 ·obtain⟨v,o,ho,hd⟩:=I.cell x c e
  exact free c o (λz=>(hch c z).2.2.1 x c e rfl) ho (I.freeC x c e)
 ·obtain⟨e,n,ne,nf,d⟩:=I.pin p hp
  have nch:p.1∉ch:=λz=>(hch p.1 z).2.2.2 p hp rfl
  exact⟨keep p.1 p.2 ne nf nch e n,free p.1 p.2 nch e n,ne,nf,d⟩
theorem Inv.un{t':Nat}(I:Inv X pins σ H s)(u:Un X.fs [] H H' s.heap h')(hok:HOk X.prog X.w H' h'):Inv X pins σ H' {s with heap:=h',toks:=t'}:=by
 obtain⟨m,⟨o,es,ep,ho,r⟩,_⟩:=id I.loc
 obtain⟨sl,hL⟩:=u.any ho I.free (by simp)
 exact I.step (g':=s.gens) (d':=s.drawn) (ch:=[]) (λ_ z=>nomatch z) (λb o _ hb _ e n=>u.keep b o e n hb (by simp)) (λb o _ hb _ e n=>u.slot b o e n hb (by simp)) (λb o _ e n=>u.free b o e n (by simp)) (λb o _ e=>u.there b o e (by simp)) u.tups u.frzs u.tbls (λm' hm=>by
  obtain⟨o',es',ep',ho',r'⟩:=hm
  rw[ho]at ho';cases ho'
  exact⟨_,es',ep',hL,r'⟩) hok I.bare
theorem Inv.call{g':Array GenState}{t':Nat}{d':Drawn}{ch:List Addr}(I:Inv X pins σ H s)(u:Un (kH X.stack) ch H H' s.heap h')(hok:HOk X.prog X.w H' h')(hg:kR g')
  (hch:∀b∈ch,(b∈X.ex\/X.s₀.heap.objs.size<=b)/\b≠X.env.locals/\(∀x c,X.env.cells.lookup x=some c->c≠b)/\∀p∈X.pn++pins,p.1≠b):
  Inv X pins σ H' {s with heap:=h',gens:=g',drawn:=d',toks:=t'}:=by
 obtain⟨m,⟨o,es,ep,ho,r⟩,_⟩:=id I.loc
 obtain⟨sl,hL⟩:=u.any ho I.free λz=>(hch _ z).2.1 rfl
 exact I.step (ch:=ch) hch (λb o hL hb hc e n=>u.keep b o e n (λz=>(aD.mp (I.stkSub b z)).elim hL hb) hc) (λb o _ _ hc e n=>u.any e n hc) (λb o hc e n=>u.free b o e n hc) (λb o hc e=>u.there b o e hc) u.tups u.frzs u.tbls (λm' hm=>by
  obtain⟨o',es',ep',ho',r'⟩:=hm
  rw[ho]at ho';cases ho'
  exact⟨_,es',ep',hL,r'⟩) hok hg
theorem Inv.turned{t':Nat}{it:Addr}(I:Inv X pins σ H s)(k:∀b o,b≠it->s.heap.get? b=some o->h'.get? b=some o)(hn:H it=none)(hL:it≠X.env.locals)
  (h1:it∈X.ex\/X.s₀.heap.objs.size<=it) (h2:∀x c,X.env.cells.lookup x=some c->c≠it) (h3:∀p∈X.pn++pins,p.1≠it):Inv X pins σ H {s with heap:=h',toks:=t'}:=by
 have nit:∀b u,H b=some u->b≠it:=λb u e z=>by rw[z,hn]at e;cases e
 refine I.step (g':=s.gens) (d':=s.drawn) (ch:=[it]) (λb hb=> ?_) (λb o _ _ hc e _=>k b o (λz=>hc (by simp[z])) e) (λb o _ _ hc e _=>⟨o.slots,k b o (λz=>hc (by simp[z])) e⟩) (λ_ _ _ _ n=>n)
  (λb o hc e=>⟨o,k b o (λz=>hc (by simp[z])) e⟩) (λ_ _ e=>e) (λ_ _ _ e=>e) (λb ps e=>⟨#[],by rw[e];simp⟩) (λm hm=> ?_) (λb u e=> ?_) I.bare
 ·have e:b=it:=by simpa using hb
  subst e
  exact⟨h1,hL,h2,h3⟩
 ·obtain⟨o,es,ep,ho,r⟩:=hm
  exact⟨o,es,ep,k _ o (aG hL) ho,r⟩
 ·refine(I.hok b u e).stay (λc v hc q=>k c v ?_ q) (λ_ q=>q) λ_ _ q=>q
  rcases hc with z|z
  ·rw[z];exact nit b u e
  ·exact nit c _ z
theorem Inv.tok(I:Inv X pins σ H s)(t:Nat):Inv X pins σ H {s with toks:=t}:=I.un (h':=s.heap) (t':=t) Un.refl I.hok
theorem Inv.kept{t':Nat}(I:Inv X pins σ H s)(k:∀b u,s.heap.get? b=some u->h'.get? b=some u):Inv X pins σ H {s with heap:=h',toks:=t'}:=I.un (Un.kept k) (I.hok.kept k)
theorem Inv.laid{a:Addr}{o:HO}{t':Nat}(I:Inv X pins σ H s)(k:∀b u,s.heap.get? b=some u->h'.get? b=some u)(hp:s.heap.objs.size<=a)(new:ObjOk X.prog X.w (upd H a o) h' a o):
  Inv X pins σ (upd H a o) {s with heap:=h',toks:=t'}:=I.un (Un.laid k hp (I.hok.fresh hp)) (I.hok.laid k hp new)
theorem Inv.write{x e:Addr}{o:HO}{t':Nat}(I:Inv X pins σ H s)(mu:NM (H x))(he:e=x\/H e=some (.own x))(k:∀b u,b≠e->s.heap.get? b=some u->h'.get? b=some u)(heo:∃u,h'.get? e=some u)
  (new:ObjOk X.prog X.w (upd H x o) h' x o):Inv X pins σ (upd H x o) {s with heap:=h',toks:=t'}:=I.un (Un.write mu he k heo) (I.hok.write mu he k heo new)
theorem Inv.weak{σ':List (Option V)}(I:Inv X pins σ H s)(hl:σ'.length=σ.length)(w:∀(i:Nat) v,σ'[i]? =some (some v)->σ[i]? =some (some v)):Inv X pins σ' H s:=
 ⟨I.ok,I.os,I.bare,I.base,let⟨m,hn,hl'⟩:=I.loc;⟨m,hn,λi x v e1 e2 e3=>hl' i x v e1 (w i v e2) e3⟩,I.cell,I.free,I.freeC,I.pin,I.hok,hl.trans I.len⟩
theorem Inv.pins_of{pins':List (Addr×Obj)}(I:Inv X pins σ H s)(h:∀p∈pins',s.heap.get? p.1=some p.2/\H p.1=none/\p.1≠X.env.locals/\p.1∉X.fs/\∀v,p.2.data≠ .cell v):Inv X pins' σ H s:=
 ⟨I.ok,I.os,I.bare,I.base,I.loc,I.cell,I.free,I.freeC,λp hp=>(aR.mp hp).elim (λz=>I.pin p (lX _ z)) (h p),I.hok,I.len⟩
theorem qC{N:List Str}(hN:N.Nodup){i j:Nat}{x:Str}(a:N[i]? =some x)(b:N[j]? =some x):i=j:=by
 obtain⟨h1,e1⟩:=am.mp a
 obtain⟨h2,e2⟩:=am.mp b
 exact(List.getElem_inj hN).mp (e1.trans e2.symm)
theorem z0{M:Model}{A:Around}{E:ae->ai->Prop}{i:Nat}{x:Str}{v:V}{u:ae}{Q:Unit->ai->Prop}(I:Inv X pins σ H s)(hN:X.N.Nodup)(hi:X.N[i]? =some x)(hx:zS X.env.scope x)(r:RelV v u)
  (h:∀s',Inv X pins (σ.set i (some v)) H s'->(∃a,dW a s.heap s'.heap/\(a=X.env.locals\/X.env.cells.lookup x=some a))->Q () s') (hf:X.fn x=true\/X.env.scope.names.lookup x=some .local:=by first|exact .inl rfl|exact .inr rfl|assumption):wpAny M A (storeName X.env x u) Q E s:=by
 obtain⟨m,hn,hl⟩:=id I.loc
 have hcls:(X.env.scope.kind== .class||(X.env.scope.kind== .module&&X.env.locals !=X.env.globals))=false:=by rw[I.ok.kind];rfl
 have hiσ:i<σ.length:=by rw[I.len];exact(am.mp hi).1
 have cne:=I.cne
 have tracked:∀{a:Addr} {h':Heap},(∃o,s.heap.get? a=some o/\H a=none)->dW a s.heap h'->HOk X.prog X.w H h':=fun{a h'} ha hs b ob e=>by
  obtain⟨_,_,hfree⟩:=ha
  refine(I.hok b ob e).stay (λc w' hc q=>(hs.2 c ?_).trans q) (λ_ q=>q) λ_ _ q=>q
  rintro rfl
  rcases hc with rfl|hc
  ·rw[hfree]at e;cases e
  ·rw[hfree]at hc;cases hc
 rcases hx with hk|hk
 ·refine wpAny_storeName_local hk hn (λh' hn' hs=> ?_) hcls
  obtain⟨oL,_,_,hoL,_⟩:=id hn
  refine h _ ⟨I.ok,I.os,I.bare,⟨λb o e n hb hx=> ?_,λb o e n hb hx=> ?_,I.base.free,λb o e hx=> ?_,I.base.tups,I.base.frzs,I.base.tbls⟩,⟨_,hn',λj y v' e1 e2 e3=> ?_⟩,λy c e=> ?_,I.free,I.freeC,λp hp=> ?_,tracked ⟨oL,hoL,I.free⟩ hs,by simpa using I.len⟩ ⟨_,hs,.inl rfl⟩
  ·exact(hs.2 b (aU (ba (aC e) I.ok.above))).trans (I.base.keep b o e n hb hx)
  ·obtain⟨sl,e1⟩:=I.base.slot b o e n hb hx
   exact⟨sl,(hs.2 b (aU (ba (aC e) I.ok.above))).trans e1⟩
  ·obtain⟨o',e1⟩:=I.base.there b o e hx
   exact⟨o',(hs.2 b (aU (ba (aC e) I.ok.above))).trans e1⟩
  ·by_cases hj:j=i
   ·subst hj
    rw[hi]at e1;cases e1
    rw[cE hiσ]at e2
    cases e2
    exact⟨u,r,.inl ⟨hk,by simp⟩⟩
   ·rw[cf (aG hj)]at e2
    obtain⟨u',r',q⟩:=hl j y v' e1 e2 e3
    refine⟨u',r',?_⟩
    rcases q with⟨k,e⟩|⟨k,c,e,z⟩
    ·refine .inl ⟨k,?_⟩
     have:y≠x:=λe=>hj (qC hN e1 (e▸hi))
     simp[this,e]
    ·exact .inr ⟨k,c,e,z.sameBut hs (cne y c e)⟩
  ·obtain⟨w',z⟩:=I.cell y c e
   exact⟨w',z.sameBut hs (cne y c e)⟩
  ·obtain⟨e,n,ne,nf,d⟩:=I.pin p hp
   exact⟨(hs.2 p.1 ne).trans e,n,ne,nf,d⟩
 ·have hfn:X.fn x=true:=by
   rcases hf with z|z
   ·exact z
   ·rw[z]at hk;cases hk
  obtain⟨c,hc⟩:=I.ok.has x (.inl hk)
  obtain⟨w',z⟩:=I.cell x c hc
  refine wpAny_storeName_cell I.ok.kind hk hc z (λh' hc' hs=> ?_)
  obtain⟨oc,hoc,hocd⟩:=id z
  refine h {s with heap:=h'} ⟨I.ok,I.os,I.bare,⟨λb o e n hb hx=> ?_,λb o e n hb hx=> ?_,I.base.free,λb o e hx=> ?_,I.base.tups,I.base.frzs,I.base.tbls⟩,⟨m,hn.sameBut hs (aG (cne x c hc)),λj y v' e1 e2 e3=> ?_⟩,λy c' e=> ?_,I.free,I.freeC,λp hp=> ?_,tracked ⟨oc,hoc,I.freeC x c hc⟩ hs,by simpa using I.len⟩ ⟨c,hs,.inr hc⟩
  ·exact(hs.2 b (aU (ba (aC e) (I.ok.cab x c hfn hc)))).trans (I.base.keep b o e n hb hx)
  ·obtain⟨sl,e1⟩:=I.base.slot b o e n hb hx
   exact⟨sl,(hs.2 b (aU (ba (aC e) (I.ok.cab x c hfn hc)))).trans e1⟩
  ·obtain⟨o',e1⟩:=I.base.there b o e hx
   exact⟨o',(hs.2 b (aU (ba (aC e) (I.ok.cab x c hfn hc)))).trans e1⟩
  ·by_cases hj:j=i
   ·subst hj
    rw[hi]at e1;cases e1
    rw[cE hiσ]at e2
    cases e2
    exact⟨u,r,.inr ⟨.inl hk,c,hc,hc'⟩⟩
   ·rw[cf (aG hj)]at e2
    obtain⟨u',r',q⟩:=hl j y v' e1 e2 e3
    refine⟨u',r',?_⟩
    rcases q with q|⟨k,c',e,z'⟩
    ·exact .inl q
    ·refine .inr ⟨k,c',e,z'.sameBut hs ?_⟩
     rintro rfl
     exact hj (qC hN e1 (I.ok.inj _ _ _ e hc▸hi))
  ·by_cases hcc:c'=c
   ·subst hcc;exact⟨_,hc'⟩
   ·obtain⟨w2,z2⟩:=I.cell y c' e
    exact⟨w2,z2.sameBut hs hcc⟩
  ·obtain⟨e,n,ne,nf,d⟩:=I.pin p hp
   refine⟨(hs.2 p.1 ?_).trans e,n,ne,nf,d⟩
   intro q
   rw[q,hoc]at e
   have q':oc=p.2:=a8 e
   exact d w' (by rw[<-q'];exact hocd)
theorem kc{M:Model}{A:Around}{E:ae->ai->Prop}{i:Nat}{x:Str}{v:V}{u:ae}{Q:Unit->ai->Prop}(I:Inv X pins σ H s)(hN:X.N.Nodup)(hi:X.N[i]? =some x)(hx:zS X.env.scope x)(r:RelV v u)
  (h:∀s',Inv X pins (σ.set i (some v)) H s'->Q () s') (hf:X.fn x=true\/X.env.scope.names.lookup x=some .local:=by first|exact .inl rfl|exact .inr rfl|assumption):wpAny M A (storeName X.env x u) Q E s:=
 z0 I hN hi hx r (λs' I' _=>h s' I') hf
theorem Inv.call'{s':ai}{ch:List Addr}(I:Inv X pins σ H s)(ho:s'.os=s.os)(u:Un (kH X.stack) ch H H' s.heap s'.heap)(hok:HOk X.prog X.w H' s'.heap)(hg:kR s'.gens)
  (hch:∀b∈ch,(b∈X.ex\/X.s₀.heap.objs.size<=b)/\b≠X.env.locals/\(∀x c,X.env.cells.lookup x=some c->c≠b)/\∀p∈X.pn++pins,p.1≠b):Inv X pins σ H' s':=by
 obtain⟨h',g',d',t',o'⟩:=s'
 have e:o'=s.os:=ho
 subst e
 exact I.call (g':=g') (t':=t') (d':=d') u hok hg hch
end
noncomputable abbrev XK:=ae->Option Addr->Hp->Prop
noncomputable abbrev St:=List (Option V)
noncomputable abbrev VK:=V->Hp->Prop
noncomputable abbrev TE:=St->Hp->VK->Prop
noncomputable abbrev TT:=St->Hp->(Bool->Hp->Prop)->Prop
noncomputable abbrev TA:=St->Hp->(List V->Hp->Prop)->Prop
structure Ends where
 nx:St->Hp->Prop
 rt:VK
 bk:St->Hp->Prop:=λ_ _=>False
 ct:St->Hp->Prop:=λ_ _=>False
noncomputable abbrev TS:=Ends->St->Hp->Prop
noncomputable def EP(X:Cx)(pins:List (Addr×Obj))(σ:St)(Q:VK)(u:ae)(s':ai):Prop:=∃v H',Inv X pins σ H' s'/\RelV v u/\Q v H'
noncomputable def TP(X:Cx)(pins:List (Addr×Obj))(σ:St)(Q:Bool->Hp->Prop)(b:Bool)(s':ai):Prop:=∃H',Inv X pins σ H' s'/\Q b H'
noncomputable def AP(X:Cx)(pins:List (Addr×Obj))(σ:St)(Q:List V->Hp->Prop)(us:List ae)(s':ai):Prop:=∃vs H',Inv X pins σ H' s'/\Vals vs us/\Q vs H'
noncomputable def SP(X:Cx)(pins:List (Addr×Obj))(D:Ends)(f:Flow)(s':ai):Prop:=
 match f with
 | .next=>∃σ' H',Inv X pins σ' H' s'/\D.nx σ' H'
 | .brk=>∃σ' H',Inv X pins σ' H' s'/\D.bk σ' H'
 | .cont=>∃σ' H',Inv X pins σ' H' s'/\D.ct σ' H'
 | .ret u=>∃v σ' H',Inv X pins σ' H' s'/\RelV v u/\D.rt v H'
noncomputable def PE(X:Cx)(e:Expr)(t:TE):Prop:=
 ∀(pins:List (Addr×Obj)) (s:ai) (σ:St) (H:Hp) (Q:VK),Inv X pins σ H s->t σ H Q->wpAny (aQ X.prog X.w) X.A (eval e X.env) (EP X pins σ Q) X.xe s
noncomputable def PT(X:Cx)(e:Expr)(t:TT):Prop:=
 ∀(pins:List (Addr×Obj)) (s:ai) (σ:St) (H:Hp) (Q:Bool->Hp->Prop),Inv X pins σ H s->t σ H Q->wpAny (aQ X.prog X.w) X.A (isTrue e X.env (eval e X.env)) (TP X pins σ Q) X.xe s
noncomputable def PW(X:Cx)(e:Expr)(t:TT):Prop:=
 ∀(whole:Sem ae) (pins:List (Addr×Obj)) (s:ai) (σ:St) (H:Hp) (Q:Bool->Hp->Prop),Inv X pins σ H s->t σ H Q->wpAny (aQ X.prog X.w) X.A (isTrue e X.env whole) (TP X pins σ Q) X.xe s
theorem PW.pt{X:Cx}{e:Expr}{t:TT}(h:PW X e t):PT X e t:=h _
noncomputable def PA(X:Cx)(es:List Expr)(t:TA):Prop:=
 ∀(pos:Pos) (pins:List (Addr×Obj)) (s:ai) (σ:St) (H:Hp) (Q:List V->Hp->Prop),Inv X pins σ H s->t σ H Q->wpAny (aQ X.prog X.w) X.A (spliced (bB pos (aq es X.env))) (AP X pins σ Q) X.xe s
noncomputable def PS(X:Cx)(st:Stmt)(t:TS):Prop:=
 ∀(pins:List (Addr×Obj)) (s:ai) (σ:St) (H:Hp) (D:Ends),Inv X pins σ H s->t D σ H->wpAny (aQ X.prog X.w) X.A (exec st X.env) (SP X pins D) X.xe s
noncomputable def PSs(X:Cx)(st:List Stmt)(t:TS):Prop:=
 ∀(pins:List (Addr×Obj)) (s:ai) (σ:St) (H:Hp) (D:Ends),Inv X pins σ H s->t D σ H->wpAny (aQ X.prog X.w) X.A (execs st X.env) (SP X pins D) X.xe s
theorem dZ{α:Type}{t:Sem α}{Q Q':α->ai->Prop}{M:Model}{A:Around}{E:ae->ai->Prop}{s:ai}(h:wpAny M A t Q E s)(hQ:∀a s,Q a s->Q' a s):wpAny M A t Q' E s:=bc h hQ λ_ _ x=>x
section
variable{X:Cx}
noncomputable def N4(i:Nat):TE:=λσ H Q=>∃v,σ[i]? =some (some v)/\Q v H
noncomputable def tC(v:V):TE:=λ_ H Q=>Q v H
theorem IP{i:Nat}{x:Str}{pos:Pos}(hN:X.N[i]? =some x)(hv:NX X.env.scope x)(hd:(x==("__debug__" :Str))=false:=by decide)(hcd:(x==("__classdict__" :Str))=false:=by decide):PE X (.Name x pos) (N4 i):=by
 intro pins s σ H Q I h
 obtain⟨v,e,h⟩:=h
 obtain⟨m,hn,hl⟩:=I.loc
 obtain⟨u,r,l⟩:=hl i x v hN e hv
 have fin:EP X pins σ Q u s:=⟨v,H,I,r,h⟩
 rcases l with⟨hk,hm⟩|⟨hk,c,hc,hcell⟩
 ·exact wpAny_Name (wpAny_loadName_local I.ok.kind hk hn hm fin) hd
 ·rcases hk with hk|hk
  ·exact wpAny_Name (wpAny_loadName_cell I.ok.kind hk hc hcell fin) hd
  ·exact wpAny_Name (wpAny_loadName_free I.ok.kind hk hc hcell fin hcd) hd
theorem Co{i j pos}:PE X (.Constant (.int i) j pos) (tC (.int i)):=λ_ _ _ H _ I h=>wpAny_Constant_int ⟨.int i,H,I.tok _,⟨_,rfl⟩,h⟩
theorem LR{b j pos}:PE X (.Constant (.bool b) j pos) (tC (.bl b)):=λ_ _ _ H _ I h=>Constant_bool ⟨.bl b,H,I,rfl,h⟩
theorem IR{x j pos}:PE X (.Constant (.str x) j pos) (tC (.str x)):=λ_ _ _ H _ I h=>Calls.Constant_str ⟨.str x,H,I.tok _,⟨_,rfl⟩,h⟩
noncomputable def Gl(X:Cx)(x:Str):Prop:=X.env.kindOf x=some .globalImplicit
theorem mH{E:ae->ai->Prop}{pins:List (Addr×Obj)}{s:ai}{σ:St}{H:Hp}{x:Str}{u:ae}{pos:Pos}{Q:ae->ai->Prop}(I:Inv X pins σ H s)(hg:Gl X x)(hm:X.mg x=some u)(h:Q u s)
  (hd:(x==("__debug__" :Str))=false:=by decide):wpAny (aQ X.prog X.w) X.A (eval (.Name x pos) X.env) Q E s:=
 ja I.ok.kind hg (wF (by rw[I.ok.glob];exact I.mod.glob.keeps I.bk) hm h) hd
theorem lI{E:ae->ai->Prop}{pins:List (Addr×Obj)}{s:ai}{σ:St}{H:Hp}{x:Str}{u:ae}{pos:Pos}{Q:ae->ai->Prop}(I:Inv X pins σ H s)(hg:Gl X x)(hm:X.mg x=none)(hv:bY x=some u)(h:Q u s)
  (hn:x≠ "__name__" :=by decide) (hd:(x==("__debug__" :Str))=false:=by decide):wpAny (aQ X.prog X.w) X.A (eval (.Name x pos) X.env) Q E s:=by
 obtain⟨mb,h1,h2⟩:=I.mod.blt
 exact ja I.ok.kind hg (Calls.loadGlobal_builtin (by rw[I.ok.glob];exact I.mod.glob.keeps I.bk) hm (by rw[I.ok.blt];exact h1.keeps I.bk) ((h2 x hn).trans hv) h) hd
theorem Fl{x:Str}{v:V}{u:ae}{pos:Pos}(hg:Gl X x)(hm:X.mg x=some u)(r:RelV v u)(hd:(x==("__debug__" :Str))=false:=by decide):PE X (.Name x pos) (tC v):=
 λ_ _ _ H _ I h=>mH I hg hm ⟨v,H,I,r,h⟩ hd
theorem Fs{x:Str}{v:V}{u:ae}{pos:Pos}(hg:Gl X x)(hm:X.mg x=none)(hv:bY x=some u)(r:RelV v u)(hn:x≠ "__name__" :=by decide)(hd:(x==("__debug__" :Str))=false:=by decide):PE X (.Name x pos) (tC v):=
 λ_ _ _ H _ I h=>lI I hg hm hv ⟨v,H,I,r,h⟩ hn hd
variable{a b:Expr}{ta tb:TE}{pos:Pos}
noncomputable def tB(t:TE):TT:=λσ H Q=>t σ H λx H1=>∃c,x= .bl c/\Q c H1
theorem ID{e:Expr}{t:TE}(h:PE X e t)(he:∀whole,isTrue e X.env whole=(do let v <-whole;standAt e.pos;holding [v] (truthy v)):=by intro _;rfl):PT X e (tB t):=by
 intro pins s σ H Q I hw
 refine isTrue_plain (dZ (h pins s σ H _ I hw) λv s1 hPl=> ?_) (he _)
 obtain⟨x,H1,I1,r1,q1⟩:=hPl
 obtain⟨d,rfl,q⟩:=q1
 cases r1
 exact fT ⟨H1,I1,q⟩
variable{tA tB':TT}{rest:List Expr}
noncomputable def Oh(t u:TT):TT:=λσ H Q=>t σ H λc H1=>if c=true then u σ H1 Q else Q false H1
noncomputable def tOr(t u:TT):TT:=λσ H Q=>t σ H λc H1=>if c=true then Q true H1 else u σ H1 Q
noncomputable def N9(t:TT):TT:=λσ H Q=>t σ H λc H1=>Q (!c) H1
theorem E1(ha:PT X a tA):PW X (.BoolOp .And [a] pos) tA:=by
 intro wh pins s σ H Q I h
 refine isTrue_and (dZ (ha pins s σ H Q I h) λc s1 e=> ?_)
 cases c with
 |true=>exact isTrue_and_nil e
 |false=>exact e
theorem IB(ha:PT X a tA):PW X (.BoolOp .Or [a] pos) tA:=by
 intro wh pins s σ H Q I h
 refine isTrue_or (dZ (ha pins s σ H Q I h) λc s1 e=> ?_)
 cases c with
 |false=>exact isTrue_or_nil e
 |true=>exact e
theorem IC(ha:PT X a tA)(hb:PW X (.BoolOp .And (b::rest) pos) tB'):PW X (.BoolOp .And (a::b::rest) pos) (Oh tA tB'):=by
 intro wh pins s σ H Q I h
 refine isTrue_and (dZ (ha pins s σ H _ I h) λc s1 hPl=> ?_)
 obtain⟨H1,I1,q1⟩:=hPl
 cases c with
 |true=>exact hb wh pins s1 σ H1 Q I1 q1
 |false=>exact⟨H1,I1,q1⟩
theorem LM(ha:PT X a tA)(hb:PW X (.BoolOp .Or (b::rest) pos) tB'):PW X (.BoolOp .Or (a::b::rest) pos) (tOr tA tB'):=by
 intro wh pins s σ H Q I h
 refine isTrue_or (dZ (ha pins s σ H _ I h) λc s1 hPl=> ?_)
 obtain⟨H1,I1,q1⟩:=hPl
 cases c with
 |true=>exact⟨H1,I1,q1⟩
 |false=>exact hb wh pins s1 σ H1 Q I1 q1
theorem IE(ha:PT X a tA):PT X (.UnaryOp .Not a pos) (N9 tA):=by
 intro pins s σ H Q I h
 exact isTrue_not (ha pins s σ H (λc H1=>Q (!c) H1) I h)
noncomputable def LB(ta tb:TE):TE:=λσ H Q=>ta σ H λx H1=>∃c,x= .bl c/\if c=true then tb σ H1 Q else Q (.bl false) H1
noncomputable def Lr(ta:TE):TE:=λσ H Q=>ta σ H λx H1=>∃c,x= .bl c/\Q (.bl (!c)) H1
theorem IS{op}{t:TE}(h:PE X a t):PE X (.BoolOp op [a] pos) t:=λpins s σ H Q I hw=>BoolOp_one (h pins s σ H Q I hw)
theorem IX(ha:PE X a ta)(hb:PE X (.BoolOp .And (b::rest) pos) tb):PE X (.BoolOp .And (a::b::rest) pos) (LB ta tb):=by
 intro pins s σ H Q I h
 refine BoolOp_and (dZ (ha pins s σ H _ I h) λv s1 hPl=> ?_)
 obtain⟨x,H1,I1,r1,q1⟩:=hPl
 obtain⟨c,rfl,q1⟩:=q1
 cases r1
 refine fT ?_
 cases c with
 |true=>exact hb pins s1 σ H1 Q I1 q1
 |false=>exact⟨.bl false,H1,I1,rfl,q1⟩
theorem IT(ha:PE X a ta):PE X (.UnaryOp .Not a pos) (Lr ta):=by
 intro pins s σ H Q I h
 refine UnaryOp_ (dZ (ha pins s σ H _ I h) λv s1 hPl=> ?_)
 obtain⟨x,H1,I1,r1,q1⟩:=hPl
 obtain⟨c,rfl,q1⟩:=q1
 cases r1
 exact not_of (fT ⟨.bl (!c),H1,I1,rfl,q1⟩)
noncomputable def tIf(t:TT)(ta tb:TE):TE:=λσ H Q=>t σ H λc H1=>if c=true then ta σ H1 Q else tb σ H1 Q
theorem Cp{c:Expr}(hc:PT X c tA)(ha:PE X a ta)(hb:PE X b tb):PE X (.IfExp c a b pos) (tIf tA ta tb):=by
 intro pins s σ H Q I h
 refine wpAny_IfExp (dZ (hc pins s σ H _ I h) λd s1 hPl=> ?_)
 obtain⟨H1,I1,q1⟩:=hPl
 cases d with
 |true=>exact ha pins s1 σ H1 Q I1 q1
 |false=>exact hb pins s1 σ H1 Q I1 q1
end
noncomputable def SqL(K:PySem.W.Frag)(H:Hp)(a:Addr)(xs:List V):Prop:=
 Rd H a (.lst xs)\/
  ∃(o:Obj) (its:Array ae) (n:Nat),K.lookup a=some o/\o.cls= .type "list" /\o.dict=none/\o.data= .seq its n/\its.size<=aK/\Vals xs its.toList
noncomputable def SqT(K:PySem.W.Frag)(H:Hp)(a:Addr)(xs:List V):Prop:=
 Rd H a (.tup xs)\/
  ∃(o:Obj) (its:Array ae) (n:Nat),K.lookup a=some o/\o.cls= .type "tuple" /\o.data= .seq its n/\its.size<=aK/\Vals xs its.toList
noncomputable def OY:ae->Option V
 | .none=>some .non
 | .bool b=>some (.bl b)
 | .int i _=>some (.int i)
 | .str x _=>some (.str x)
 | .bytes b _=>some (.byt b)
 | .float b _=>some (.flt b)
 | .ref a=>some (.ref a)
 | .type n=>some (.ty n)
 |_=>none
theorem RelV.abs{x:V}{u:ae}(r:RelV x u):OY u=some x:=by
 cases x with
 |non=>cases r;rfl
 |bl _=>cases r;rfl
 |int _=>obtain⟨t,rfl⟩:=r;rfl
 |str _=>obtain⟨t,rfl⟩:=r;rfl
 |byt _=>obtain⟨t,rfl⟩:=r;rfl
 |flt _=>obtain⟨t,rfl⟩:=r;rfl
 |ref _=>cases r;rfl
 |ty _=>cases r;rfl
theorem RelV.inj{x y:V}{u:ae}(r:RelV x u)(q:RelV y u):x=y:=a8 (r.abs.symm.trans q.abs)
theorem Vals.inj:∀{xs ys:List V} {us:List ae},Vals xs us->Vals ys us->xs=ys
 |_,_,_,.nil,.nil=>rfl
 |_,_,_,.cons r t,.cons r' t'=>by rw[r.inj r',Vals.inj t t']
section
variable{X:Cx}{pins:List (Addr×Obj)}{σ:St}{H:Hp}{s:ai}{a:Addr}{xs ys:List V}
theorem SqL.of{K:PySem.W.Frag}(h:H a=some (.lst xs)):SqL K H a xs:= .inl (.inl h)
theorem SqT.of{K:PySem.W.Frag}(h:H a=some (.tup xs)):SqT K H a xs:= .inl (.inl h)
theorem Inv.list(I:Inv X pins σ H s)(h:SqL X.K H a xs):∃its:List ae,Vals xs its/\PlainL s.heap a its.toArray/\xs.length<=aK:=by
 rcases h with h|⟨o,its,n,hk,hc,hd,hs,hz,r⟩
 ·obtain⟨z,its,n,r,e⟩:=h.ok I.hok
  exact⟨its,r,⟨_,n,e,rfl,rfl,rfl⟩,z⟩
 ·refine⟨its.toList,r,⟨o,n,I.kIn a o hk,hc,hd,by simpa using hs⟩,?_⟩
  have e:=r.length
  simp only[gj]at e
  ac_nf
theorem Inv.tuple(I:Inv X pins σ H s)(h:SqT X.K H a xs):∃its:List ae,Vals xs its/\IsTup s.heap a its.toArray/\xs.length<=aK:=by
 rcases h with h|⟨o,its,n,hk,hc,hs,hz,r⟩
 ·obtain⟨z,its,r,p⟩:=h.ok I.hok
  exact⟨its,r,p,z⟩
 ·refine⟨its.toList,r,⟨o,I.kIn a o hk,hc,n,by simpa using hs⟩,?_⟩
  have e:=r.length
  simp only[gj]at e
  ac_nf
theorem Inv.list_inj(I:Inv X pins σ H s)(h:SqL X.K H a xs)(h':SqL X.K H a ys):xs=ys:=by
 obtain⟨its,r,⟨o,n,e,_,_,d⟩,_⟩:=I.list h
 obtain⟨its',r',⟨o',n',e',_,_,d'⟩,_⟩:=I.list h'
 rw[e]at e';cases e'
 rw[d]at d'
 injection d' with d1 _
 have:its=its':=by simpa using congrArg Array.toList d1
 subst this
 exact r.inj r'
theorem Inv.tuple_inj(I:Inv X pins σ H s)(h:SqT X.K H a xs)(h':SqT X.K H a ys):xs=ys:=by
 obtain⟨its,r,⟨o,e,_,n,d⟩,_⟩:=I.tuple h
 obtain⟨its',r',⟨o',e',_,n',d'⟩,_⟩:=I.tuple h'
 rw[e]at e';cases e'
 rw[d]at d'
 injection d' with d1 _
 have:its=its':=by simpa using congrArg Array.toList d1
 subst this
 exact r.inj r'
end
noncomputable abbrev Cx.wish(X:Cx)(E:ae->ai->Prop):Cx:={X with xe:=E}
noncomputable abbrev Cx.nox(X:Cx):Cx:=X.wish λ_ _=>False
theorem Cx.Ok.wish{X:Cx}(ok:X.Ok)(E:ae->ai->Prop):(X.wish E).Ok:=
 ⟨ok.mod,ok.kind,ok.glob,ok.blt,ok.above,ok.inj,ok.has,ok.cab,ok.hd,ok.frames,ok.stk,ok.exf,ok.bs,ok.bsz,ok.noex,ok.exfs,ok.funs,ok.frf⟩
theorem Cx.Ok.unwish{X:Cx}{E:ae->ai->Prop}(ok:(X.wish E).Ok):X.Ok:=
 ⟨ok.mod,ok.kind,ok.glob,ok.blt,ok.above,ok.inj,ok.has,ok.cab,ok.hd,ok.frames,ok.stk,ok.exf,ok.bs,ok.bsz,ok.noex,ok.exfs,ok.funs,ok.frf⟩
section
variable{X:Cx}{pins:List (Addr×Obj)}{σ:St}{H:Hp}{s:ai}{E:ae->ai->Prop}
theorem Inv.wish(I:Inv X pins σ H s)(E:ae->ai->Prop):Inv (X.wish E) pins σ H s:=⟨I.ok.wish E,I.os,I.bare,I.base,I.loc,I.cell,I.free,I.freeC,I.pin,I.hok,I.len⟩
theorem Inv.unwish(I:Inv (X.wish E) pins σ H s):Inv X pins σ H s:=⟨I.ok.unwish,I.os,I.bare,I.base,I.loc,I.cell,I.free,I.freeC,I.pin,I.hok,I.len⟩
theorem SP.unwish{D:Ends}{f:Flow}{s':ai}(h:SP (X.wish E) pins D f s'):SP X pins D f s':=by
 cases f with
 |next=>obtain⟨σ',H',I,q⟩:=h;exact⟨σ',H',I.unwish,q⟩
 |brk=>obtain⟨σ',H',I,q⟩:=h;exact⟨σ',H',I.unwish,q⟩
 |cont=>obtain⟨σ',H',I,q⟩:=h;exact⟨σ',H',I.unwish,q⟩
 |ret u=>obtain⟨v,σ',H',I,r,q⟩:=h;exact⟨v,σ',H',I.unwish,r,q⟩
theorem PSs.nox{st:List Stmt}{t:TS}(h:PSs X.nox st t):PSs X st t:=λpins s σ H D I hw=>
 bc (h pins s σ H D (I.wish _) hw) (λ_ _ q=>q.unwish) λ_ _ z=>bN z
end
section
variable{X:Cx}{st:Stmt}{rest:List Stmt}{t u:TS}{e:Expr}{te:TE}{pos:Pos}
noncomputable def Hj:TS:=λD σ H=>D.nx σ H
noncomputable def N6(t u:TS):TS:=λD σ H=>t {D with nx:=u D} σ H
theorem E5:PSs X [] Hj:=λ_ _ σ H _ I h=>hZ ⟨σ,H,I,h⟩
theorem B9(h1:PS X st t)(h2:PSs X rest u):PSs X (st::rest) (N6 t u):=by
 intro pins s σ H D I h
 refine wpAny_execs_cons (dZ (h1 pins s σ H {D with nx:=u D} I h) λf s1 q=> ?_)
 cases f with
 |next=>
  obtain⟨σ',H',I',q⟩:=q
  exact h2 pins s1 σ' H' D I' q
 |ret v=>exact q
 |brk=>exact q
 |cont=>exact q
theorem E4(h1:PS X st t):PSs X [st] t:=by
 intro pins s σ H D I h
 refine wpAny_execs_cons (dZ (h1 pins s σ H D I h) λf s1 q=> ?_)
 cases f with
 |next=>exact hZ q
 |ret v=>exact q
 |brk=>exact q
 |cont=>exact q
theorem E6:PS X (.Pass pos) Hj:=λ_ _ σ H _ I h=>wpAny_Pass ⟨σ,H,I,h⟩
theorem Inv.quiet{pins:List (Addr×Obj)}{σ:St}{H:Hp}{s:ai}(I:Inv X pins σ H s):interactive X.env=false:=by simp[interactive,I.ok.kind]
noncomputable def Lv(te:TE):TS:=λD σ H=>te σ H λ_ H1=>D.nx σ H1
theorem E7(he:PE X e te)(hs:gC e none pos.line X.env=pure false:=by rfl):PS X (.Expr e pos) (Lv te):=by
 intro pins s σ H D I h
 exact wpAny_Expr_any (dZ (he pins s σ H _ I h) λv s1 ⟨x,H1,I1,r1,q1⟩=>⟨σ,H1,I1,q1⟩) I.quiet hs
noncomputable def N7(te:TE):TS:=λD σ H=>te σ H D.rt
theorem IG(he:PE X e te):PS X (.Return (some e) pos) (N7 te):=by
 intro pins s σ H D I h
 exact wpAny_Return_some (dZ (he pins s σ H _ I h) λv s1 ⟨x,H1,I1,r1,q1⟩=>⟨x,σ,H1,I1,r1,q1⟩)
noncomputable def Ob(c:TT)(t u:TS):TS:=λD σ H=>c σ H λb H1=>if b=true then t D σ H1 else u D σ H1
theorem LN{c:Expr}{a b:List Stmt}{tc:TT}(hc:PT X c tc)(ha:PSs X a t)(hb:PSs X b u):PS X (.If c a b pos) (Ob tc t u):=by
 intro pins s σ H D I h
 refine wpAny_If (dZ (hc pins s σ H _ I h) λd s1 hPl=> ?_)
 obtain⟨H1,I1,q1⟩:=hPl
 cases d with
 |true=>exact ha pins s1 σ H1 D I1 q1
 |false=>exact hb pins s1 σ H1 D I1 q1
end
noncomputable abbrev TG:=V->St->Hp->(St->Hp->Prop)->Prop
noncomputable abbrev K7:=List V->St->Hp->(St->Hp->Prop)->Prop
noncomputable def PG(X:Cx)(target:Expr)(t:TG):Prop:=
 ∀(pins:List (Addr×Obj)) (s:ai) (σ:St) (H:Hp) (v:V) (u:ae) (Q:St->Hp->Prop),Inv X pins σ H s->RelV v u->t v σ H Q->
  wpAny (aQ X.prog X.w) X.A (assign target X.env u) (λ_ s'=>∃σ' H',Inv X pins σ' H' s'/\Q σ' H') X.xe s
noncomputable def NZ(X:Cx)(ts:List Expr)(t:K7):Prop:=
 ∀(pins:List (Addr×Obj)) (s:ai) (σ:St) (H:Hp) (vs:List V) (us:List ae) (Q:St->Hp->Prop),Inv X pins σ H s->Vals vs us->t vs σ H Q->
  wpAny (aQ X.prog X.w) X.A (assignInOrder ((jW ts X.env).map (·.2)) us) (λ_ s'=>∃σ' H',Inv X pins σ' H' s'/\Q σ' H') X.xe s
noncomputable abbrev yb:=V->V->V->Hp->(Hp->Prop)->Prop
noncomputable def PSet(X:Cx)(t:yb):Prop:=
 ∀(pins:List (Addr×Obj)) (s:ai) (σ:St) (H:Hp) (o i v:V) (ov iv u:ae) (Q:Hp->Prop),Inv X pins σ H s->RelV o ov->RelV i iv->RelV v u->t o i v H Q->
  wpAny (aQ X.prog X.w) X.A (setItem ov iv u) (λ_ s'=>∃H',Inv X pins σ H' s'/\Q H') X.xe s
noncomputable abbrev Lf:=V->V->Hp->VK->Prop
noncomputable def Lg(X:Cx)(op:jX)(t:Lf):Prop:=
 ∀(pins:List (Addr×Obj)) (s:ai) (σ:St) (H:Hp) (x y:V) (v u:ae) (Q:VK),Inv X pins σ H s->RelV x v->RelV y u->t x y H Q->
  wpAny (aQ X.prog X.w) X.A (inplaceOp op v u) (EP X pins σ Q) X.xe s
section
variable{X:Cx}{pos:Pos}
noncomputable def qU(i:Nat):TG:=λv σ H Q=>Q (σ.set i (some v)) H
theorem kD{i:Nat}{x:Str}(hN:X.N.Nodup)(hi:X.N[i]? =some x)(hx:zS X.env.scope x)(hf:X.fn x=true\/X.env.scope.names.lookup x=some .local:=by first|exact .inl rfl|exact .inr rfl|assumption):PG X (.Name x pos) (qU i):=by
 intro pins s σ H v u Q I r h
 exact wpAny_assign_Name (kc I hN hi hx r (λs' I'=>⟨_,H,I',h⟩) hf)
noncomputable def Nl:K7:=λvs σ H Q=>vs=[]/\Q σ H
noncomputable def DM(t:TG)(u:K7):K7:=λvs σ H Q=>∃v r,vs=v::r/\t v σ H λσ' H'=>u r σ' H' Q
theorem zd:NZ X [] Nl:=by
 intro pins s σ H vs us Q I r h
 obtain⟨e,h⟩:=h
 subst e
 cases r
 exact assignInOrder_nil ⟨σ,H,I,h⟩
theorem mD{e:Expr}{es:List Expr}{t:TG}{u:K7}(h1:PG X e t)(h2:NZ X es u)
  (hs:(jW (e::es) X.env).map (·.2)=assign e X.env::(jW es X.env).map (·.2):=by rfl):NZ X (e::es) (DM t u):=by
 intro pins s σ H vs us Q I r h
 obtain⟨v,vr,e1,h⟩:=h
 subst e1
 cases r with
 |cons r rr=>
  rw[hs]
  refine assignInOrder_cons (dZ (h1 pins s σ H _ _ _ I r h) λ_ s1 hPl=> ?_)
  obtain⟨σ1,H1,I1,q1⟩:=hPl
  exact h2 pins s1 σ1 H1 _ _ Q I1 rr q1
noncomputable def Nj(K:PySem.W.Frag)(n:Nat)(t:K7):TG:=λv σ H Q=>∃a xs,v= .ref a/\SqT K H a xs/\xs.length=n/\t xs σ H Q
theorem Ck{es:List Expr}{k:Nat}{t:K7}{n:Nat}(hc:X.calm=true)(h:NZ X es t)
  (hn:(jW es X.env).length=n:=by rfl) (hst:(jW es X.env).findIdx? (·.1)=none:=by rfl):PG X (.Tuple es k pos) (Nj X.K n t):=by
 intro pins s σ H v u Q I r hw
 obtain⟨a,xs,e1,hq,hl,hw⟩:=hw
 subst e1
 cases r
 obtain⟨its,rv,ht,hz⟩:=I.tuple hq
 refine assign_Tuple_tuple (I.ok.hd hc) ht (by simp[hn,<-hl,rv.length]) hst λh' hx=> ?_
 have I1:Inv X pins σ H {s with heap:=h'}:=I.kept (t':=s.toks) λb o e=>hx b o (aU (aC e)) e
 exact h pins _ σ H xs _ Q I1 (by simpa using rv) hw
noncomputable def OP(to ti:TE)(t:yb):TG:=λv σ H Q=>to σ H λo H1=>ti σ H1 λi H2=>t o i v H2 λH3=>Q σ H3
theorem IL{o i:Expr}{to ti:TE}{t:yb}(ho:PE X o to)(hi:PE X i ti)(hs:PSet X t)
  (ha:∀v,assign (.Subscript o i pos) X.env v=(do
   let ov <-holding [v] (eval o X.env)
   let iv <-holding [v,ov] (eval i X.env)
   standAt pos
   holding [v,ov,iv] (setItem ov iv v)
   release [v,ov,iv] []):=by intro _;rfl):PG X (.Subscript o i pos) (OP to ti t):=by
 intro pins s σ H v u Q I r h
 rw[ha]
 refine aa (dH (dZ (ho pins s σ H _ I h) λov s1 hPl=> ?_))
 obtain⟨x,H1,I1,r1,q1⟩:=hPl
 refine aa (dH (dZ (hi pins s1 σ H1 _ I1 q1) λiv s2 hPl=> ?_))
 obtain⟨y,H2,I2,r2,q2⟩:=hPl
 refine aa (wpAny_standAt (aa (dH (dZ (hs pins s2 σ H2 x y v ov iv u _ I2 r1 r2 r q2) λ_ s3 hPl=> ?_))))
 obtain⟨H3,I3,q3⟩:=hPl
 exact wpAny_release ⟨σ,H3,I3,q3⟩
noncomputable def Ij(te:TE)(g:TG):TS:=λD σ H=>te σ H λx H1=>g x σ H1 D.nx
theorem IK{tg e:Expr}{te:TE}{g:TG}(he:PE X e te)(hg:PG X tg g)(hs:swapsWithSole [tg] e pos.line X.env=pure false:=by rfl)(hw:swappedStores [tg] e X.env=pure none:=by rfl)
  (h1:(jW [tg] X.env).map (·.2)=[assign tg X.env]:=by rfl):PS X (.Assign [tg] e pos) (Ij te g):=by
 intro pins s σ H D I h
 refine wpAny_Assign_stores (dZ (he pins s σ H _ I h) λv s1 hPl=> ?_) hs hw
 obtain⟨x,H1,I1,r1,q1⟩:=hPl
 rw[h1]
 exact dZ (hg pins s1 σ H1 x v _ I1 r1 q1) λ_ s2 q=>q
theorem IF{i:Nat}{x:Str}{e:Expr}{te:TE}{pos':Pos}(hN:X.N.Nodup)(hi:X.N[i]? =some x)(hx:zS X.env.scope x)(he:PE X e te)(hs:gC e (some (.Name x pos')) pos.line X.env=pure false:=by rfl)(hf:X.fn x=true\/X.env.scope.names.lookup x=some .local:=by first|exact .inl rfl|exact .inr rfl|assumption):
  PS X (.Assign [.Name x pos'] e pos) (Ij te (qU i)):=by
 intro pins s σ H D I h
 refine wpAny_Assign_Name (dZ (he pins s σ H _ I h) λv s1 hPl=> ?_) hs
 obtain⟨y,H1,I1,r1,q1⟩:=hPl
 exact kc I1 hN hi hx r1 (λs2 I2=>⟨_,H1,I2,q1⟩) hf
noncomputable def Og(i:Nat)(te:TE)(ti:Lf):TS:=λD σ H=>∃x,σ[i]? =some (some x)/\te σ H λy H1=>ti x y H1 λz H2=>D.nx (σ.set i (some z)) H2
theorem IJ{i:Nat}{x:Str}{e:Expr}{te:TE}{op:jX}{ti:Lf}{pos':Pos}(hN:X.N.Nodup)(hi:X.N[i]? =some x)(hx:zS X.env.scope x)(he:PE X e te)(ho:Lg X op ti)(hf:X.fn x=true\/X.env.scope.names.lookup x=some .local:=by first|exact .inl rfl|exact .inr rfl|assumption):
  PS X (.AugAssign (.Name x pos') op e pos) (Og i te ti):=by
 intro pins s σ H D I h
 obtain⟨v,e1,h⟩:=h
 obtain⟨m,hn,hl⟩:=I.loc
 have vis:NX X.env.scope x:=by rcases hx with k|k;exact .inl k;exact .inr (.inl k)
 obtain⟨u,r,l⟩:=hl i x v hi e1 vis
 refine wpAny_AugAssign_Name ?_
 have go:wpAny (aQ X.prog X.w) X.A (eval e X.env) (λw s₂=>wpAny (aQ X.prog X.w) X.A (inplaceOp op u w) (λr s₃=>wpAny (aQ X.prog X.w) X.A (storeName X.env x r) (λ_=>SP X pins D .next) X.xe s₃) X.xe s₂) X.xe s:=by
  refine dZ (he pins s σ H _ I h) λw s1 hPl=> ?_
  obtain⟨y,H1,I1,r1,q1⟩:=hPl
  refine dZ (ho pins s1 σ H1 v y u w _ I1 r r1 q1) λz s2 hPl=> ?_
  obtain⟨zv,H2,I2,r2,q2⟩:=hPl
  exact kc I2 hN hi hx r2 (λs3 I3=>⟨_,H2,I3,q2⟩) hf
 rcases l with⟨hk,hm⟩|⟨hk,c,hc,hcell⟩
 ·exact wpAny_loadName_local I.ok.kind hk hn hm go
 ·rcases hk with hk|hk
  ·exact wpAny_loadName_cell I.ok.kind hk hc hcell go
  ·rcases hx with k|k
   ·have:X.env.scope.names.lookup x=some .free:=hk
    rw[k]at this;cases this
   ·have:X.env.scope.names.lookup x=some .free:=hk
    rw[k]at this;cases this
noncomputable def LA(to ti te:TE)(tget:V->V->Hp->VK->Prop)(tip:Lf)(tset:yb):TS:=λD σ H=>to σ H λo H1=>ti σ H1 λi H2=>tget o i H2 λx H3=>te σ H3 λy H4=>tip x y H4 λz H5=>tset o i z H5 λH6=>D.nx σ H6
noncomputable def K8(X:Cx)(t:V->V->Hp->VK->Prop):Prop:=
 ∀(pins:List (Addr×Obj)) (s:ai) (σ:St) (H:Hp) (o i:V) (ov iv:ae) (Q:VK),Inv X pins σ H s->RelV o ov->RelV i iv->t o i H Q->
  wpAny (aQ X.prog X.w) X.A (jC ov iv) (EP X pins σ Q) X.xe s
theorem E9{o i e:Expr}{to ti te:TE}{tget:V->V->Hp->VK->Prop}{tip:Lf}{tset:yb}{op:jX}{tpos:Pos}(ho:PE X o to)(hi:PE X i ti)(hg:K8 X tget)(he:PE X e te)(hp:Lg X op tip)(hs:PSet X tset)
  (ha:∀ov iv new,augStore i ov iv new=(do holding [new,ov,iv] (setItem ov iv new);release [new,ov,iv] [];pure .next):=by intros;rfl):PS X (.AugAssign (.Subscript o i tpos) op e pos) (LA to ti te tget tip tset):=by
 intro pins s σ H D I h
 refine wpAny_AugAssign_SubscriptAny (dZ (ho pins s σ H _ I h) λov s1 hPl=> ?_) ha
 obtain⟨x1,H1,I1,r1,q1⟩:=hPl
 refine dZ (hi pins s1 σ H1 _ I1 q1) λiv s2 hPl=> ?_
 obtain⟨x2,H2,I2,r2,q2⟩:=hPl
 refine dZ (hg pins s2 σ H2 x1 x2 ov iv _ I2 r1 r2 q2) λold s3 hPl=> ?_
 obtain⟨x3,H3,I3,r3,q3⟩:=hPl
 refine dZ (he pins s3 σ H3 _ I3 q3) λv s4 hPl=> ?_
 obtain⟨x4,H4,I4,r4,q4⟩:=hPl
 refine dZ (hp pins s4 σ H4 x3 x4 old v _ I4 r3 r4 q4) λnew s5 hPl=> ?_
 obtain⟨x5,H5,I5,r5,q5⟩:=hPl
 exact dZ (hs pins s5 σ H5 x1 x2 x5 ov iv new _ I5 r1 r2 r5 q5) λ_ s6 hPl=>by obtain⟨H6,I6,q6⟩:=hPl;exact⟨σ,H6,I6,q6⟩
noncomputable def ipI(f:Int->Int->Int):Lf:=λx y H Q=>∃i j,x= .int i/\y= .int j/\Q (.int (f i j)) H
theorem Kw:Lg X .Add (ipI λi j=>i+j):=by
 intro pins s σ H x y v u Q I r1 r2 h
 obtain⟨i,j,e1,e2,q⟩:=h
 subst e1;subst e2
 obtain⟨t,rfl⟩:=r1
 obtain⟨t',rfl⟩:=r2
 exact iadd_int ⟨.int _,H,I.tok _,⟨_,rfl⟩,q⟩
end
section
variable{X:Cx}{pos:Pos}
noncomputable def Ic(c:TT)(tb:TS):TS:=λD σ H=>∃W:Nat->St->Hp->Prop,(∃m,W m σ H)/\∀m σ H,W m σ H->
 c σ H λb H1=>if b=true then∃N:St->Hp->Prop,(∀σ' H',N σ' H'->∃m',m'<m/\W m' σ' H')/\tb {D with nx:=N,ct:=N,bk:=D.nx} σ H1 else D.nx σ H1
theorem Ca{c:Expr}{body:List Stmt}{tc:TT}{tb:TS}(hp:PassesOwn (aQ X.prog X.w) X.A X.env X.xe)(hc:PT X c tc)(hb:PSs X body tb):PS X (.While c body [] pos) (Ic tc tb):=by
 intro pins s σ H D I h
 obtain⟨W,⟨m0,w0⟩,turn⟩:=h
 refine wpAny_While (codeAny_whileLoop (λn s'=>∃σ' H',Inv X pins σ' H' s'/\W n σ' H') ?_ m0 ⟨σ,H,I,w0⟩)
 rintro n s1 ⟨σ1,H1,I1,w1⟩
 refine fQ hp (dZ (hc pins s1 σ1 H1 _ I1 (turn n σ1 H1 w1)) λb s2 hPl=> ?_)
 obtain⟨H2,I2,q2⟩:=hPl
 cases b with
 |true=>
  obtain⟨N,hN,q2⟩:=q2
  rw[if_pos rfl]
  refine fQ hp (dZ (hb pins s2 σ1 H2 _ I2 q2) λf s3 q3=> ?_)
  cases f with
  |next=>
   obtain⟨σ3,H3,I3,n3⟩:=q3
   obtain⟨m',hm,w3⟩:=hN σ3 H3 n3
   exact⟨m',hm,σ3,H3,I3,w3⟩
  |cont=>
   obtain⟨σ3,H3,I3,n3⟩:=q3
   obtain⟨m',hm,w3⟩:=hN σ3 H3 n3
   exact⟨m',hm,σ3,H3,I3,w3⟩
  |brk=>exact q3
  |ret v=>exact q3
 |false=>
  rw[if_neg bd]
  exact hZ ⟨σ1,H2,I2,q2⟩
end
structure It where
 go:Nat->Hp->Prop
 yld:Nat->Hp->V->Hp->Prop
 stop:Nat->Hp->Prop
noncomputable def ph(X:Cx)(pins:List (Addr×Obj))(H:Hp)(b:Addr):Prop:=
 H b=none/\b≠X.env.locals/\b∉X.fs/\(b∈X.ex\/X.s₀.heap.objs.size<=b)/\(∀x c,X.env.cells.lookup x=some c->c≠b)/\∀p∈X.pn++pins,p.1≠b
theorem Inv.fpOk{X:Cx}{pins:List (Addr×Obj)}{σ:St}{H H':Hp}{s:ai}{b:Addr}(I:Inv X pins σ H s)(hb:s.heap.objs.size<=b)(hn:H' b=none):ph X pins H' b:=by
 refine⟨hn,i6 (ba I.lt hb),I.nofs hb,.inr (aO I.sz hb),λx c e z=> ?_,λp hp z=> ?_⟩
 ·obtain⟨v,q⟩:=I.cell x c e
  exact absurd (ba q.lt (by rw[z];exact hb)) (cU _)
 ·exact absurd (ba (aC (I.pin p hp).1) (by rw[z];exact hb)) (cU _)
structure rM(P:aI)(w:aY)(K:PySem.W.Frag)(tg:Expr)(J:It)(fp:List Addr)(it:Addr)(tn:Nat->Heap->Prop):Prop where
 mem:it∈fp
 obj:∀i h,tn i h->∀b∈fp,∃o,h.get? b=some o/\∀v,o.data≠ .cell v
 keep:∀i h h',tn i h->(∀b∈fp,∀o,h.get? b=some o->h'.get? b=some o)->tn i h'
 item:∀(X:Cx),X.prog=P->X.w=w->X.K=K->X.calm=true->∀(i:Nat) (pins:List (Addr×Obj)) (s:ai) (σ:St) (H:Hp) (E:ae->ai->Prop),Inv X pins σ H s->(∀b∈fp,ph X pins H b)->tn i s.heap->J.go i H->
  wpAny (aQ P w) X.A (pyNext (.ref it)) (λr s1=>∃u,r=some u/\
   wpAny (aQ P w) X.A (jh tg (.ref it) u) (λ_ s2=>∃x H',Inv X pins σ H' s2/\RelV x u/\J.yld i H x H'/\tn (i+1) s2.heap/\∀b∈fp,H' b=none) E s1) E s
 done:∀(X:Cx),X.prog=P->X.w=w->X.K=K->X.calm=true->∀(i:Nat) (pins:List (Addr×Obj)) (s:ai) (σ:St) (H:Hp) (E:ae->ai->Prop),Inv X pins σ H s->(∀b∈fp,ph X pins H b)->tn i s.heap->J.stop i H->
  wpAny (aQ P w) X.A (pyNext (.ref it)) (λr s1=>r=none/\Inv X pins σ H s1) E s
 self:∀(A:Around) (i:Nat) (s:ai) (Q:ae->ai->Prop) (E:ae->ai->Prop),tn i s.heap->Q (.ref it) s->wpAny (aQ P w) A (pyIter (.ref it)) Q E s
noncomputable abbrev TI:=St->Hp->(It->Hp->Prop)->Prop
noncomputable def O0(X:Cx)(pins:List (Addr×Obj))(σ:St)(tg:Expr)(R:It->Hp->Prop)(itv:ae)(s2:ai):Prop:=
 ∃(it:Addr) (fp:List Addr) (tn:Nat->Heap->Prop) (J:It) (H':Hp),itv= .ref it/\Inv X pins σ H' s2/\rM X.prog X.w X.K tg J fp it tn/\tn 0 s2.heap/\(∀b∈fp,ph X pins H' b)/\R J H'
noncomputable def PI(X:Cx)(tg iter:Expr)(wi:TI):Prop:=
 ∀(pins:List (Addr×Obj)) (s:ai) (σ:St) (H:Hp) (R:It->Hp->Prop),Inv X pins σ H s->wi σ H R->
  wpAny (aQ X.prog X.w) X.A (eval iter X.env) (λv s1=>wpAny (aQ X.prog X.w) X.A (pyIter v) (O0 X pins σ tg R) X.xe s1) X.xe s
theorem vY{M:Model}{A:Around}{E:ae->ai->Prop}{s:ai}{tg:Expr}{it:Addr}{u:ae}{o:Obj}{n:String}{vs:Array ae}{Q:Unit->ai->Prop}(ho:s.heap.get? it=some o)(hc:o.cls= .type n)(hd:o.data= .fields vs)
  (hn:["enumerate", "zip", "dict_itemiterator", "dict_reverseitemiterator", "odict_iterator", "itertools.zip_longest", "itertools.pairwise"].contains n=false) (hQ:Q () s):wpAny M A (jh tg (.ref it) u) Q E s:=by
 unfold jh
 cases tg<;>first
  |exact aA hQ
  |(cases u<;>first
    |exact aA hQ
    |(refine aa (wpAny_load ho ?_)
      rw[hc,hd]
      show wpAny M A (if(["enumerate", "zip", "dict_itemiterator", "dict_reverseitemiterator", "odict_iterator", "itertools.zip_longest", "itertools.pairwise"].contains n&&vs[0]? ==some (rawInt _))=true then _ else _) Q E s
      rw[if_neg (by intro h;rw[hn,Bool.false_and]at h;cases h)]
      exact aA hQ))
noncomputable def O3(K:PySem.W.Frag)(a:Addr):It:=
 ⟨λi H=>∃xs x,SqL K H a xs/\xs[i]? =some x,λi H x H'=>H'=H/\∀xs,SqL K H a xs->xs[i]? =some x,λi H=>∃xs,SqL K H a xs/\xs.length<=i⟩
noncomputable def Itt(K:PySem.W.Frag)(a:Addr):It:=
 ⟨λi H=>∃xs x,SqT K H a xs/\xs[i]? =some x,λi H x H'=>H'=H/\∀xs,SqT K H a xs->xs[i]? =some x,λi H=>∃xs,SqT K H a xs/\xs.length<=i⟩
noncomputable def NO(lo:Int)(n:Nat):It:=⟨λi _=>i<n,λi H x H'=>H'=H/\x= .int (lo+i),λi _=>n<=i⟩
theorem rV{P:aI}{w:aY}{K:PySem.W.Frag}{tg:Expr}(a it:Addr):rM P w K tg (O3 K a) [it] it (λi h=>h.IsListIter it a i) where
 mem:=by simp
 obj:=λi h st b hb=>by
  have e:b=it:=by simpa using hb
  subst e
  obtain⟨o,e,c,d⟩:=st
  exact⟨o,e,λv z=>by rw[d]at z;cases z⟩
 keep:=λi h h' st k=>st.at λo e=>k it (by simp) o e
 item:=by
  intro X hP hw hK hc i pins s σ H E I hf st hg
  subst hP hw hK
  obtain⟨xs,x,hq,hx⟩:=hg
  obtain⟨its,rv,p,hz⟩:=I.list hq
  obtain⟨u,hu,ru⟩:=rv.get hx
  obtain⟨f0,f1,f2,f3,f4,f5⟩:=hf it (by simp)
  refine wpAny_pyNext_list_item st p.isList (x:=u) (by simpa using hu) λh' st' sb=> ?_
  have I1:Inv X pins σ H {s with heap:=h'}:=I.turned (t':=s.toks) (λb o hb e=>(sb.2 b hb).trans e) f0 f1 f3 f4 f5
  obtain⟨o,e,c,d⟩:=id st'
  exact⟨u,rfl,vY (s:={s with heap:=h'}) e c d (by decide) ⟨x,H,I1,ru,⟨rfl,λys hy=>by rw[I.list_inj hy hq];exact hx⟩,st',λb hb=>(hf b hb).1⟩⟩
 done:=by
  intro X hP hw hK hc i pins s σ H E I hf st hg
  subst hP hw hK
  obtain⟨xs,hq,hx⟩:=hg
  obtain⟨its,rv,p,hz⟩:=I.list hq
  obtain⟨f0,f1,f2,f3,f4,f5⟩:=hf it (by simp)
  have hl:=rv.length
  exact wpAny_pyNext_list_end (I.ok.hd hc) st p.isList (by simp;ac_nf) λh' eb=>⟨rfl,I.turned (t':=s.toks) (λb o hb e=>eb b o hb e) f0 f1 f3 f4 f5⟩
 self:=λ_ _ _ _ _ st h=>wpAny_pyIter_listiter st h
theorem wS{P:aI}{w:aY}{K:PySem.W.Frag}{tg:Expr}(a it:Addr):rM P w K tg (Itt K a) [it] it (λi h=>h.IsTupleIter it a i) where
 mem:=by simp
 obj:=λi h st b hb=>by
  have e:b=it:=by simpa using hb
  subst e
  obtain⟨o,e,c,d⟩:=st
  exact⟨o,e,λv z=>by rw[d]at z;cases z⟩
 keep:=λi h h' st k=>st.at λo e=>k it (by simp) o e
 item:=by
  intro X hP hw hK hc i pins s σ H E I hf st hg
  subst hP hw hK
  obtain⟨xs,x,hq,hx⟩:=hg
  obtain⟨its,rv,p,hz⟩:=I.tuple hq
  obtain⟨u,hu,ru⟩:=rv.get hx
  obtain⟨f0,f1,f2,f3,f4,f5⟩:=hf it (by simp)
  refine wpAny_pyNext_tuple_item st (show s.heap.IsTuple a its.toArray from p) (x:=u) (by simpa using hu) λh' st' sb=> ?_
  have I1:Inv X pins σ H {s with heap:=h'}:=I.turned (t':=s.toks) (λb o hb e=>(sb.2 b hb).trans e) f0 f1 f3 f4 f5
  obtain⟨o,e,c,d⟩:=id st'
  exact⟨u,rfl,vY (s:={s with heap:=h'}) e c d (by decide) ⟨x,H,I1,ru,⟨rfl,λys hy=>by rw[I.tuple_inj hy hq];exact hx⟩,st',λb hb=>(hf b hb).1⟩⟩
 done:=by
  intro X hP hw hK hc i pins s σ H E I hf st hg
  subst hP hw hK
  obtain⟨xs,hq,hx⟩:=hg
  obtain⟨its,rv,p,hz⟩:=I.tuple hq
  obtain⟨f0,f1,f2,f3,f4,f5⟩:=hf it (by simp)
  have hl:=rv.length
  exact wpAny_pyNext_tuple_end (I.ok.hd hc) st (show s.heap.IsTuple a its.toArray from p) (by simp;ac_nf) λh' eb=>⟨rfl,I.turned (t':=s.toks) (λb o hb e=>eb b o hb e) f0 f1 f3 f4 f5⟩
 self:=λ_ _ _ _ _ st h=>wpAny_pyIter_tupleiter st h
theorem wU{P:aI}{w:aY}{K:PySem.W.Frag}{tg:Expr}(it:Addr)(lo:Int)(n:Nat):rM P w K tg (NO lo n) [it] it (λi h=>IsRangeIter h it (lo+(i:Nat)*1) ((n:Int)-(i:Nat)) 1) where
 mem:=by simp
 obj:=λi h st b hb=>by
  have e:b=it:=by simpa using hb
  subst e
  exact⟨_,st,λv z=>by
   have z':cZ _=Data.cell v:=z
   cases z'⟩
 keep:=λi h h' st k=>k it (by simp) _ st
 item:=by
  intro X hP hw hK hc i pins s σ H E I hf st hg
  subst hP hw hK
  obtain⟨f0,f1,f2,f3,f4,f5⟩:=hf it (by simp)
  have W:=Walks.range (prog:=X.prog) (w:=X.w) (I.ok.hd hc) it lo 1 n
  refine W.item i s _ _ hg st λv h' tk hv st' kk=> ?_
  obtain⟨t,rfl⟩:=hv
  have I1:Inv X pins σ H {s with heap:=h',toks:=tk}:=I.turned (λb o hb e=>kk b o (by simpa using hb) e) f0 f1 f3 f4 f5
  refine⟨_,rfl,vY (s:={s with heap:=h',toks:=tk}) (n:= "range_iterator") st' rfl rfl (by decide) ⟨.int (lo+i),H,I1,⟨t,?_⟩,⟨rfl,rfl⟩,st',λb hb=>(hf b hb).1⟩⟩
  rw[Int.mul_one]
 done:=by
  intro X hP hw hK hc i pins s σ H E I hf st hg
  subst hP hw hK
  obtain⟨f0,f1,f2,f3,f4,f5⟩:=hf it (by simp)
  exact wpAny_pyNext_range_end (I.ok.hd hc) st (by have:n<=i:=hg;ac_nf) λh' eb=>⟨rfl,I.turned (t':=s.toks) (λb o hb e=>eb b o hb e) f0 f1 f3 f4 f5⟩
 self:=λ_ _ _ _ _ st h=>wpAny_pyIter_rangeiter st h
section
variable{X:Cx}{tg:Expr}
noncomputable def Nh(K:PySem.W.Frag)(tl:TE):TI:=λσ H R=>tl σ H λx H1=>∃a,x= .ref a/\(∃xs,SqL K H1 a xs)/\R (O3 K a) H1
theorem Fh{l:Expr}{tl:TE}(hl:PE X l tl):PI X tg l (Nh X.K tl):=by
 intro pins s σ H R I h
 refine dZ (hl pins s σ H _ I h) λv s1 hPl=> ?_
 obtain⟨x,H1,I1,r1,q1⟩:=hPl
 obtain⟨a,e,⟨xs,hq⟩,q⟩:=q1
 subst e
 cases r1
 obtain⟨its,rv,p,hz⟩:=I1.list hq
 refine sX p.isList ?_
 refine⟨s1.heap.objs.size,[s1.heap.objs.size],_,_,H1,rfl,I1.kept (t':=s1.toks) λb o e=>ak _ e,rV a _,⟨_,aJ _ rfl,rfl,rfl⟩,λb hb=> ?_,q⟩
 have e:b=s1.heap.objs.size:=by simpa using hb
 subst e
 exact I1.fpOk (av _) (I1.hok.fresh (av _))
theorem vm{pins:List (Addr×Obj)}{σ:St}{H:Hp}{s:ai}{R:It->Hp->Prop}{E:ae->ai->Prop}{lo hi:Int}{t u v:Tok}{tk:Nat}(I:Inv X pins σ H s)(h1: -(2^62)<=lo)(h2:lo<2^62)(h3: -(2^62)<=hi)(h4:hi<2^62)
  (q:R (NO lo (hi-lo).toNat) H):wpAny (aQ X.prog X.w) X.A (pyIter (.ref s.heap.objs.size)) (O0 X pins σ tg R) E {s with heap:=s.heap.push {cls:= .type "range",data:= .fields #[.int lo t,.int hi u,.int 1 v]},toks:=tk}:=by
 refine wpAny_pyIter_range (IsRange.new ..) (small_one h1 h2 h3 h4) ?_
 have I1:Inv X pins σ H {s with heap:=s.heap.push {cls:= .type "range",data:= .fields #[.int lo t,.int hi u,.int 1 v]},toks:=tk}:=I.kept λb o e=>ak _ e
 refine⟨(s.heap.push {cls:= .type "range",data:= .fields #[.int lo t,.int hi u,.int 1 v]}).objs.size,[(s.heap.push {cls:= .type "range",data:= .fields #[.int lo t,.int hi u,.int 1 v]}).objs.size],_,_,H,rfl,
  I1.kept (t':=tk) λb o e=>ak _ e,wU _ lo (hi-lo).toNat,?_,λb hb=> ?_,q⟩
 ·have e1:lo+((0:Nat):Int)*1=lo:=by simp
  have e2:(((hi-lo).toNat:Nat):Int)-((0:Nat):Int)=eE lo hi 1:=by rw[rangeSize_one];split<;>ac_nf
  show IsRangeIter _ _ (lo+((0:Nat):Int)*1) ((((hi-lo).toNat:Nat):Int)-((0:Nat):Int)) 1
  rw[e1,e2]
  exact aJ _ rfl
 ·have e:b=(s.heap.push {cls:= .type "range",data:= .fields #[.int lo t,.int hi u,.int 1 v]}).objs.size:=by simpa using hb
  subst e
  exact I1.fpOk (av _) (I1.hok.fresh (av _))
noncomputable def Ng(ta:TA):TI:=λσ H R=>ta σ H λvs H1=>∃j:Int,vs=[.int j]/\-(2^62)<=j/\j<2^62/\R (NO 0 j.toNat) H1
noncomputable def Nf(ta:TA):TI:=λσ H R=>ta σ H λvs H1=>∃i j:Int,vs=[.int i,.int j]/\(-(2^62)<=i/\i<2^62/\-(2^62)<=j/\j<2^62)/\R (NO i (j-i).toNat) H1
theorem Aj{a:Expr}{ta:TA}{p pos:Pos}(hg:Gl X "range")(hm:X.mg "range" =none)(ha:PA X [a] ta)(hs:aq [a] X.env=[(false,eval a X.env)]:=by rfl):PI X tg (.Call (.Name "range" p) [a] [] pos) (Ng ta):=by
 intro pins s σ H R I h
 refine Call_ (lI I hg hm boot_range (dG (dZ (ha pos pins s σ H _ I h) λus s1 hPl=> ?_) hs rfl))
 obtain⟨vs,H1,I1,r1,q1⟩:=hPl
 obtain⟨j,e,q1,q2,q⟩:=q1
 subst e
 cases r1 with
 |cons r rr=>
  cases rr
  obtain⟨t,rfl⟩:=r
  exact call_range_1 (vm I1 (by ac_nf) (by ac_nf) q1 q2 (by simpa using q))
theorem Ai{a b:Expr}{ta:TA}{p pos:Pos}(hg:Gl X "range")(hm:X.mg "range" =none)(ha:PA X [a,b] ta)(hs:aq [a,b] X.env=[(false,eval a X.env),(false,eval b X.env)]:=by rfl)(hs2:aq [b] X.env=[(false,eval b X.env)]:=by rfl):
  PI X tg (.Call (.Name "range" p) [a,b] [] pos) (Nf ta):=by
 intro pins s σ H R I h
 refine Call_ (lI I hg hm boot_range (dG (dZ (ha pos pins s σ H _ I h) λus s1 hPl=> ?_) (by rw[hs,hs2]) (by rw[hs2];rfl)))
 obtain⟨vs,H1,I1,r1,q1⟩:=hPl
 obtain⟨i,j,e,⟨q1,q2,q3,q4⟩,q⟩:=q1
 subst e
 cases r1 with
 |cons r rr=>
  cases rr with
  |cons r' rr=>
   cases rr
   obtain⟨t,rfl⟩:=r
   obtain⟨t',rfl⟩:=r'
   exact call_range_2 (vm I1 q1 q2 q3 q4 q)
noncomputable def Oc(wi:TI)(g:TG)(tb:TS):TS:=λD σ H=>wi σ H λJ H1=>∃W:Nat->Nat->St->Hp->Prop,(∃m,W 0 m σ H1)/\∀i m σ H,W i m σ H->
 (J.stop i H/\D.nx σ H)\/(J.go i H/\∃N:St->Hp->Prop,(∀σ' H',N σ' H'->∃m',m'<m/\W (i+1) m' σ' H')/\∀x H',J.yld i H x H'->g x σ H' λσ2 H2=>tb {D with nx:=N,ct:=N,bk:=D.nx} σ2 H2)
noncomputable def n5(fp:List Addr)(h:Heap):List (Addr×Obj):=fp.filterMap λb=>(h.get? b).map λo=>(b,o)
theorem gX{fp:List Addr}{h:Heap}{b:Addr}{o:Obj}(hb:b∈fp)(e:h.get? b=some o):(b,o)∈n5 fp h:=List.mem_filterMap.mpr ⟨b,hb,by rw[e];rfl⟩
theorem Aw{fp:List Addr}{h:Heap}{p:Addr×Obj}(hp:p∈n5 fp h):p.1∈fp/\h.get? p.1=some p.2:=by
 obtain⟨b,hb,e⟩:=List.mem_filterMap.mp hp
 cases q:h.get? b with
 |none=>rw[q]at e;cases e
 |some o=>
  rw[q]at e
  have e':(b,o)=p:=a8 e
  subst e'
  exact⟨hb,q⟩
theorem Inv.pinned{pins:List (Addr×Obj)}{σ:St}{H:Hp}{s:ai}{fp:List Addr}(I:Inv X pins σ H s)(hf:∀b∈fp,ph X pins H b)(ho:∀b∈fp,∃o,s.heap.get? b=some o/\∀v,o.data≠ .cell v):Inv X (pins++n5 fp s.heap) σ H s:=
 I.pins_of λp hp=>(aR.mp hp).elim (λz=>I.pin p (aX _ z)) λz=>by
  obtain⟨hb,e⟩:=Aw z
  obtain⟨f0,f1,f2,_⟩:=hf p.1 hb
  obtain⟨o,e',d⟩:=ho p.1 hb
  rw[e]at e';cases e'
  exact⟨e,f0,f1,f2,d⟩
theorem Inv.unpinned{pins pl:List (Addr×Obj)}{σ:St}{H:Hp}{s:ai}(I:Inv X (pins++pl) σ H s):Inv X pins σ H s:=I.pins_of λp hp=>I.pin p (aX _ (lX _ hp))
theorem IH{iter:Expr}{body:List Stmt}{wi:TI}{g:TG}{tb:TS}{pos:Pos}(hp:PassesOwn (aQ X.prog X.w) X.A X.env X.xe)(hc:X.calm=true)(hi:PI X tg iter wi)(hg:PG X tg g)(hb:PSs X body tb)
  (hs:∀x,dU iter X.env x=pure x:=by intro _;rfl):PS X (.For tg iter body [] pos) (Oc wi g tb):=by
 intro pins s σ H D I h
 refine wpAny_For (dZ (hi pins s σ H _ I h) λv s1 h1=>dZ h1 λitv s2 h2=> ?_) hs
 obtain⟨it,fp,tn,J,H2,e,I2,T,st2,f2,W,⟨m0,w0⟩,turn⟩:=h2
 subst e
 -- what stays true of the iterator's objects through the loop
 have stat:∀{H':Hp},(∀b∈fp,H' b=none)->∀b∈fp,ph X pins H' b:=λhn b hb=>⟨hn b hb,(f2 b hb).2⟩
 refine codeAny_forLoop_any (λn s'=>∃i σ' H',Inv X pins σ' H' s'/\tn i s'.heap/\(∀b∈fp,H' b=none)/\W i n σ' H') ?_ m0 ⟨0,σ,H2,I2,st2,λb hb=>(f2 b hb).1,w0⟩
 rintro n s3 ⟨i,σ3,H3,I3,st3,fr3,w3⟩
 rcases turn i n σ3 H3 w3 with⟨stop,qn⟩|⟨go,N,hN,step⟩
 ·refine fQ hp (dZ (T.done X rfl rfl rfl hc i pins s3 σ3 H3 X.xe I3 (stat fr3) st3 stop) λr s4 hPl=> ?_)
  obtain⟨hr,I4⟩:=hPl
  subst hr
  exact hZ ⟨σ3,H3,I4,qn⟩
 ·refine fQ hp (dZ (T.item X rfl rfl rfl hc i pins s3 σ3 H3 X.xe I3 (stat fr3) st3 go) λr s4 hPl=> ?_)
  obtain⟨u,hr,h4⟩:=hPl
  subst hr
  refine fQ hp (dZ h4 λ_ s5 hPl=> ?_)
  obtain⟨x,H5,I5,r5,y5,st5,fr5⟩:=hPl
  have I5':=I5.pinned (stat fr5) (T.obj _ _ st5)
  refine fQ hp (dZ (hg _ s5 σ3 H5 x u _ I5' r5 (step x H5 y5)) λ_ s6 hPl=> ?_)
  obtain⟨σ6,H6,I6,q6⟩:=hPl
  refine fQ hp (dZ (hb _ s6 σ6 H6 _ I6 q6) λf s7 q7=> ?_)
  have again:∀{σ7:St} {H7:Hp},Inv X (pins++n5 fp s5.heap) σ7 H7 s7->N σ7 H7->∃m,m<n/\∃i σ' H',Inv X pins σ' H' s7/\tn i s7.heap/\(∀b∈fp,H' b=none)/\W i m σ' H':=fun{σ7 H7} I7 n7=>by
   obtain⟨m',hm,w7⟩:=hN σ7 H7 n7
   refine⟨m',hm,i+1,σ7,H7,I7.unpinned,T.keep _ _ _ st5 λb hb o e=>(I7.pin (b,o) (aX _ (aX _ (gX hb e)))).1,λb hb=> ?_,w7⟩
   obtain⟨o,e,d⟩:=T.obj _ _ st5 b hb
   exact(I7.pin (b,o) (aX _ (aX _ (gX hb e)))).2.1
  cases f with
  |next=>obtain⟨σ7,H7,I7,n7⟩:=q7;exact again I7 n7
  |cont=>obtain⟨σ7,H7,I7,n7⟩:=q7;exact again I7 n7
  |brk=>obtain⟨σ7,H7,I7,q7⟩:=q7;exact⟨σ7,H7,I7.unpinned,q7⟩
  |ret v=>obtain⟨x7,σ7,H7,I7,r7,q7⟩:=q7;exact⟨x7,σ7,H7,I7.unpinned,r7,q7⟩
end
noncomputable abbrev R2:=V->V->Hp->VK->Prop
noncomputable def ic(X:Cx)(f:ae->ae->Sem ae)(r:R2):Prop:=
 ∀(pins:List (Addr×Obj)) (s:ai) (σ:St) (H:Hp) (x y:V) (v u:ae) (Q:VK),Inv X pins σ H s->RelV x v->RelV y u->r x y H Q->
  wpAny (aQ X.prog X.w) X.A (f v u) (EP X pins σ Q) X.xe s
noncomputable def NJ(X:Cx)(f:ae->Sem ae)(r:V->Hp->VK->Prop):Prop:=
 ∀(pins:List (Addr×Obj)) (s:ai) (σ:St) (H:Hp) (x:V) (v:ae) (Q:VK),Inv X pins σ H s->RelV x v->r x H Q->
  wpAny (aQ X.prog X.w) X.A (f v) (EP X pins σ Q) X.xe s
noncomputable def gx(X:Cx)(f:ae)(r:List V->Hp->VK->Prop):Prop:=
 ∀(pins:List (Addr×Obj)) (s:ai) (σ:St) (H:Hp) (xs:List V) (us:List ae) (Q:VK),Inv X pins σ H s->Vals xs us->r xs H Q->
  wpAny (aQ X.prog X.w) X.A (call f us) (EP X pins σ Q) X.xe s
noncomputable def Lq(r:R2)(ta tb:TE):TE:=λσ H Q=>ta σ H λx H1=>tb σ H1 λy H2=>r x y H2 Q
noncomputable def tUn(r:V->Hp->VK->Prop)(ta:TE):TE:=λσ H Q=>ta σ H λx H1=>r x H1 Q
noncomputable def rI(C:Int->Int->Prop)(g:Int->Int->V):R2:=λx y H Q=>∃i j,x= .int i/\y= .int j/\C i j/\Q (g i j) H
noncomputable def EW(g:Int->Int->V):R2:=λx y H Q=>∃i j,x= .int i/\y= .int j/\Q (g i j) H
noncomputable def rU(g:Int->V):V->Hp->VK->Prop:=λx H Q=>∃i,x= .int i/\Q (g i) H
section
variable{X:Cx}{a b:Expr}{ta tb:TE}{pos:Pos}
theorem KU(ha:PE X a ta)(hb:PE X b tb){pins:List (Addr×Obj)}{s:ai}{σ:St}{H:Hp}{R:V->V->Hp->Prop}(I:Inv X pins σ H s)
  (h:ta σ H λx H1=>tb σ H1 λy H2=>R x y H2) {Q:ae->ai->Prop} {f:ae->ae->Sem ae}
  (hf:∀v u s2 x y H2,Inv X pins σ H2 s2->RelV x v->RelV y u->R x y H2->wpAny (aQ X.prog X.w) X.A (f v u) Q X.xe s2):
  wpAny (aQ X.prog X.w) X.A (eval a X.env) (λv s₁=>wpAny (aQ X.prog X.w) X.A (eval b X.env) (λu s₂=>wpAny (aQ X.prog X.w) X.A (f v u) Q X.xe s₂) X.xe s₁) X.xe s:=by
 refine dZ (ha pins s σ H _ I h) λv s1 hPl=> ?_
 obtain⟨x,H1,I1,r1,q1⟩:=hPl
 refine dZ (hb pins s1 σ H1 _ I1 q1) λu s2 hPl=> ?_
 obtain⟨y,H2,I2,r2,q2⟩:=hPl
 exact hf v u s2 x y H2 I2 r1 r2 q2
theorem LP{op:jX}{r:R2}(ho:ic X (cK op) r)(ha:PE X a ta)(hb:PE X b tb):PE X (.BinOp a op b pos) (Lq r ta tb):=by
 intro pins s σ H Q I h
 exact wpAny_BinOp (KU ha hb I h λv u s2 x y H2 I2 rx ry q=>ho pins s2 σ H2 x y v u Q I2 rx ry q)
theorem HA{op:UnaryOp}{r:V->Hp->VK->Prop}(ho:NJ X (unaryOp op) r)(ha:PE X a ta):PE X (.UnaryOp op a pos) (tUn r ta):=by
 intro pins s σ H Q I h
 exact UnaryOp_ (dZ (ha pins s σ H _ I h) λv s1 ⟨x,H1,I1,r1,q1⟩=>ho pins s1 σ H1 x v Q I1 r1 q1)
theorem NS{f:ae->ae->Sem ae}{C:Int->Int->Prop}{g:Int->Int->Int}
  (rule:∀(i j:Int) (t u:Tok) (s:ai) (Q:ae->ai->Prop) (E:ae->ai->Prop),C i j->Q (.int (g i j) s.toks) {s with toks:=s.toks+1}->wpAny (aQ X.prog X.w) X.A (f (.int i t) (.int j u)) Q E s):
  ic X f (rI C λi j=> .int (g i j)):=by
 intro pins s σ H x y v u Q I rx ry h
 obtain⟨i,j,rfl,rfl,hc,q⟩:=h
 obtain⟨t,rfl⟩:=rx
 obtain⟨t',rfl⟩:=ry
 exact rule i j t t' s _ _ hc ⟨.int (g i j),H,I.tok _,⟨_,rfl⟩,q⟩
theorem LY{f:ae->ae->Sem ae}{g:Int->Int->Int}
  (rule:∀(i j:Int) (t u:Tok) (s:ai) (Q:ae->ai->Prop) (E:ae->ai->Prop),Q (.int (g i j) s.toks) {s with toks:=s.toks+1}->wpAny (aQ X.prog X.w) X.A (f (.int i t) (.int j u)) Q E s):
  ic X f (EW λi j=> .int (g i j)):=by
 intro pins s σ H x y v u Q I rx ry h
 obtain⟨i,j,rfl,rfl,q⟩:=h
 obtain⟨t,rfl⟩:=rx
 obtain⟨t',rfl⟩:=ry
 exact rule i j t t' s _ _ ⟨.int (g i j),H,I.tok _,⟨_,rfl⟩,q⟩
theorem Fw{f:ae->ae->Sem ae}{g:Int->Int->Bool}
  (rule:∀(i j:Int) (t u:Tok) (s:ai) (Q:ae->ai->Prop) (E:ae->ai->Prop),Q (.bool (g i j)) s->wpAny (aQ X.prog X.w) X.A (f (.int i t) (.int j u)) Q E s):
  ic X f (EW λi j=> .bl (g i j)):=by
 intro pins s σ H x y v u Q I rx ry h
 obtain⟨i,j,rfl,rfl,q⟩:=h
 obtain⟨t,rfl⟩:=rx
 obtain⟨t',rfl⟩:=ry
 exact rule i j t t' s _ _ ⟨.bl (g i j),H,I,rfl,q⟩
noncomputable def Lc(i j:Int):Prop:=0<=j/\j<=1000000/\i.natAbs<2^64
noncomputable def CMul(i j:Int):Prop:=(-(2^64)<i/\i<2^64)\/(-(2^64)<j/\j<2^64)
theorem CMul.ok{i j:Int}(h:CMul i j):IntMulOk i j:=by
 rcases h with⟨h1,h2⟩|⟨h1,h2⟩
 ·exact .of_left (intBits_le_64 h1 h2)
 ·exact .of_right (intBits_le_64 h1 h2)
theorem Jf:ic X (cK .Add) (EW λi j=> .int (i+j)):=LY λ_ _ _ _ _ _ _ q=>add_int q
theorem IZ:ic X (cK .Sub) (EW λi j=> .int (i-j)):=LY λ_ _ _ _ _ _ _ q=>sub_int q
theorem Jd:ic X (cK .Mult) (rI CMul λi j=> .int (i*j)):=NS λ_ _ _ _ _ _ _ hc q=>mul_int q hc.ok
theorem Je:ic X (cK .Mod) (rI (λ_ j=>0<j) λi j=> .int (i%j)):=NS λi j _ _ _ _ _ hc q=>by
 have h1:(0:Int)<j:=hc
 exact mod_int' (by ac_nf) (by rw[Int.fmod_eq_emod_of_nonneg i (by ac_nf)];exact q)
theorem Jb:ic X (cK .Pow) (rI Lc λi j=> .int (i^j.toNat)):=NS λ_ _ _ _ _ _ _ hc q=>pow_int_small hc.1 hc.2.1 hc.2.2 q
theorem unI{f:ae->Sem ae}{g:Int->Int}
  (rule:∀(i:Int) (t:Tok) (s:ai) (Q:ae->ai->Prop) (E:ae->ai->Prop),Q (.int (g i) s.toks) {s with toks:=s.toks+1}->wpAny (aQ X.prog X.w) X.A (f (.int i t)) Q E s):
  NJ X f (rU λi=> .int (g i)):=by
 intro pins s σ H x v Q I rx h
 obtain⟨i,rfl,q⟩:=h
 obtain⟨t,rfl⟩:=rx
 exact rule i t s _ _ ⟨.int (g i),H,I.tok _,⟨_,rfl⟩,q⟩
theorem BC:NJ X (unaryOp .USub) (rU λi=> .int (-i)):=unI λ_ _ _ _ _ q=>neg_int q
end
section
variable{X:Cx}{a b c:Expr}{ta tb tc:TE}{pos:Pos}
theorem xQ{pins:List (Addr×Obj)}{σ:St}{H:Hp}{s:ai}{Q:VK}{k k':Bool}(I:Inv X pins σ H s)(q:Q (.bl k) H)(e:k=k'):EP X pins σ Q (.bool k') s:=by
 subst e
 exact⟨.bl k,H,I,rfl,q⟩
theorem LU:ic X (bQ .Lt) (EW λi j=> .bl (decide (i<j))):=Fw λ_ _ _ _ _ _ _ q=>lt_int q
theorem LV:ic X (bQ .LtE) (EW λi j=> .bl (decide (i<=j))):=Fw λ_ _ _ _ _ _ _ q=>le_int q
theorem LW:ic X (bQ .Gt) (EW λi j=> .bl (decide (j<i))):=Fw λ_ _ _ _ _ _ _ q=>gt_int q
theorem LX:ic X (bQ .GtE) (EW λi j=> .bl (decide (j<=i))):=Fw λ_ _ _ _ _ _ _ q=>ge_int q
theorem Al:ic X (bQ .Lt) (λx y H Q=>∃i j,x= .str i/\y= .str j/\Q (.bl (decide (i.cps.toList<j.cps.toList))) H):=by
 intro pins s σ H x y v u Q I rx ry h
 obtain⟨i,j,rfl,rfl,q⟩:=h
 obtain⟨t,rfl⟩:=rx
 obtain⟨t',rfl⟩:=ry
 exact lt_str (xQ I q rfl)
theorem An:ic X (bQ .In) (λx y H Q=>∃i j,x= .str i/\y= .str j/\Q (.bl (!(fX j i 0 j.length 1).isEmpty)) H):=by
 intro pins s σ H x y v u Q I rx ry h
 obtain⟨i,j,rfl,rfl,q⟩:=h
 obtain⟨t,rfl⟩:=rx
 obtain⟨t',rfl⟩:=ry
 exact in_str (xQ I q rfl)
theorem kg(b:Expr){op:CmpOp}(h:op≠ .In:=by decide)(h2:op≠ .NotIn:=by decide):g6 op b=false:=by
 have e1:(op==CmpOp.In)=false:=by cases op<;>first|rfl|exact absurd rfl h
 have e2:(op==CmpOp.NotIn)=false:=by cases op<;>first|rfl|exact absurd rfl h2
 cases b<;>simp[g6,e1,e2]
theorem Fq{op:CmpOp}{r:R2}(ho:ic X (bQ op) r)(ha:PE X a ta)(hb:PE X b tb)(hm:g6 op b=false):PE X (.Compare a [op] [b] pos) (Lq r ta tb):=by
 intro pins s σ H Q I h
 exact wpAny_Compare1 (KU ha hb I h λv u s2 x y H2 I2 rx ry q=>ho pins s2 σ H2 x y v u Q I2 rx ry q) hm
noncomputable def BH(t:TE):TT:=λσ H Q=>t σ H λx H'=>∃k,x= .bl k/\Q k H'
theorem E3{op:CmpOp}{r:R2}(ho:ic X (bQ op) r)(ha:PE X a ta)(hb:PE X b tb)(hm:g6 op b=false):PT X (.Compare a [op] [b] pos) (BH (Lq r ta tb)):=by
 intro pins s σ H Q I h
 refine wpAny_isTrue_Compare1 (dZ (ha pins s σ H _ I h) λv s1 ⟨x,H1,I1,r1,q1⟩=>dZ (hb pins s1 σ H1 _ I1 q1) λu s2 ⟨y,H2,I2,r2,q2⟩=>
  dZ (ho pins s2 σ H2 x y v u _ I2 r1 r2 q2) λc s3 ⟨z,H3,I3,r3,k,e,q3⟩=> ?_) hm
 subst e
 cases r3
 exact fT ⟨H3,I3,q3⟩
noncomputable def BK(r r':R2)(ta tb tc:TE):TE:=λσ H Q=>ta σ H λx H1=>tb σ H1 λy H2=>r x y H2 λz H3=>∃k,z= .bl k/\
 (if k=true then tc σ H3 λw' H4=>r' y w' H4 Q else Q (.bl false) H3)
theorem B8{op op':CmpOp}{r r':R2}(ho:ic X (bQ op) r)(ho':ic X (bQ op') r')(ha:PE X a ta)(hb:PE X b tb)(hc:PE X c tc)
  (hm:lastMarks [op,op'] [b,c]=false:=by with_unfolding_all rfl):PT X (.Compare a [op,op'] [b,c] pos) (BH (BK r r' ta tb tc)):=by
 intro pins s σ H Q I h
 refine isTrue_chain (dZ (ha pins s σ H _ I h) λv s1 ⟨x,H1,I1,r1,q1⟩=>test_link (dZ (hb pins s1 σ H1 _ I1 q1) λu s2 ⟨y,H2,I2,r2,q2⟩=>
  dZ (ho pins s2 σ H2 x y v u _ I2 r1 r2 q2) λd s3 ⟨z,H3,I3,r3,k,e,q3⟩=> ?_)) hm
 subst e
 cases r3
 refine fT ?_
 cases k with
 |false=>
  obtain⟨k',e',q'⟩:=q3
  cases e'
  exact ite_ff ⟨H3,I3,q'⟩
 |true=>
  refine ite_tt (test_last (dZ (hc pins s3 σ H3 _ I3 q3) λw' s4 ⟨z',H4,I4,r4,q4⟩=>dZ (ho' pins s4 σ H4 y z' u w' _ I4 r2 r4 q4) λd' s5 ⟨z2,H5,I5,r5,k2,e2,q5⟩=> ?_))
  subst e2
  cases r5
  exact fT ⟨H5,I5,q5⟩
theorem lH:(aK:Nat)<2^63:=by rw[gA];decide
theorem xt:ic X (cK .Add) (λx y H Q=>∃i j,x= .str i/\y= .str j/\i.length+j.length<=aK/\Q (.str (i++j)) H):=by
 intro pins s σ H x y v u Q I rx ry h
 obtain⟨i,j,rfl,rfl,hz,q⟩:=h
 obtain⟨t,rfl⟩:=rx
 obtain⟨t',rfl⟩:=ry
 exact add_str (λt' tk=>⟨.str (i++j),H,I.tok _,⟨_,rfl⟩,q⟩) hz
theorem yj{x:V}{us:List ae}(r:Vals [x] us):∃u,us=[u]/\RelV x u:=by
 cases r with
 |cons r1 r2=>cases r2;exact⟨_,rfl,r1⟩
theorem Hg{x y:V}{us:List ae}(r:Vals [x,y] us):∃u w',us=[u,w']/\RelV x u/\RelV y w':=by
 cases r with
 |cons r1 r2=>
  cases r2 with
  |cons r3 r4=>cases r4;exact⟨_,_,rfl,r1,r3⟩
theorem A8(hc:X.calm=true):gx X (.builtin "max") (λxs H Q=>∃i j,xs=[.int i,.int j]/\Q (.int (if j>i then j else i)) H):=by
 intro pins s σ H xs us Q I r h
 obtain⟨i,j,rfl,q⟩:=h
 obtain⟨u,w',rfl,⟨t,rfl⟩,⟨t',rfl⟩⟩:=Hg r
 refine max_two_ints (I.ok.hd hc) λh' tk k=>⟨_,H,I.kept k,?_,q⟩
 by_cases hj:j>i
 ·rw[if_pos hj,if_pos hj];exact⟨_,rfl⟩
 ·rw[if_neg hj,if_neg hj];exact⟨_,rfl⟩
theorem A7(hc:X.calm=true):gx X (.builtin "min") (λxs H Q=>∃i j,xs=[.int i,.int j]/\Q (.int (if j<i then j else i)) H):=by
 intro pins s σ H xs us Q I r h
 obtain⟨i,j,rfl,q⟩:=h
 obtain⟨u,w',rfl,⟨t,rfl⟩,⟨t',rfl⟩⟩:=Hg r
 refine min_two_ints (I.ok.hd hc) λh' tk k=>⟨_,H,I.kept k,?_,q⟩
 by_cases hj:j<i
 ·rw[if_pos hj,if_pos hj];exact⟨_,rfl⟩
 ·rw[if_neg hj,if_neg hj];exact⟨_,rfl⟩
end
structure ObjM(h:Heap)(x dx C:Addr)(mA:Str->Option ae):Prop where
 obj:h.get? x=some (PySem.W.instObj C dx)
 ns:h.Ns1 dx mA
 ne:dx≠x
theorem AE{h:Heap}{dx:Addr}{mA:Str->Option ae}(n:h.Ns1 dx mA):∃od,h.get? dx=some od/\∀name,PySem.W.lookIn name od=some (mA name):=by
 obtain⟨o,es,ep,ho,hd,hk,_,hm⟩:=n
 refine⟨o,ho,λname=> ?_⟩
 have e:=hm name
 unfold nsFind findBy at e
 rw[<-Array.find?_toList]at e
 unfold PySem.W.lookIn
 rw[hd]
 dsimp only
 split
 ·rename_i y q
  rw[q]at e
  exact congrArg some e
 ·rename_i q
  rw[q]at e
  have a:es.toList.any (·.refKey)=false:=by
   rw[List.any_eq_false]
   intro y hy
   obtain⟨z,t,hkey⟩:=hk y (Array.mem_toList_iff.mp hy)
   simp[DictEntry.refKey,hkey]
  have a':¬es.toList.any (·.refKey)=true:=by rw[a];exact bd
  rw[if_neg a']
  exact congrArg some e
theorem ObjM.look{h:Heap}{x dx C:Addr}{mA:Str->Option ae}(I:ObjM h x dx C mA):∃od,PySem.W.InstAt h x (PySem.W.instObj C dx) C (some od)/\∀name,PySem.W.lookIn name od=some (mA name):=
 let⟨od,ho,hl⟩:=AE I.ns
 ⟨od,⟨I.obj,rfl,rfl,ho⟩,hl⟩
section
variable{prog:aI}{w:aY}{A:Around}{E:ae->ai->Prop}{s:ai}{K:PySem.W.Frag}{x dx C f:Addr}{mA:Str->Option ae}{name:Str}{v:ae}
theorem GA{expr:Bool}{Q:ae->ai->Prop}(X:K.In s.heap)(I:ObjM s.heap x dx C mA)(hg:PySem.W.plainGet K C name=true)(hh:PySem.W.hasDictIn K C=true)
  (ha:PySem.W.findIn K (.ref C) name=some none) (hv:mA name=some v) (hv':PySem.W.handedIn v=true) (h:Q v {s with toks:=s.toks+1}):
  wpAny (aQ prog w) A (getAttr (.ref x) name expr) Q E s:=by
 obtain⟨od,J,hl⟩:=I.look
 exact PySem.W.get_value X J (PySem.W.plainGet_of hg).1 (PySem.W.findObj_own hh ha rfl (by rw[hl,hv])) hv' h
theorem DL{pl:Sem Bool}{Q:ae×List ae->ai->Prop}(X:K.In s.heap)(I:ObjM s.heap x dx C mA)(hg:PySem.W.plainGet K C name=true)
  (hf:PySem.W.findIn K (.ref C) name=some (some (.ref f))) (ht:PySem.W.isFn K (.ref f)=true) (hv:mA name=none) (h:Q (.ref f,[.ref x]) s):
  wpAny (aQ prog w) A (getMethod (.ref x) name pl) Q E s:=by
 obtain⟨od,J,hl⟩:=I.look
 exact PySem.W.method_fn X J (PySem.W.plainGet_of hg).1 (PySem.W.plainGet_of hg).2 hf (beq_iff_eq.mp ht) (by show(PySem.W.lookIn name od).map (·.isSome)=some false;rw[hl,hv];rfl) h
theorem EN{ns:List Str}{Q:Unit->ai->Prop}(X:K.In s.heap)(I:ObjM s.heap x dx C mA)
  (hs:PySem.W.findIn K (.ref C) "__setattr__" =some (some (.builtin "object.__setattr__"))) (hp:PySem.W.plainOver K C=true) (ht:PySem.W.takerIn K C name=some none) (hh:PySem.W.hasDictIn K C=true)
  (hw:PySem.Within mA ns) (hsz:ns.length<=aK)
  (h:∀h',ObjM h' x dx C (λy=>if y=name then some v else mA y)->dW dx s.heap h'->Q () {s with heap:=h',toks:=s.toks+2}):
  wpAny (aQ prog w) A (setAttr (.ref x) name v) Q E s:=by
 obtain⟨od,J,hl⟩:=I.look
 refine PySem.W.set_plain X J hs (PySem.W.osa_open (s:={s with toks:=s.toks+1}) (r:=none) X J hp ht λb=> ?_)
 obtain⟨cd,hc,hd'⟩:=PySem.W.any_some hh
 have hx:s.heap.get? x=some ⟨.ref C,some dx,.plain,#[]⟩:=I.obj
 refine aa (aA (aa (aa (wpAny_loadPart hx (aa (PySem.W.Looks.here (s:={s with toks:=s.toks+1}) (PySem.W.looks_clsIn X hc) ?_))))))
 rw[hd']
 refine aA (a:=some dx) (aa (aA (aa ?_)))
 refine wpAny_nsSet1 (s:={s with toks:=s.toks+1}) I.ns λh' hn2 hs2=> ?_
 obtain⟨oD,esD,epD,hoD,hdD,hcD⟩:=hn2.count (PySem.Within.cons name v hw)
 refine aa (wpAny_lookBehind hoD (by rw[hdD];exact pastItsLine_dict (aO hcD (by rw[aT];ac_nf))) ?_)
 exact aA (h _ ⟨(hs2.2 _ (aG I.ne)).trans I.obj,hn2,I.ne⟩ hs2)
theorem Db{R:Result->ai->Prop}{vs:List ae}{kw:List (Str×ae)}(X:K.In s.heap)(hm:PySem.W.makesIn K C=true)
  (hi:PySem.W.findIn K (.ref C) "__init__" =some (some (.ref f))) (hf:PySem.W.typeIn K (.ref f)=some (.type "function"))
  (h:codeAny (aQ prog w) (A.under (.builtin "type.__call__" ⟨.ref C::vs,kw⟩)) (.call (.ref f) ⟨.ref (s.heap.objs.size+1)::vs,kw⟩) (PySem.W.InitBack (s.heap.objs.size+1) R)
   {s with heap:=(s.heap.push PySem.W.emptyDict).push (PySem.W.instObj C s.heap.objs.size)}):
  codeAny (aQ prog w) A (.call (.ref C) ⟨vs,kw⟩) R s:=by
 obtain⟨hh,g,d,t,os⟩:=s
 exact PySem.W.make_core (PySem.W.makes_of X hm) (PySem.W.looks_findIn X hi) (λself=>PySem.W.bind_fn X self hf) (.inl rfl) h
end
noncomputable def iP(f:Str)(v:V):List (Str×V)->List (Str×V)
 |[]=>[(f,v)]
 |(g,x)::r=>if g=f then(g,v)::r else(g,x)::iP f v r
theorem oO(f g:Str)(v:V):∀fs:List (Str×V),(iP f v fs).lookup g=if g=f then some v else fs.lookup g
 |[]=>by
  show iD g [(f,v)]=_
  by_cases h:g=f
  ·have hb:(g==f)=true:=beq_iff_eq.mpr h
   simp only[iD,hb,if_pos h]
  ·have hb:(g==f)=false:=beq_eq_false_iff_ne.mpr h
   simp only[iD,hb,if_neg h]
 |(k,x)::r=>by
  have ih:=oO f g v r
  rw[show iP f v ((k,x)::r)=(if k=f then(k,v)::r else(k,x)::iP f v r)from rfl]
  by_cases hk:k=f
  ·rw[if_pos hk]
   by_cases h:g=k
   ·have hb:(g==k)=true:=beq_iff_eq.mpr h
    simp only[iD,hb,if_pos (h.trans hk)]
   ·have hb:(g==k)=false:=beq_eq_false_iff_ne.mpr h
    simp only[iD,hb,if_neg (λe:g=f=>h (e.trans hk.symm))]
  ·rw[if_neg hk]
   by_cases h:g=k
   ·have hb:(g==k)=true:=beq_iff_eq.mpr h
    simp only[iD,hb,if_neg (λe:g=f=>hk (h.symm.trans e))]
   ·have hb:(g==k)=false:=beq_eq_false_iff_ne.mpr h
    simp only[iD,hb]
    exact ih
theorem oo(f:Str)(v:V):∀fs:List (Str×V),f∈(iP f v fs).map (·.1)/\∀g,g∈fs.map (·.1)->g∈(iP f v fs).map (·.1)
 |[]=>⟨by simp[iP],λg h=>by simp at h⟩
 |(k,x)::r=>by
  obtain⟨i1,i2⟩:=oo f v r
  rw[show iP f v ((k,x)::r)=(if k=f then(k,v)::r else(k,x)::iP f v r)from rfl]
  by_cases hk:k=f
  ·rw[if_pos hk]
   subst hk
   exact⟨by simp,λg h=>by simpa using h⟩
  ·rw[if_neg hk]
   refine⟨?_,λg h=> ?_⟩
   ·rw[aE]
    exact bH _ i1
   ·rw[aE]at h⊢
    rcases aD.mp h with e|e
    ·exact aD.mpr (.inl e)
    ·exact bH _ (i2 g e)
theorem oP(f:Str)(v:V):∀fs:List (Str×V),(iP f v fs).length<=fs.length+1
 |[]=>by simp[iP]
 |(k,x)::r=>by
  have ih:=oP f v r
  rw[show iP f v ((k,x)::r)=(if k=f then(k,v)::r else(k,x)::iP f v r)from rfl]
  by_cases hk:k=f
  ·rw[if_pos hk,aT,aT];ac_nf
  ·rw[if_neg hk,aT,aT];ac_nf
theorem RelO.some_of{v:V}{o:Option ae}(r:RelO (some v) o):∃u,o=some u/\RelV v u:=by
 cases o with
 |none=>exact(show False from r).elim
 |some u=>exact⟨u,rfl,r⟩
theorem RelO.none_of{o:Option ae}(r:RelO none o):o=none:=by
 cases o with
 |none=>rfl
 |some u=>exact(show False from r).elim
theorem AX{v:V}{u:ae}(r:RelV v u):PySem.W.handedIn u=true:=by
 cases v with
 |non=>cases (show u=bn from r);rfl
 |bl b=>cases (show u=eP b from r);rfl
 |int i=>obtain⟨t,e⟩:=(show∃t,u=dB i t from r);cases e;rfl
 |str x=>obtain⟨t,e⟩:=(show∃t,u=iW x t from r);cases e;rfl
 |byt b=>obtain⟨t,e⟩:=(show∃t,u=ae.bytes b t from r);cases e;rfl
 |flt b=>obtain⟨t,e⟩:=(show∃t,u=ae.float b t from r);cases e;rfl
 |ref a=>cases (show u=aB a from r);rfl
 |ty n=>cases (show u=bv n from r);rfl
section
variable{P:aI}{w:aY}{H:Hp}{h:Heap}{a C dx:Addr}{fs:List (Str×V)}
theorem pK(hok:HOk P w H h)(e:H a=some (.ins C dx fs)):∃mA,ObjM h a dx C mA/\(∀f,RelO (fs.lookup f) (mA f))/\PySem.Within mA (fs.map (·.1))/\fs.length<=1000/\H dx=some (.own a):=by
 obtain⟨d,z,ne,ob,mA,n,r,q⟩:=(show ObjOk P w H h a (.ins C dx fs)from hok a _ e)
 exact⟨mA,⟨ob,n,ne⟩,r,q,z,d⟩
end
structure Cls(K:PySem.W.Frag)(C:Addr):Prop where
 pg:PySem.W.plainGet K C Str.empty=true
 hd:PySem.W.hasDictIn K C=true
 po:PySem.W.plainOver K C=true
 sa:PySem.W.findIn K (.ref C) "__setattr__" =some (some (.builtin "object.__setattr__"))
theorem Cls.get{K:PySem.W.Frag}{C:Addr}(c:Cls K C)(f:Str):PySem.W.plainGet K C f=true:=c.pg
noncomputable def NoAttr(K:PySem.W.Frag)(C:Addr)(f:Str):Prop:=PySem.W.findIn K (.ref C) f=some none
theorem NoAttr.taker{K:PySem.W.Frag}{C:Addr}{f:Str}(n:NoAttr K C f):PySem.W.takerIn K C f=some none:=by
 unfold PySem.W.takerIn
 rw[show PySem.W.findIn K (.ref C) f=some none from n]
 rfl
structure iA(K:PySem.W.Frag)(C:Addr)(m:Str)(f:Addr):Prop where
 at_:PySem.W.findIn K (.ref C) m=some (some (.ref f))
 fn:PySem.W.isFn K (.ref f)=true
 kp:PySem.W.keepIn K (.ref f)=true
section
variable{X:Cx}{pins:List (Addr×Obj)}{σ:St}{H:Hp}{s:ai}{a C dx:Addr}{fs:List (Str×V)}{f:Str}{v:V}{A:Around}{E:ae->ai->Prop}
theorem qT{b:Bool}{Q:ae->ai->Prop}(I:Inv X pins σ H s)(e:H a=some (.ins C dx fs))(c:Cls X.K C)(n:NoAttr X.K C f)(l:fs.lookup f=some v)
  (h:∀u s',Inv X pins σ H s'->RelV v u->Q u s'):wpAny (aQ X.prog X.w) A (getAttr (.ref a) f b) Q E s:=by
 obtain⟨mA,O,r,_,_,_⟩:=pK I.hok e
 obtain⟨u,hu,ru⟩:=RelO.some_of (v:=v) (o:=mA f) (by rw[<-l];exact r f)
 exact GA I.kIn O (c.get f) c.hd n hu (AX ru) (h u _ (I.tok _) ru)
theorem qS{m:Str}{g:Addr}{pl:Sem Bool}{Q:ae×List ae->ai->Prop}(I:Inv X pins σ H s)(e:H a=some (.ins C dx fs))(c:Cls X.K C)(k:iA X.K C m g)(l:fs.lookup m=none)
  (h:Q (.ref g,[.ref a]) s):wpAny (aQ X.prog X.w) A (getMethod (.ref a) m pl) Q E s:=by
 obtain⟨mA,O,r,_,_,_⟩:=pK I.hok e
 have hn:mA m=none:=RelO.none_of (by rw[<-l];exact r m)
 exact DL I.kIn O (c.get m) k.at_ k.fn hn h
theorem qm{y:V}{u:ae}{Q:Unit->ai->Prop}(I:Inv X pins σ H s)(e:H a=some (.ins C dx fs))(c:Cls X.K C)(n:NoAttr X.K C f)(hl:fs.length<1000)(ry:RelV y u)
  (h:∀s',Inv X pins σ (upd H a (.ins C dx (iP f y fs))) s'->Q () s'):wpAny (aQ X.prog X.w) A (setAttr (.ref a) f u) Q E s:=by
 obtain⟨mA,O,r,wi,_,ho⟩:=pK I.hok e
 have hz:(fs.map (·.1)).length<=aK:=by rw[ap,gA];ac_nf
 refine EN I.kIn O c.sa c.po n.taker c.hd wi hz λh' O' sb=>h _ ?_
 have hd:∃o,h'.get? dx=some o:=let⟨o,_,_,e',_⟩:=O'.ns;⟨o,e'⟩
 refine I.write (x:=a) (e:=dx) (by rw[e];exact cz) (.inr ho) (λb q hb z=>(sb.2 b hb).trans z) hd ?_
 refine⟨by rw[br O.ne];exact ho,?_,O.ne,O'.obj,_,O'.ns,λg=> ?_,λg hg=> ?_⟩
 ·have:=oP f y fs;ac_nf
 ·show RelO ((iP f y fs).lookup g) (if g=f then some u else mA g)
  rw[oO]
  by_cases q:g=f
  ·rw[if_pos q,if_pos q];exact ry
  ·rw[if_neg q,if_neg q];exact r g
 ·by_cases q:g=f
  ·rw[q];exact(oo f y fs).1
  ·refine(oo f y fs).2 g (wi g λz=>hg ?_)
   show(if g=f then some u else mA g)=none
   rw[if_neg q];exact z
theorem Inv.made(I:Inv X pins σ H s):Inv X pins σ (upd (upd H s.heap.objs.size (.own (s.heap.objs.size+1))) (s.heap.objs.size+1) (.ins C s.heap.objs.size []))
  {s with heap:=(s.heap.push PySem.W.emptyDict).push (PySem.W.instObj C s.heap.objs.size)}:=by
 have e1:(s.heap.push PySem.W.emptyDict).get? s.heap.objs.size=some PySem.W.emptyDict:=aJ s.heap rfl
 have e2:((s.heap.push PySem.W.emptyDict).push (PySem.W.instObj C s.heap.objs.size)).get? (s.heap.objs.size+1)=some (PySem.W.instObj C s.heap.objs.size):=by
  have:=aJ (s.heap.push PySem.W.emptyDict) (o:=PySem.W.instObj C s.heap.objs.size) rfl
  rwa [cW]at this
 have e3:(s.heap.push PySem.W.emptyDict).Ns s.heap.objs.size (λ_=>none):=⟨PySem.W.emptyDict,#[],_,e1,rfl,(λe he=>absurd he (by simp)),λ_=>rfl⟩
 have I1:=I.laid (a:=s.heap.objs.size) (o:= .own (s.heap.objs.size+1)) (h':=s.heap.push PySem.W.emptyDict) (t':=s.toks) (λb u q=>ak _ q) (av _) ⟨_,e1⟩
 refine I1.laid (a:=s.heap.objs.size+1) (o:= .ins C s.heap.objs.size []) (t':=s.toks) (λb u q=>ak _ q) (Nat.le_of_eq (cW _ _)) ?_
 have ne:s.heap.objs.size≠s.heap.objs.size+1:=aU (gf _)
 refine⟨by rw[br ne,cr],bK _,ne,e2,λ_=>none,(Heap.Ns1.of_empty e3).at λo q=>ak _ q,λ_=>cz,λy hy=>absurd rfl hy⟩
theorem GZ{prog:aI}{w:aY}{env:Env}{e:Expr}{f:Str}{pos:Pos}{s:ai}{Q:ae->ai->Prop}(hb:cg e f env (eval e env)=eval e env)
  (h:wpAny (aQ prog w) A (eval e env) (λo s₁=>wpAny (aQ prog w) A (getAttr o f true) Q E s₁) E s):wpAny (aQ prog w) A (eval (.Attribute e f pos) env) Q E s:=
 Attribute_any_ h (by rw[arm_eval_Attribute,hb])
end
noncomputable def Od(K:PySem.W.Frag)(ta:TE)(f:Str):TE:=λσ H Q=>ta σ H λx H1=>∃a C dx fs v,x= .ref a/\H1 a=some (.ins C dx fs)/\Cls K C/\NoAttr K C f/\fs.lookup f=some v/\Q v H1
noncomputable def Oj(K:PySem.W.Frag)(ta tv:TE)(f:Str):TS:=λD σ H=>tv σ H λy H1=>ta σ H1 λx H2=>∃a C dx fs,x= .ref a/\H2 a=some (.ins C dx fs)/\Cls K C/\NoAttr K C f/\fs.length<1000/\
 D.nx σ (upd H2 a (.ins C dx (iP f y fs)))
noncomputable def Lb(X:Cx)(op:jX)(rd:V->V->Hp->VK->Prop):Prop:=
 ∀(pins:List (Addr×Obj)) (s:ai) (σ:St) (H:Hp) (x y:V) (u v:ae) (Q:VK),Inv X pins σ H s->RelV x u->RelV y v->rd x y H Q->wpAny (aQ X.prog X.w) X.A (inplaceOp op u v) (EP X pins σ Q) X.xe s
noncomputable def ER(K:PySem.W.Frag)(ta tv:TE)(rd:V->V->Hp->VK->Prop)(f:Str):TS:=λD σ H=>ta σ H λx H1=>∃a C dx fs v,x= .ref a/\H1 a=some (.ins C dx fs)/\Cls K C/\NoAttr K C f/\fs.lookup f=some v/\
 tv σ H1 λy H2=>rd v y H2 λz H3=>∃dx' fs',H3 a=some (.ins C dx' fs')/\fs'.length<1000/\D.nx σ (upd H3 a (.ins C dx' (iP f z fs')))
section
variable{X:Cx}{o e value:Expr}{f:Str}{pos pos' tpos:Pos}{ta tv:TE}
theorem IV(he:PE X e ta)(hb:cg e f X.env (eval e X.env)=eval e X.env):PE X (.Attribute e f pos) (Od X.K ta f):=by
 intro pins s σ H Q I h
 refine GZ hb (dZ (he pins s σ H _ I h) λu s1 hPl=> ?_)
 obtain⟨x,H1,I1,rx,a,C,dx,fs,v,ex,ea,c,n,l,q⟩:=hPl
 subst ex
 obtain rfl:u=aB a:=rx
 exact qT I1 ea c n l λu' s2 I2 ru=>⟨v,H1,I2,ru,q⟩
theorem II(ha:PE X o ta)(hv:PE X value tv)(hs:gC value (some (.Attribute o f pos')) pos.line X.env=pure false):PS X (.Assign [.Attribute o f pos'] value pos) (Oj X.K ta tv f):=by
 intro pins s σ H D I h
 refine plainObj_wpAny_Assign_Attribute (dZ (hv pins s σ H _ I h) λu s1 ⟨y,H1,I1,ry,q⟩=>dZ (ha pins s1 σ H1 _ I1 q) λov s2 ⟨x,H2,I2,rx,a,C,dx,fs,ex,ea,c,n,l,q2⟩=> ?_) hs
 subst ex
 obtain rfl:ov=aB a:=rx
 exact qm I2 ea c n l ry λs3 I3=>⟨σ,_,I3,q2⟩
theorem so{op:jX}{rd:V->V->Hp->VK->Prop}(ha:PE X o ta)(hv:PE X value tv)(hop:Lb X op rd):PS X (.AugAssign (.Attribute o f tpos) op value pos) (ER X.K ta tv rd f):=by
 intro pins s σ H D I h
 refine wpAny_AugAssign_AttributeAny (dZ (ha pins s σ H _ I h) λov s1 hPl=> ?_)
 obtain⟨x,H1,I1,rx,a,C,dx,fs,v,ex,ea,c,n,l,q⟩:=hPl
 subst ex
 obtain rfl:ov=aB a:=rx
 refine qT I1 ea c n l λu s2 I2 ru=>dZ (hv pins s2 σ H1 _ I2 q) λw3 s3 ⟨y,H2,I3,ry,q3⟩=>dZ (hop pins s3 σ H2 v y u w3 _ I3 ru ry q3) λw4 s4 ⟨z,H3,I4,rz,dx',fs',ea',l',q4⟩=> ?_
 exact qm I4 ea' c n l' rz λs5 I5=>⟨σ,_,I5,q4⟩
noncomputable def Ox:V->V->Hp->VK->Prop:=λx y H Q=>∃i j,x= .int i/\y= .int j/\Q (.int (i+j)) H
noncomputable def Om:V->V->Hp->VK->Prop:=λx y H Q=>∃i j,x= .int i/\y= .int j/\Q (.int (i-j)) H
theorem Ky:Lb X .Add Ox:=by
 rintro pins s σ H x y u v Q I rx ry ⟨i,j,rfl,rfl,q⟩
 obtain⟨t,rfl⟩:=(show∃t,u=dB i t from rx)
 obtain⟨t',rfl⟩:=(show∃t',v=dB j t' from ry)
 exact PyProof.Rows.iadd_int ⟨.int (i+j),H,I.tok _,⟨_,rfl⟩,q⟩
theorem Kx:Lb X .Sub Om:=by
 rintro pins s σ H x y u v Q I rx ry ⟨i,j,rfl,rfl,q⟩
 obtain⟨t,rfl⟩:=(show∃t,u=dB i t from rx)
 obtain⟨t',rfl⟩:=(show∃t',v=dB j t' from ry)
 exact PyProof.Rows.isub_int ⟨.int (i-j),H,I.tok _,⟨_,rfl⟩,q⟩
end
section
variable{X:Cx}{pins:List (Addr×Obj)}{σ:St}{H:Hp}{s:ai}{A:Around}{E:ae->ai->Prop}{Q:ae->ai->Prop}{c:ae}{b:Bool}
inductive pf (K:PySem.W.Frag) (H:Hp):V->ae->Prop where
 |non:pf K H .non (.type "NoneType")
 |bl (x:Bool):pf K H (.bl x) (.type "bool")
 |int (i:Int):pf K H (.int i) (.type "int")
 |str (x:Str):pf K H (.str x) (.type "str")
 |flt (x:UInt64):pf K H (.flt x) (.type "float")
 |lst {a:Addr} {xs:List V} (e:H a=some (.lst xs)):pf K H (.ref a) (.type "list")
 |frz {a:Addr} {o:Obj} {xs:List V} (e:H a=some (.frz o (.lst xs))):pf K H (.ref a) (.type "list")
 |tup {a:Addr} {xs:List V} (e:H a=some (.tup xs)):pf K H (.ref a) (.type "tuple")
 |dK {a:Addr} {kvs:List (Key×V)} (e:H a=some (.dK kvs)):pf K H (.ref a) (.type "dict")
 |dT {a:Addr} {kvs:List (List Key×V)} (e:H a=some (.dT kvs)):pf K H (.ref a) (.type "dict")
 |ins {a C dx:Addr} {fs:List (Str×V)} (e:H a=some (.ins C dx fs)) (cl:Cls K C) (ha:PySem.W.findIn K (.ref C) "__class__" =some (some (.builtin "object.__class__")))
   (hn:PySem.W.specialIn K (.builtin "object.__class__") "__get__" =some (some (.builtin "getset_descriptor.__get__"))) (htk:PySem.W.takesIn K (.builtin "object.__class__")=some true)
   (hm:PySem.W.mroIn K C (.type "object")=some true):pf K H (.ref a) (.ref C)
theorem AR{x:V}{u t:ae}(I:Inv X pins σ H s)(rx:RelV x u)(ty:pf X.K H x t)(e:PySem.W.kitOne X.K t c=some b)(h:∀tk,Q (.bool b) {s with toks:=tk}):
  wpAny (aQ X.prog X.w) A (call (.builtin "isinstance") [u,c]) Q E s:=by
 cases ty with
 |non=>cases (show u=bn from rx);exact PySem.W.kia_one PySem.W.kitx_none I.kIn cz e (λz=>nomatch z) h
 |bl y=>cases (show u=eP y from rx);exact PySem.W.kia_one PySem.W.kitx_bool I.kIn cz e (λz=>nomatch z) h
 |int i=>obtain⟨t,q⟩:=(show∃t,u=dB i t from rx);cases q;exact PySem.W.kia_one PySem.W.kitx_int I.kIn cz e (λz=>nomatch z) h
 |str y=>obtain⟨t,q⟩:=(show∃t,u=iW y t from rx);cases q;exact PySem.W.kia_one PySem.W.kitx_str I.kIn cz e (λz=>nomatch z) h
 |flt y=>obtain⟨t,q⟩:=(show∃t,u=ae.float y t from rx);cases q;exact PySem.W.kia_one PySem.W.kitx_float I.kIn cz e (λz=>nomatch z) h
 | @lst a xs ea=>
  cases (show u=aB a from rx)
  obtain⟨_,_,n,_,h1⟩:=(show ObjOk X.prog X.w H s.heap a (.lst xs)from I.hok a _ ea)
  exact PySem.W.kia_one PySem.W.kitx_list I.kIn ⟨_,h1,rfl⟩ e (λz=>nomatch z) h
 | @frz a ob xs ea=>
  cases (show u=aB a from rx)
  obtain⟨_,_,_,n,_,h1⟩:=(show ObjOk X.prog X.w H s.heap a (.frz ob (.lst xs))from I.hok a _ ea)
  exact PySem.W.kia_one PySem.W.kitx_list I.kIn ⟨_,h1,rfl⟩ e (λz=>nomatch z) h
 | @tup a xs ea=>
  cases (show u=aB a from rx)
  obtain⟨_,_,_,p⟩:=(show ObjOk X.prog X.w H s.heap a (.tup xs)from I.hok a _ ea)
  obtain⟨o,h1,h2,_⟩:=p
  exact PySem.W.kia_one PySem.W.kitx_tuple I.kIn ⟨o,h1,h2⟩ e (λz=>nomatch z) h
 | @dK a kvs ea=>
  cases (show u=aB a from rx)
  obtain⟨_,_,vs,_,p⟩:=(show ObjOk X.prog X.w H s.heap a (.dK kvs)from I.hok a _ ea)
  obtain⟨o,es,ep,h1,h2,_⟩:=p
  exact PySem.W.kia_one PySem.W.kitx_dict I.kIn ⟨o,h1,h2.1⟩ e (λz=>nomatch z) h
 | @dT a kvs ea=>
  cases (show u=aB a from rx)
  obtain⟨_,_,xs,_,o,es,ep,h1,h2,_⟩:=(show ObjOk X.prog X.w H s.heap a (.dT kvs)from I.hok a _ ea)
  exact PySem.W.kia_one PySem.W.kitx_dict I.kIn ⟨o,h1,h2.1⟩ e (λz=>nomatch z) h
 | @ins a C dx fs ea cl ha hn htk hm=>
  cases (show u=aB a from rx)
  obtain⟨mA,O,_⟩:=pK I.hok ea
  obtain⟨od,J,_⟩:=O.look
  exact PySem.W.kia_one (PySem.W.kitx_own (cl.get _) cl.hd ha hn htk hm) I.kIn J e (λz=>nomatch z) h
end
structure Room(k:Nat)(A:Around):Prop where
 hd:A.handled=none
 dp:A.depth+3*k+5<recursionLimit
 un:A.units+16*k+200<gZ
theorem Room.mono{j k:Nat}{A:Around}(r:Room k A)(h:j<=k):Room j A:=⟨r.hd,by have:=r.dp;ac_nf,by have:=r.un;ac_nf⟩
theorem Room.deeper{k:Nat}{A:Around}(r:Room (k+1) A)(env:Env):Room k (A.deeper env):=
 ⟨r.hd,by have:=r.dp;show A.depth+1+3*k+5<_;ac_nf,by have:=r.un;show A.units+3+16*k+200<_;ac_nf⟩
theorem xG{A:Around}{C:Addr}{us:List ae}{kw:List (Str×ae)}:(A.under (.builtin "type.__call__" ⟨.ref C::us,kw⟩)).depth=A.depth+1:=by
 first|rfl|simp[Around.under,Code.weight,Code.isCreation,Code.isGuard,Code.isCaller,Code.frames,Code.isFrame,guardIds]
theorem xF{A:Around}{C:Addr}{us:List ae}{kw:List (Str×ae)}:(A.under (.builtin "type.__call__" ⟨.ref C::us,kw⟩)).units=A.units+1:=by
 first|rfl|simp[Around.under,Code.cUnits,Code.frames,Code.isFrame]
theorem Room.make{k:Nat}{A:Around}(r:Room (k+1) A)(C:Addr)(us:List ae)(kw:List (Str×ae)):Room k (A.under (.builtin "type.__call__" ⟨.ref C::us,kw⟩)):=
 ⟨r.hd,by have:=r.dp;rw[xG];ac_nf,by have:=r.un;rw[xF];ac_nf⟩
theorem Room.depth{k:Nat}{A:Around}(r:Room k A):A.depth<recursionLimit:=by have:=r.dp;ac_nf
noncomputable def Ls:TA:=λ_ H Q=>Q [] H
noncomputable def Lz(ta:TE)(tr:TA):TA:=λσ H Q=>ta σ H λx H1=>tr σ H1 λxs H2=>Q (x::xs) H2
section
variable{X:Cx}{e:Expr}{es:List Expr}{te:TE}{t:TA}{pos:Pos}
theorem IY:PA X [] Ls:=λ_ _ _ _ H Q I h=>pj ⟨[],H,I,.nil,h⟩
theorem Fu(ha:PE X e te)(hr:PA X es t)(hs:aq (e::es) X.env=(false,eval e X.env)::aq es X.env:=by rfl):PA X (e::es) (Lz te t):=by
 intro pos pins s σ H Q I h
 rw[hs]
 show wpAny _ _ (spliced ((false,eval e X.env)::bB pos (aq es X.env))) _ _ s
 refine i9 (dZ (ha pins s σ H _ I h) λu s1 hPl=> ?_)
 obtain⟨x,H1,I1,r1,q1⟩:=hPl
 exact dZ (hr pos pins s1 σ H1 _ I1 q1) λus s2 hPl=>by obtain⟨xs,H2,I2,r2,q2⟩:=hPl;exact⟨x::xs,H2,I2,.cons r1 r2,q2⟩
noncomputable def N5(t:TA):TE:=λσ H Q=>t σ H λxs H1=>xs.length<=aK/\∀p,H1 p=none->Q (.ref p) (upd H1 p (.tup xs))
noncomputable def Oa(t:TA):TE:=λσ H Q=>t σ H λxs H1=>xs.length<=aK/\∀p,H1 p=none->Q (.ref p) (upd H1 p (.lst xs))
theorem IQ{x1}(h:PA X es t):PE X (.Tuple es x1 pos) (N5 t):=by
 intro pins s σ H Q I hq
 refine wpAny_Tuple_spliced (dZ (h pos pins s σ H _ I hq) λus s1 ⟨xs,H1,I1,r,z,q⟩=>⟨by rw[<-r.length];exact z,?_⟩)
 have hf:H1 s1.heap.objs.size=none:=I1.hok.fresh (av _)
 refine⟨.ref s1.heap.objs.size,upd H1 s1.heap.objs.size (.tup xs),I1.laid (t':=s1.toks) (λb u e=>ak _ e) (av _) ?_,rfl,q _ hf⟩
 exact⟨z,us,r,⟨_,aJ _ rfl,rfl,_,rfl⟩⟩
theorem IU(h:PA X es t):PE X (.List es pos) (Oa t):=by
 intro pins s σ H Q I hq
 refine wpAny_List_spliced (dZ (h pos pins s σ H _ I hq) λus s1 ⟨xs,H1,I1,r,z,q⟩=>⟨by rw[<-r.length];exact z,?_⟩)
 have hf:H1 s1.heap.objs.size=none:=I1.hok.fresh (av _)
 refine⟨.ref s1.heap.objs.size,upd H1 s1.heap.objs.size (.lst xs),I1.laid (t':=s1.toks) (λb u e=>ak _ e) (av _) ?_,rfl,q _ hf⟩
 exact⟨z,us,0,r,aJ _ rfl⟩
end
noncomputable abbrev Sp:=List V->Hp->VK->XK->Prop
noncomputable abbrev Bj:=List Env->Hp->ai->XK->ae->ai->Prop
structure Env0(P:aI)(w:aY)(K:PySem.W.Frag)(mg:Str->Option ae)(base:Heap)(A:Around)(outer:List Env)(s:ai)(H:Hp):Prop where
 frames:A.frames=some outer
 mod:Mod K mg base
 bs:∀b o,base.get? b=some o->s.heap.get? b=some o/\H b=none
 bsz:base.objs.size<=s.heap.objs.size
 funs:s.heap.FunFrames base outer
 frf:∀b∈kH outer,H b=none
 hok:HOk P w H s.heap
 bare:kR s.gens
noncomputable def CE(outer:List Env)(P:aI)(w:aY)(H:Hp)(s:ai)(Q:VK)(u:ae)(s':ai):Prop:=
 ∃v H',s'.os=s.os/\kR s'.gens/\Un (kH outer) [] H H' s.heap s'.heap/\HOk P w H' s'.heap/\RelV v u/\Q v H'
noncomputable def CR(CX:Bj)(outer:List Env)(P:aI)(w:aY)(H:Hp)(s:ai)(Q:VK)(E:XK)(r:Result)(s':ai):Prop:=
 match r with
 | .ok (.ret u)=>CE outer P w H s Q u s'
 | .ok _=>False
 | .error e=>CX outer H s E e s'
structure FnOk(P:aI)(w:aY)(K:PySem.W.Frag)(mg:Str->Option ae)(base:Heap)(CX:Bj)(k:Nat)(f:Addr)(fd:aW)(ps:List Str)(sp:Sp):Prop where
 len:∀vs H Q E,sp vs H Q E->vs.length=ps.length
 run:∀(A:Around) (outer:List Env) (s:ai) (H:Hp) (args:Args) (us:List ae) (vs:List V) (Q:VK) (E:XK),Room k A->Env0 P w K mg base A outer s H->BindsTo s fd args (ps.zip us)->Vals vs us->sp vs H Q E->
  codeAny (aQ P w) A (.call (.ref f) args) (CR CX outer P w H s Q E) s
theorem FnOk.mono{P:aI}{w:aY}{K:PySem.W.Frag}{mg:Str->Option ae}{base:Heap}{CX:Bj}{j k:Nat}{f:Addr}{fd:aW}{ps:List Str}{sp:Sp}(F:FnOk P w K mg base CX j f fd ps sp)(h:j<=k):
  FnOk P w K mg base CX k f fd ps sp:=⟨F.len,λA outer s H args us vs Q E hr=>F.run A outer s H args us vs Q E (hr.mono h)⟩
theorem Env0.make{P:aI}{w:aY}{K:PySem.W.Frag}{mg:Str->Option ae}{base:Heap}{A:Around}{outer:List Env}{s:ai}{H:Hp}(e:Env0 P w K mg base A outer s H)(C:Addr)(us:List ae)(kw:List (Str×ae)):
  Env0 P w K mg base (A.under (.builtin "type.__call__" ⟨.ref C::us,kw⟩)) outer s H:=⟨by first|exact e.frames|(simpa [Around.under,Code.envs,Code.isFrame,pushEnvs]using e.frames),e.mod,e.bs,e.bsz,e.funs,e.frf,e.hok,e.bare⟩
section
variable{X:Cx}{pins:List (Addr×Obj)}{σ:St}{H:Hp}{s s':ai}
theorem Inv.env0(I:Inv X pins σ H s):Env0 X.prog X.w X.K X.mg X.base X.A X.stack s H:=
 ⟨I.ok.frames,I.ok.mod,I.bs,aO I.ok.bsz I.sz,I.stack,I.stkFree,I.hok,I.bare⟩
theorem Inv.after{Q:VK}{u:ae}(I:Inv X pins σ H s)(h:CE X.stack X.prog X.w H s Q u s'):EP X pins σ Q u s':=by
 obtain⟨v,H',os,bare,un,hok,r,q⟩:=h
 obtain⟨hh,g,d,t,os'⟩:=s'
 obtain rfl:os'=s.os:=os
 exact⟨v,H',I.call (h':=hh) (g':=g) (d':=d) (t':=t) (ch:=[]) un hok bare (λb z=>absurd z (by simp)),r,q⟩
end
noncomputable def Hl(sp:Sp)(dvs:List V)(E:XK)(t:TA):TE:=λσ H Q=>t σ H λvs H1=>sp (vs++dvs) H1 Q E
noncomputable def Hk(C:Addr)(m:Str)(sp:Sp)(dvs:List V)(E:XK)(ta:TE)(t:TA):TE:=λσ H Q=>ta σ H λx H1=>∃a dx fs,x= .ref a/\H1 a=some (.ins C dx fs)/\fs.lookup m=none/\
 t σ H1 λvs H2=>sp (x::(vs++dvs)) H2 Q E
noncomputable def Lu(C:Addr)(sp:Sp)(dvs:List V)(E:XK)(t:TA):TE:=λσ H Q=>t σ H λvs H1=>∀x dx,H1 x=none->H1 dx=none->dx≠x->
 sp (.ref x::(vs++dvs)) (upd (upd H1 dx (.own x)) x (.ins C dx [])) (λv H2=>v= .non/\Q (.ref x) H2) E
noncomputable def Binds(K:PySem.W.Frag)(fd:aW)(ps:List Str)(ds:List ae):Prop:=
 ∀(s:ai) (us:List ae),K.In s.heap->(us++ds).length=ps.length->BindsTo s fd ⟨us,[]⟩ (ps.zip (us++ds))
theorem Binds.all{K:PySem.W.Frag}{fd:aW}{ps:List Str}(h:∀us:List ae,us.length=ps.length->bindArgs fd ⟨us,[]⟩=pure (ps.zip us)):Binds K fd ps []:=λs us _ hl=>by
 rw[bz]at hl⊢
 exact .of_eq (h us hl)
noncomputable def i5(CX:Bj)(X:Cx)(E:XK):Prop:=∀(pins:List (Addr×Obj)) (σ:St) (H:Hp) (s:ai) (e:ae) (s':ai),Inv X pins σ H s->CX X.stack H s E e s'->X.xe e s'
section
variable{X:Cx}{CX:Bj}{k:Nat}{f C:Addr}{fd:aW}{ps:List Str}{sp:Sp}{dvs:List V}{ds:List ae}{E:XK}{x m:Str}{p pos apos:Pos}{e o:Expr}{es:List Expr}{ta:TE}{t:TA}
theorem xa{pins:List (Addr×Obj)}{σ:St}{H:Hp}{s:ai}{Q:VK}{us:List ae}{vs:List V}(F:FnOk X.prog X.w X.K X.mg X.base CX k f fd ps sp)(hr:Room k X.A)(hb:Binds X.K fd ps ds)(hd:Vals dvs ds)(hx:i5 CX X E)
  (I:Inv X pins σ H s) (r:Vals vs us) (h:sp (vs++dvs) H Q E):wpAny (aQ X.prog X.w) X.A (call (.ref f) us) (EP X pins σ Q) X.xe s:=by
 have r2:Vals (vs++dvs) (us++ds):=r.append hd
 have hl:(us++ds).length=ps.length:=by rw[<-r2.length];exact F.len _ _ _ _ h
 refine wpAny_call (mX (F.run X.A X.stack s H ⟨us,[]⟩ (us++ds) (vs++dvs) Q E hr I.env0 (hb s us I.kIn hl) r2 h) λr s' hq=> ?_)
 cases r with
 |error e=>exact hx pins σ H s e s' I hq
 |ok fl=>
  cases fl with
  |ret u=>exact I.after hq
  |next=>exact bN hq
  |brk=>exact bN hq
  |cont=>exact bN hq
theorem ze(F:FnOk X.prog X.w X.K X.mg X.base CX k f fd ps sp)(hr:Room k X.A)(hg:Gl X x)(hm:X.mg x=some (.ref f))(hk:PySem.W.keepIn X.K (.ref f)=true)(hb:Binds X.K fd ps ds)(hd:Vals dvs ds)(hx:i5 CX X E)
  (ha:PA X (e::es) t) (hdb:(x==("__debug__" :Str))=false:=by decide) (he:aq (e::es) X.env=(false,eval e X.env)::aq es X.env:=by rfl) (hpl:(bB pos (aq es X.env)).any (·.1)=false:=by rfl):
  PE X (.Call (.Name x p) (e::es) [] pos) (Hl sp dvs E t):=by
 intro pins s σ H Q I h
 refine fL (mH I hg hm ?_ hdb)
 refine PySem.W.callWith_K (h₀:=X.base) I.ok.mod.kin hk (dZ (ha pos pins s σ H _ I h) λus s1 ⟨vs,H1,I1,r,q⟩=>⟨I1.kIn,?_⟩) he hpl
 exact xa F hr hb hd hx I1 r q
theorem Fj{pl:Sem Bool}(he:PE X o ta)(c:Cls X.K C)(hm:iA X.K C m f)(F:FnOk X.prog X.w X.K X.mg X.base CX k f fd ps sp)(hr:Room k X.A)(hb:Binds X.K fd ps ds)(hd:Vals dvs ds)(hx:i5 CX X E)(ha:PA X (e::es) t)
  (hst:aq (e::es) X.env=(false,eval e X.env)::aq es X.env:=by rfl) (hpl:(bB pos (aq es X.env)).any (·.1)=false:=by rfl)
  (ht:eval (.Call (.Attribute o m apos) (e::es) [] pos) X.env=(do
   let ov <-eval o X.env
   standAt apos.atName
   let(f,first) <-holding [ov] (getMethod ov m pl)
   callWith pos f first (bB pos (aq (e::es) X.env)) (gB pos (dO [] X.env))):=by rfl):
  PE X (.Call (.Attribute o m apos) (e::es) [] pos) (Hk C m sp dvs E ta t):=by
 intro pins s σ H Q I h
 refine PySem.W.methodCall_KW (pl:=pl) (dZ (he pins s σ H _ I h) λu s1 hPl=> ?_) ht
 obtain⟨x,H1,I1,rx,a,dx,fs,ex,ea,l,q⟩:=hPl
 subst ex
 obtain rfl:u=aB a:=rx
 refine qS I1 ea c hm l ?_
 refine PySem.W.callWith_K (first:=[.ref a]) (h₀:=X.base) I.ok.mod.kin hm.kp (dZ (ha pos pins s1 σ H1 _ I1 q) λus s2 ⟨vs,H2,I2,r,q2⟩=>⟨I2.kIn,?_⟩) hst hpl
 exact xa (us:= .ref a::us) (vs:= .ref a::vs) F hr hb hd hx I2 (.cons rfl r) q2
theorem Cn{pl:Sem Bool}(he:PE X o ta)(c:Cls X.K C)(hm:iA X.K C m f)(F:FnOk X.prog X.w X.K X.mg X.base CX k f fd ps sp)(hr:Room k X.A)(hb:Binds X.K fd ps ds)(hd:Vals dvs ds)(hx:i5 CX X E)
  (ht:eval (.Call (.Attribute o m apos) [] [] pos) X.env=(do
   let ov <-eval o X.env
   standAt apos.atName
   let(f,first) <-holding [ov] (getMethod ov m pl)
   callWith pos f first (bB pos (aq [] X.env)) (gB pos (dO [] X.env))):=by rfl):
  PE X (.Call (.Attribute o m apos) [] [] pos) (Hk C m sp dvs E ta Ls):=by
 intro pins s σ H Q I h
 refine PySem.W.methodCall_KW (pl:=pl) (dZ (he pins s σ H _ I h) λu s1 hPl=> ?_) ht
 obtain⟨x,H1,I1,rx,a,dx,fs,ex,ea,l,q⟩:=hPl
 subst ex
 obtain rfl:u=aB a:=rx
 refine qS I1 ea c hm l ?_
 exact PySem.W.callWith_K0 (first:=[.ref a]) I1.kIn hm.kp (xa (us:=[.ref a]) (vs:=[.ref a]) F hr hb hd hx I1 (.cons rfl .nil) q)
structure Mk(K:PySem.W.Frag)(C f:Addr):Prop where
 makes:PySem.W.makesIn K C=true
 init:PySem.W.findIn K (.ref C) "__init__" =some (some (.ref f))
 fn:PySem.W.isFn K (.ref f)=true
 kp:PySem.W.keepIn K (.ref C)=true
theorem B5{pins:List (Addr×Obj)}{σ:St}{H:Hp}{s:ai}{Q:VK}{us:List ae}{vs:List V}(M:Mk X.K C f)(F:FnOk X.prog X.w X.K X.mg X.base CX k f fd ps sp)(hr:Room (k+1) X.A)(hb:Binds X.K fd ps ds)(hd:Vals dvs ds)
  (hx:i5 CX X E) (I:Inv X pins σ H s) (r:Vals vs us)
  (h:∀x dx,H x=none->H dx=none->dx≠x->sp (.ref x::(vs++dvs)) (upd (upd H dx (.own x)) x (.ins C dx [])) (λv H2=>v= .non/\Q (.ref x) H2) E):
  wpAny (aQ X.prog X.w) X.A (call (.ref C) us) (EP X pins σ Q) X.xe s:=by
 have hq:=h (s.heap.objs.size+1) s.heap.objs.size (I.hok.fresh (fS _)) (I.hok.fresh (av _)) (aU (gf _))
 have I2:=Inv.made (C:=C) I
 have r2:Vals (V.ref (s.heap.objs.size+1)::(vs++dvs)) (aB (s.heap.objs.size+1)::(us++ds)):= .cons rfl (r.append hd)
 have hl:(aB (s.heap.objs.size+1)::us++ds).length=ps.length:=by
  have e:=r2.length
  rw[F.len _ _ _ _ hq]at e
  exact e.symm
 refine wpAny_call (Db (f:=f) I.kIn M.makes M.init (beq_iff_eq.mp M.fn) (mX (F.run _ X.stack _ _ ⟨aB (s.heap.objs.size+1)::us,[]⟩ (aB (s.heap.objs.size+1)::(us++ds)) _ _ E (hr.make C us [])
  (I2.env0.make C us []) (hb _ (aB (s.heap.objs.size+1)::us) I2.kIn hl) r2 hq) λr s' hq'=> ?_))
 cases r with
 |error e=>exact hx pins σ _ _ e s' I2 hq'
 |ok fl=>
  cases fl with
  |ret u=>
   obtain⟨v,H',I3,rv,ev,q3⟩:=I2.after hq'
   subst ev
   exact⟨rv,⟨V.ref (s.heap.objs.size+1),H',I3,rfl,q3⟩⟩
  |next=>exact bN hq'
  |brk=>exact bN hq'
  |cont=>exact bN hq'
theorem Fk(M:Mk X.K C f)(F:FnOk X.prog X.w X.K X.mg X.base CX k f fd ps sp)(hr:Room (k+1) X.A)(hg:Gl X x)(hm:X.mg x=some (.ref C))(hb:Binds X.K fd ps ds)(hd:Vals dvs ds)(hx:i5 CX X E)
  (ha:PA X (e::es) t) (hdb:(x==("__debug__" :Str))=false:=by decide) (he:aq (e::es) X.env=(false,eval e X.env)::aq es X.env:=by rfl) (hpl:(bB pos (aq es X.env)).any (·.1)=false:=by rfl):
  PE X (.Call (.Name x p) (e::es) [] pos) (Lu C sp dvs E t):=by
 intro pins s σ H Q I h
 refine fL (mH I hg hm ?_ hdb)
 refine PySem.W.callWith_K (h₀:=X.base) I.ok.mod.kin M.kp (dZ (ha pos pins s σ H _ I h) λus s1 ⟨vs,H1,I1,r,q⟩=>⟨I1.kIn,?_⟩) he hpl
 exact B5 M F hr hb hd hx I1 r q
end
section
end
structure bj(N P:List Str)(sc:e8):Prop where
 kind:sc.kind= .function
 co:sc.isCoroutine=false
 gen:sc.isGenerator=false
 nd:N.Nodup
 pre:N.take P.length=P
 par:∀x∈P,sc.names.lookup x=some .local\/sc.names.lookup x=some .cell
 nofree:∀y∈sc.names,y.2≠ .free
theorem sH{kindOf:Str->Option eo}{x:Str}:∀{binds:List (Str×ae)} {m:Str->Option ae},(∀v,(x,v)∉binds)->bindL kindOf binds m x=m x
 |[],_,_=>rfl
 |(n,v)::r,m,h=>by
  unfold bindL
  rw[sH λw hw=>h w (bH _ hw)]
  split
  ·have:x≠n:=by rintro rfl;exact h v gK
   simp[this]
  ·rfl
theorem sJ{kindOf:Str->Option eo}{x:Str}:∀{binds:List (Str×ae)} {m:Str->Option ae},(∀v,(x,v)∉binds)->bindC kindOf binds m x=m x
 |[],_,_=>rfl
 |(n,v)::r,m,h=>by
  unfold bindC
  rw[sJ λw hw=>h w (bH _ hw)]
  split
  ·rfl
  ·have:x≠n:=by rintro rfl;exact h v gK
   simp[this]
theorem sI{kindOf:Str->Option eo}{x:Str}{v:ae}:∀{P:List Str} {vs:List ae} {i:Nat} {m:Str->Option ae},P.Nodup->P[i]? =some x->vs[i]? =some v->kindOf x=some .local->
  bindL kindOf (P.zip vs) m x=some v
 |[],_,_,_,_,h,_,_=>by simp at h
 |_::_,[],_,_,_,_,h,_=>by simp at h
 |p::P,w::vs,0,m,nd,h1,h2,hk=>by
  simp at h1 h2;subst h1;subst h2
  show bindL kindOf ((p,w)::P.zip vs) m p=_
  unfold bindL
  rw[sH λv hv=>(bu.mp nd).1 (List.of_mem_zip hv).1,if_pos hk]
  simp
 |p::P,w::vs,i+1,m,nd,h1,h2,hk=>by
  show bindL kindOf ((p,w)::P.zip vs) m x=_
  unfold bindL
  exact sI (i:=i) (bu.mp nd).2 (by simpa using h1) (by simpa using h2) hk
theorem sK{kindOf:Str->Option eo}{x:Str}{v:ae}:∀{P:List Str} {vs:List ae} {i:Nat} {m:Str->Option ae},P.Nodup->P[i]? =some x->vs[i]? =some v->kindOf x≠some .local->
  bindC kindOf (P.zip vs) m x=some v
 |[],_,_,_,_,h,_,_=>by simp at h
 |_::_,[],_,_,_,_,h,_=>by simp at h
 |p::P,w::vs,0,m,nd,h1,h2,hk=>by
  simp at h1 h2;subst h1;subst h2
  show bindC kindOf ((p,w)::P.zip vs) m p=_
  unfold bindC
  rw[sJ λv hv=>(bu.mp nd).1 (List.of_mem_zip hv).1,if_neg hk]
  simp
 |p::P,w::vs,i+1,m,nd,h1,h2,hk=>by
  show bindC kindOf ((p,w)::P.zip vs) m x=_
  unfold bindC
  exact sK (i:=i) (bu.mp nd).2 (by simpa using h1) (by simpa using h2) hk
noncomputable def start(N:List Str)(vs:List V):St:=vs.map some++aj (N.length-vs.length) none
noncomputable def gO(CX:Bj)(P:aI)(w:aY)(K:PySem.W.Frag)(mg:Str->Option ae)(base:Heap)(N:List Str)(qual:Str)(scope:e8)(f:Addr)(cd:ae)(A:Around)(outer:List Env)(s:ai)(H:Hp)(E:XK):Cx where
 prog:=P
 w:=w
 K:=K
 mg:=mg
 base:=base
 A:=A.deeper (envOfC qual scope s.heap.objs.size f cd)
 N:=N
 s₀:=s
 H₀:=H
 env:=envOfC qual scope s.heap.objs.size f cd
 outer:=outer
 stack:=envOfC qual scope s.heap.objs.size f cd::outer
 ex:=[]
 calm:=true
 fn:=λ_=>true
 pn:=[]
 xe:=λe s'=>wpAny (aQ P w) (A.deeper (envOfC qual scope s.heap.objs.size f cd)) (leaving (envOfC qual scope s.heap.objs.size f cd) e) (λ_ s''=>CX outer H s E e s'') (λe' s''=>CX outer H s E e' s'') s'
theorem wn{sc:e8}{n:Nat}{x:Str}(h:sc.names.lookup x=some .cell):∃c,(cellsFrom n sc.names []).lookup x=some c:=by
 have q:=PySem.W.cellsFrom_some sc.names n [] (.inl h)
 exact jr.mp q
theorem AT{CX:Bj}{P:aI}{w:aY}{K:PySem.W.Frag}{mg:Str->Option ae}{base:Heap}{N ps:List Str}{qual:Str}{scope:e8}{f:Addr}{cd:ae}{A:Around}{outer:List Env}{s s1:ai}{H:Hp}{E:XK}{us:List ae}{vs:List V}
  (S:bj N ps scope) (hd:A.handled=none) (e0:Env0 P w K mg base A outer s H) (hl:vs.length=ps.length) (r:Vals vs us)
  (x:InCallC s s.heap.objs.size (bindL (envOfC qual scope s.heap.objs.size f cd).kindOf (ps.zip us) λ_=>none) (cellsFrom (s.heap.objs.size+1) scope.names []) (bindC (envOfC qual scope s.heap.objs.size f cd).kindOf (ps.zip us) λ_=>none) s1):
  Inv (gO CX P w K mg base N qual scope f cd A outer s H E) [] (start N vs) H s1:=by
 have hpl:ps.length<=N.length:=by have:=congrArg cG S.pre;rw[bb]at this;ac_nf
 obtain⟨h1,tk,rfl,hk⟩:=x.done
 have noA:∀b:Addr,b∉(gO CX P w K mg base N qual scope f cd A outer s H E).ex:=λb z=>absurd (show b∈([]:List Addr)from z) (by simp)
 refine⟨⟨e0.mod,S.kind,rfl,rfl,av _,λy z c h1 h2=> ?_,λy hy=> ?_,λy c _ h=> ?_,λ_=>hd,Around.frames_deeper e0.frames,.inr ⟨rfl,rfl⟩,λb z=>absurd z (noA b),e0.bs,e0.bsz,λb _ _=>noA b,λb z=>absurd z (noA b),e0.funs,e0.frf⟩,
  rfl,e0.bare,Un.kept hk,⟨_,x.toInCall.ns,λi y v h1 h2 h3=> ?_⟩,λy c h=>⟨_,x.cell y c h⟩,e0.hok.fresh (av _),λy c h=> ?_,λp hp=>absurd (show p∈([]:List (Addr×Obj))from hp) (by simp),e0.hok.kept hk,?_⟩
 ·exact name_of_addr x.apart (PySem.mem_of_lookup h1) (PySem.mem_of_lookup h2)
 ·have hy:scope.names.lookup y=some .cell\/scope.names.lookup y=some .free:=hy
  rcases hy with hy|hy
  ·exact wn hy
  ·exact absurd rfl (S.nofree _ (PySem.mem_of_lookup hy))
 ·exact gh (x.above y c (PySem.mem_of_lookup h))
 ·have hi:i<vs.length:=by
   unfold start at h2
   by_cases hi:i<vs.length
   ·exact hi
   ·rw[bX (by simpa using hi)]at h2
    rw[j5]at h2
    split at h2<;>cases h2
  have ha:vs[i]? =some v:=by
   unfold start at h2
   rw[c9 (by simpa using hi),aF]at h2
   cases e:vs[i]? with
   |none=>rw[e]at h2;cases h2
   |some a=>rw[e]at h2;cases h2;rfl
  obtain⟨u,hu,rv⟩:=r.get ha
  have hp:ps[i]? =some y:=by
   rw[<-S.pre,List.getElem?_take_of_lt (by ac_nf)];exact h1
  have ndP:ps.Nodup:=by rw[<-S.pre];exact S.nd.sublist (List.take_sublist _ _)
  refine⟨u,rv,?_⟩
  rcases S.par y (ax hp)with k|k
  ·exact .inl ⟨k,sI ndP hp hu k⟩
  ·obtain⟨c,e⟩:=wn (n:=s.heap.objs.size+1) k
   refine .inr ⟨.inl k,c,e,?_⟩
   have q:=x.cell y c e
   rw[sK ndP hp hu (by show scope.names.lookup y≠_;rw[k];decide)]at q
   exact q
 ·exact e0.hok.fresh (gh (x.above y c (PySem.mem_of_lookup h)))
 ·unfold start
  show _=N.length
  rw[aN,ap,fJ]
  ac_nf
theorem HK{CX:Bj}{P:aI}{w:aY}{K:PySem.W.Frag}{mg:Str->Option ae}{base:Heap}{k:Nat}{f:Addr}{name qual:Str}{params:Arguments}{body:List Stmt}{scope:e8}{dV kV doc pm cdv ct oc:ae}{an od:Option Addr}
  {osl:Array (Option ae)} {N ps:List Str} {sp:Sp} (lk:K.lookup f=some ⟨oc,od,.func (PySem.W.fnOf name qual params body scope dV kV doc pm an cdv ct),osl⟩) (hcd:PySem.W.codeIn K cdv qual=true) (S:bj N ps scope)
  (len:∀vs H Q E,sp vs H Q E->vs.length=ps.length)
  (hbody:∀(A:Around) (outer:List Env) (s:ai) (H:Hp) (vs:List V) (Q:VK) (E:XK),Room k (A.deeper (envOfC qual scope s.heap.objs.size f cdv))->sp vs H Q E->
   ∃t,PSs (gO CX P w K mg base N qual scope f cdv A outer s H E) body t/\t {nx:=λ_ H'=>Q .non H',rt:=Q} (start N vs) H):
  FnOk P w K mg base CX (k+1) f (PySem.W.fnOf name qual params body scope dV kV doc pm an cdv ct) ps sp:=by
 refine⟨len,λA outer s H args us vs Q E hr e0 hb r hsp=> ?_⟩
 have hl:=len _ _ _ _ hsp
 have KX:K.In s.heap:=e0.mod.kin.keeps λb o e=>(e0.bs b o e).1
 have lim:s.heap.NoLimit:=e0.mod.nolimit.keeps λb o e=>(e0.bs b o e).1
 have hkind:∀y∈ps.zip us,scope.names.lookup y.1=some .local\/(scope.names.lookup y.1=some .cell/\((cellsFrom (s.heap.objs.size+1) scope.names []).lookup y.1).isSome=true):=λ⟨n,v⟩ hy=>by
  rcases S.par n (List.of_mem_zip hy).1 with q|q
  ·exact .inl q
  ·exact .inr ⟨q,PySem.W.cellsFrom_some _ _ _ (.inl q)⟩
 refine codeAny_call_function hr.depth (KX _ _ lk) rfl S.co S.gen rfl (PySem.W.codeRec_of KX hcd) (hb _ _ _ _ ?_)
 refine wpAny_newFunctionEnv_cells S.kind hkind λenv he s1 x=> ?_
 subst he
 refine⟨lim.keeps x.toInCall.keep,codeAny_func ?_⟩
 obtain⟨t,ht,hq⟩:=hbody A outer s H vs Q E (hr.deeper _) hsp
 have I:Inv (gO CX P w K mg base N qual scope f cdv A outer s H E) [] (start N vs) H s1:=AT S hr.hd e0 hl r x
 refine bc (ht [] s1 (start N vs) H _ I hq) (λfl s' hs=> ?_) λe s' hs=>hs
 have fin:∀{σ':St} {H':Hp} {v:V} {u:ae},Inv (gO CX P w K mg base N qual scope f cdv A outer s H E) [] σ' H' s'->RelV v u->Q v H'->CE outer P w H s Q u s':=
  fun{σ' H' v u} J rv q=>⟨v,H',J.os,J.bare,J.base,J.hok,rv,q⟩
 cases fl with
 |ret u=>
  obtain⟨v,σ',H',J,rv,q⟩:=hs
  exact fin J rv q
 |next=>
  obtain⟨σ',H',J,q⟩:=hs
  exact fin (v:=V.non) (u:=bn) J rfl q
 |brk=>
  obtain⟨_,_,_,q⟩:=hs
  exact bN q
 |cont=>
  obtain⟨_,_,_,q⟩:=hs
  exact bN q
section
variable{X:Cx}{x:Str}{p pos:Pos}{e:Expr}{es:List Expr}{t:TA}{id T:String}{r:List V->Hp->VK->Prop}
noncomputable def Oe(r:List V->Hp->VK->Prop)(t:TA):TE:=λσ H Q=>t σ H λvs H1=>r vs H1 Q
theorem Cu(hc:gx X (.builtin id) r)(hg:Gl X x)(hm:X.mg x=none)(hv:bY x=some (.builtin id))(ha:PA X (e::es) t)(hn:x≠ "__name__" :=by decide)(hdb:(x==("__debug__" :Str))=false:=by decide)
  (he:aq (e::es) X.env=(false,eval e X.env)::aq es X.env:=by rfl) (hpl:(bB pos (aq es X.env)).any (·.1)=false:=by rfl):PE X (.Call (.Name x p) (e::es) [] pos) (Oe r t):=by
 intro pins s σ H Q I h
 refine fL (lI I hg hm hv ?_ hn hdb)
 exact PyProof.Rows.callWith_builtin1 (dZ (ha pos pins s σ H _ I h) λus s1 ⟨vs,H1,I1,r1,q1⟩=>hc pins s1 σ H1 vs us Q I1 r1 q1) he hpl
theorem Ak(hc:gx X (.type T) r)(hg:Gl X x)(hm:X.mg x=none)(hv:bY x=some (.type T))(ha:PA X (e::es) t)(hn:x≠ "__name__" :=by decide)(hdb:(x==("__debug__" :Str))=false:=by decide)
  (he:aq (e::es) X.env=(false,eval e X.env)::aq es X.env:=by rfl) (hpl:(bB pos (aq es X.env)).any (·.1)=false:=by rfl):PE X (.Call (.Name x p) (e::es) [] pos) (Oe r t):=by
 intro pins s σ H Q I h
 refine fL (lI I hg hm hv ?_ hn hdb)
 exact dG (dZ (ha pos pins s σ H _ I h) λus s1 ⟨vs,H1,I1,r1,q1⟩=>hc pins s1 σ H1 vs us Q I1 r1 q1) he hpl
end
end L2
namespace HT
open PySem PyProof.Rows
section
open PySem.SeqAt
open PySem.AutoSeq1 (wpAny_loadPart')
open PySem.MeetsSeq PySem.MeetsSeq2 PySem.MeetsSeq3
end
section
variable{prog:aI}{w:aY}{A:Around}{E:ae->ai->Prop}{s:ai}
theorem cat_tup{t b:Addr}{vs ws:List ae}{Q:ae->ai->Prop}(ht:IsTup s.heap t vs.toArray)(hb:IsTup s.heap b ws.toArray)(hv:vs≠[])
  (h1:ws=[]->Q (.ref t) s) (h2:ws≠[]->Q (.ref s.heap.objs.size) {s with heap:=s.heap.push {cls:= .type "tuple",data:= .seq (vs++ws).toArray}})
  (hsz:vs.length+ws.length<=aK):wpAny (aQ prog w) A (cK .Add (.ref t) (.ref b)) Q E s:=by
 obtain⟨⟨cls,dd,data,sl⟩,ho,hc,n,hd⟩:=id ht
 obtain⟨⟨cls2,dd2,data2,Be⟩,ho2,hc2,n2,hd2⟩:=id hb
 simp only at hc hd hc2 hd2
 subst hc hd hc2 hd2
 have e:vs.toArray++ws.toArray=(vs++ws).toArray:=by simp
 by_cases hw:ws=[]
 ·exact concat_meets ⟨_,ho,rfl⟩ ⟨_,ho2,rfl⟩ noFill_tuple_add seq_tuple_add PySem.F.slot_tuple_add PySem.F.entry_tuple_add (PySem.F.args_tuple_add_2 _ _)
   (tuple_addW1 t b vs.toArray ws.toArray n n2 dd dd2 sl Be (by simpa using hv) (by simp[hw])) ⟨ho,ho2,h1 hw⟩
 ·refine concat_meets ⟨_,ho,rfl⟩ ⟨_,ho2,rfl⟩ noFill_tuple_add seq_tuple_add PySem.F.slot_tuple_add PySem.F.entry_tuple_add (PySem.F.args_tuple_add_2 _ _)
   (tuple_addW2 t b vs.toArray ws.toArray n n2 dd dd2 sl Be (by simpa using hv) (by simpa using hw) (by rw[aw,aw];exact hsz)) ⟨ho,ho2,?_⟩
  rw[e]
  exact h2 hw
noncomputable def sIx(n d:Nat):Option Int->Nat
 |none=>d
 |some v=>if v<0 then(v+(n:Int)).toNat else min v.toNat n
theorem sIx_none(n d:Nat):sIx n d none=d:=rfl
theorem sIx_nat(n d k:Nat):sIx n d (some (k:Int))=min k n:=by
 show(if(k:Int)<0 then((k:Int)+(n:Int)).toNat else min (k:Int).toNat n)=min k n
 rw[if_neg (by ac_nf),bL]
theorem Ix(n d:Nat)(hd:d<=n)(o:Option Int):sIx n d o<=n:=by
 cases o with
 |none=>exact hd
 |some v=>
  show(if v<0 then(v+(n:Int)).toNat else min v.toNat n)<=n
  by_cases hv:v<0
  ·rw[if_pos hv];ac_nf
  ·rw[if_neg hv];exact Nat.min_le_right _ _
theorem zH(v:Int)(n d:Nat):(if v<0 then max (v+(n:Int)) 0 else min v (n:Int))=((sIx n d (some v):Nat):Int):=by
 show(if v<0 then max (v+(n:Int)) 0 else min v (n:Int))=(((if v<0 then(v+(n:Int)).toNat else min v.toNat n):Nat):Int)
 by_cases hv:v<0
 ·simp only[if_pos hv];ac_nf
 ·simp only[if_neg hv];ac_nf
theorem xZ(lo hi:Option Int)(n:Nat):dS lo hi 1 (n:Int)=(((sIx n 0 lo:Nat):Int),((sIx n n hi:Nat):Int)):=by
 have h1:¬((1:Int)<0):=by ac_nf
 unfold dS
 simp only[h1,if_false]
 refine Prod.ext ?_ ?_
 ·cases lo with
  |none=>rfl
  |some v=>exact zH v n 0
 ·cases hi with
  |none=>rfl
  |some v=>exact zH v n n
theorem xl(i j:Nat):bV (i:Int) (j:Int) 1=j-i:=by
 unfold bV
 have h1:(1:Int)>0:=by ac_nf
 simp only[h1,if_true,Int.ediv_one]
 split<;>ac_nf
theorem iJ{v:ae}{o:Option Int}{Q:Option Int->ai->Prop}(p:IsPart v o)(h:Q o s):wpAny (aQ prog w) A (cb.Slice.slicePartIndex v) Q E s:=by
 cases p with
 |none=>exact slicePart_none h
 |int i t=>exact slicePart_int h
theorem nX{sl:Addr}{vl vu:ae}{lo hi:Option Int}{n:Nat}{Q:Int×Int×Nat->ai->Prop}(hs:s.heap.IsSliceOf sl vl vu .none)(pl:IsPart vl lo)(pu:IsPart vu hi)
  (h:Q (((sIx n 0 lo:Nat):Int),1,sIx n n hi-sIx n 0 lo) s):wpAny (aQ prog w) A (fj (.ref sl) (pure (n:Int))) Q E s:=by
 obtain⟨os,hos,hcs,hds⟩:=id hs
 unfold fj oZ
 refine aa (aa (bw hos hds (x:=vl) rfl (aa (bw hos hds (x:=vu) rfl (aa (bw hos hds (x:= .none) rfl (aA ?_)))))))
 refine aa (slicePart_none ?_)
 show wpAny _ _ (if((1:Int)==0)=true then _ else _) _ _ s
 rw[if_neg (by decide)]
 refine aa (iJ pl (aa (iJ pu (aa (aA ?_)))))
 show wpAny _ _ (match dS lo hi 1 (n:Int)with|(lo,hi)=>pure (lo,(1:Int),bV lo hi 1)) _ _ s
 rw[xZ lo hi n]
 show wpAny _ _ (pure (((sIx n 0 lo:Nat):Int),(1:Int),bV ((sIx n 0 lo:Nat):Int) ((sIx n n hi:Nat):Int) 1)) _ _ s
 rw[xl]
 exact aA h
theorem Cj(xs:Array ae)(i k:Nat):((cV k).filterMap fun(m:Nat)=>xs[((i:Int)+(m:Int)*1).toNat]?).toArray=((xs.toList.drop i).take k).toArray:=by
 have e:(fun(m:Nat)=>xs[((i:Int)+(m:Int)*1).toNat]?)=λm=>xs[i+m]? :=by
  funext m
  have:((i:Int)+(m:Int)*1).toNat=i+m:=by ac_nf
  rw[this]
 rw[e]
 have:=pick_run xs i k
 rw[List.filterMap_map]at this
 have e2:((λx=>xs[x]?)∘λx=>i+x)=λm=>xs[i+m]? :=rfl
 rw[e2]at this
 rw[this]
theorem getItem_tuple_cut{t sl:Addr}{items:Array ae}{vl vu:ae}{lo hi:Option Int}{Q:ae->ai->Prop}(ht:IsTup s.heap t items)(hs:s.heap.IsSliceOf sl vl vu .none)(pl:IsPart vl lo)(pu:IsPart vu hi)
  (hw:¬(sIx items.size 0 lo=0/\sIx items.size items.size hi=items.size))
  (h:Q (.ref s.heap.objs.size) {s with heap:=s.heap.push {cls:= .type "tuple",data:= .seq ((items.toList.drop (sIx items.size 0 lo)).take (sIx items.size items.size hi-sIx items.size 0 lo)).toArray}})
  (hsz:items.size<=aK):wpAny (aQ prog w) A (jC (.ref t) (.ref sl)) Q E s:=by
 have htake:sizeOk (.seq ((items.toList.drop (sIx items.size 0 lo)).take (sIx items.size items.size hi-sIx items.size 0 lo)).toArray):=by
  show((items.toList.drop (sIx items.size 0 lo)).take (sIx items.size items.size hi-sIx items.size 0 lo)).toArray.size<=aK
  rw[aw,bb,fV,gj]
  ac_nf
 have hj:sIx items.size items.size hi<=items.size:=Ix _ _ (av _) hi
 obtain⟨os,hos,hcs,hds⟩:=id hs
 have hTs:s.TypeIs (.ref sl) "slice" :=⟨os,hos,hcs⟩
 unfold jC
 try with_reducible refine dH ?_
 first|refine aa (aA ?_)|skip
 refine aa (wpAny_sequenceKey ht.typeIs (by decide) ?_)
 refine aa (cS (name:=a9 "__getitem__") ht.typeIs cw
  (eB cw ht.typeIs entry_tuple_getitem ?_ (args_tuple_getitem _ _)))
 show wpAny _ _ (oI (.ref t)>>=_) _ _ s
 refine aa (tupleItemsOf_ ht ?_)
 refine aa (wpAny_typeOf hTs ?_)
 rw[if_pos (by decide)]
 refine aa (nX hs pl pu ?_)
 have hno:¬((((sIx items.size 0 lo:Nat):Int)==0&&(1:Int)==1&&(sIx items.size items.size hi-sIx items.size 0 lo)==items.size)=true):=by
  intro q
  rw[aH,aH]at q
  have q1:((sIx items.size 0 lo:Nat):Int)=0:=eq_of_beq q.1.1
  have q2:sIx items.size items.size hi-sIx items.size 0 lo=items.size:=eq_of_beq q.2
  exact hw ⟨by ac_nf,by ac_nf⟩
 show wpAny _ _ (if(((sIx items.size 0 lo:Nat):Int)==0&&(1:Int)==1&&(sIx items.size items.size hi-sIx items.size 0 lo)==items.size)=true then _ else _) _ _ s
 rw[if_neg hno,Cj]
 first
  |exact aa (m:=ce _) (bF (aA ⟨_,rfl,aA h⟩) htake)
  |exact aa (m:=ce _) (bF (aa (aA (aA ⟨_,rfl,aA h⟩))) htake)
  |exact aa (aa (m:=ce _) (bF (aA (aA ⟨_,rfl,aA h⟩)) htake))
  |exact aa (aa (m:=ce _) (bF (aA ⟨_,rfl,aA h⟩) htake))
end
end HT
namespace L2
open PySem PySem.Spec PyProof.Rows
noncomputable abbrev TO:=St->Hp->(Option Int->Hp->Prop)->Prop
noncomputable def PO(X:Cx)(e:Option Expr)(t:TO):Prop:=
 ∀(pins:List (Addr×Obj)) (s:ai) (σ:St) (H:Hp) (Q:Option Int->Hp->Prop),Inv X pins σ H s->t σ H Q->
  wpAny (aQ X.prog X.w) X.A (evalPart e X.env) (λu s'=>∃o H',Inv X pins σ H' s'/\IsPart u o/\Q o H') X.xe s
noncomputable def EH:TO:=λ_ H Q=>Q none H
noncomputable def Lp(t:TE):TO:=λσ H Q=>t σ H λx H1=>∃i,x= .int i/\Q (some i) H1
theorem xN{ns:List Int}:∀{us:List ae},Vals (ns.map V.int) us->IntsAre us ns:=by
 induction ns with
 |nil=>intro us r;rw[kQ]at r;cases r;exact .nil
 |cons n ns ih=>
  intro us r
  rw[aE]at r
  cases r with
  |cons r1 r2=>
   obtain⟨t,e⟩:=r1
   subst e
   exact .cons n t (ih r2)
section
variable{X:Cx}{e:Expr}{te:TE}{lo hi:Option Expr}{tl th:TO}{pos p2:Pos}
theorem Fc:PO X none EH:=by
 intro pins s σ H Q I h
 rw[evalPart_none]
 exact aA ⟨none,H,I,.none,h⟩
theorem Fb(h:PE X e te):PO X (some e) (Lp te):=by
 intro pins s σ H Q I hw
 rw[evalPart_some]
 refine dZ (h pins s σ H _ I hw) λu s1 hPl=> ?_
 obtain⟨x,H1,I1,r1,q1⟩:=hPl
 obtain⟨i,rfl,q⟩:=q1
 obtain⟨t,rfl⟩:=r1
 exact⟨some i,H1,I1,.int i t,q⟩
noncomputable def NK(X:Cx)(r:V->Option Int->Option Int->Hp->VK->Prop):Prop:=
 ∀(pins:List (Addr×Obj)) (s:ai) (σ:St) (H:Hp) (x:V) (v vl vu:ae) (lo hi:Option Int) (sl:Addr) (Q:VK),Inv X pins σ H s->RelV x v->s.heap.IsSliceOf sl vl vu .none->IsPart vl lo->IsPart vu hi->r x lo hi H Q->
  ∃T id,typeLookup (.type T) "__getitem__" =pure (some (.builtin id))/\s.TypeIs v T/\wpAny (aQ X.prog X.w) X.A (jC v (.ref sl)) (EP X pins σ Q) X.xe s
noncomputable def tSl(r:V->Option Int->Option Int->Hp->VK->Prop)(te:TE)(tl th:TO):TE:=λσ H Q=>te σ H λx H1=>tl σ H1 λl H2=>th σ H2 λu H3=>r x l u H3 Q
theorem Cm{r:V->Option Int->Option Int->Hp->VK->Prop}(hr:NK X r)(he:PE X e te)(hl:PO X lo tl)(hu:PO X hi th):PE X (.Subscript e (.Slice lo hi none p2) pos) (tSl r te tl th):=by
 intro pins s σ H Q I h
 refine Subscript_ (dZ (he pins s σ H _ I h) λv s1 hPl=> ?_)
 obtain⟨x,H1,I1,r1,q1⟩:=hPl
 refine wpAny_Slice (dZ (hl pins s1 σ H1 _ I1 q1) λvl s2 ⟨l,H2,I2,pl,q2⟩=>dZ (hu pins s2 σ H2 _ I2 q2) λvu s3 ⟨u,H3,I3,pu,q3⟩=> ?_)
 rw[evalPart_none]
 refine aA ?_
 have I4:Inv X pins σ H3 {s3 with heap:=s3.heap.push {cls:= .type "slice",data:= .fields #[vl,vu,.none]}}:=I3.kept (t':=s3.toks) λb ob q=>ak _ q
 obtain⟨T,id,hT,ht,hg⟩:=hr pins {s3 with heap:=s3.heap.push {cls:= .type "slice",data:= .fields #[vl,vu,.none]}} σ H3 x v vl vu l u s3.heap.objs.size Q I4 r1 (j6 ..) pl pu q3
 show wpAny (aQ X.prog X.w) X.A (subscriptTail e (.Slice lo hi none p2) v (.ref s3.heap.objs.size)) (EP X pins σ Q) X.xe {s3 with heap:=s3.heap.push {cls:= .type "slice",data:= .fields #[vl,vu,.none]}}
 exact tail_any (ops:=[.ref s3.heap.objs.size,v]) ht hT hg (by with_unfolding_all rfl)
noncomputable def ur(xs:List V)(lo hi:Option Int):List V:=(xs.drop (HT.sIx xs.length 0 lo)).take (HT.sIx xs.length xs.length hi-HT.sIx xs.length 0 lo)
theorem oR(xs:List V)(lo hi:Option Int):(ur xs lo hi).length<=xs.length:=by
 unfold ur
 rw[bb,fV]
 ac_nf
noncomputable def Oo(K:PySem.W.Frag):V->Option Int->Option Int->Hp->VK->Prop:=λx lo hi H Q=>∃a xs,x= .ref a/\SqT K H a xs/\
 ¬(HT.sIx xs.length 0 lo=0/\HT.sIx xs.length xs.length hi=xs.length)/\∀p,H p=none->Q (.ref p) (upd H p (.tup (ur xs lo hi)))
theorem Im:NK X (Oo X.K):=by
 intro pins s σ H x v vl vu lo hi sl Q I rx hs pl pu h
 obtain⟨a,xs,rfl,hx,hw,q⟩:=h
 cases rx
 obtain⟨its,r,ht,hz⟩:=I.tuple hx
 have hlen:its.toArray.size=xs.length:=by rw[aw];exact r.length.symm
 refine⟨"tuple",_,cw.lookup,ht.typeIs,?_⟩
 refine HT.getItem_tuple_cut ht hs pl pu (by rw[hlen];exact hw) ?_ (by rw[hlen];exact hz)
 rw[hlen]
 refine⟨.ref s.heap.objs.size,_,I.laid (t':=s.toks) (o:= .tup (ur xs lo hi)) (λb ob q=>ak _ q) (av _) ?_,rfl,q _ (I.hok.fresh (av _))⟩
 exact⟨aO (oR xs lo hi) hz,_,(r.drop (HT.sIx xs.length 0 lo)).take (HT.sIx xs.length xs.length hi-HT.sIx xs.length 0 lo),IsTup.new _ _⟩
noncomputable def LK(K:PySem.W.Frag):R2:=λx y H Q=>∃a b xs ys,x= .ref a/\y= .ref b/\SqT K H a xs/\SqT K H b ys/\xs≠[]/\xs.length+ys.length<=aK/\
 (ys=[]->Q (.ref a) H)/\(ys≠[]->∀p,H p=none->Q (.ref p) (upd H p (.tup (xs++ys))))
theorem Vals.nil_iff{xs:List V}{us:List ae}(r:Vals xs us):us=[]↔xs=[]:=by
 cases r with
 |nil=>simp
 |cons _ _=>simp
theorem Fv:ic X (cK .Add) (LK X.K):=by
 intro pins s σ H x y v u Q I rx ry h
 obtain⟨a,b,xs,ys,rfl,rfl,ha,hb,hx,hz,q1,q2⟩:=h
 cases rx
 cases ry
 obtain⟨its,r1,p1,_⟩:=I.tuple ha
 obtain⟨its2,r2,p2,_⟩:=I.tuple hb
 refine HT.cat_tup p1 p2 (λz=>hx (r1.nil_iff.mp z)) (λz=>⟨.ref a,H,I,rfl,q1 (r2.nil_iff.mp z)⟩) (λz=> ?_) (by rw[<-r1.length,<-r2.length];exact hz)
 refine⟨.ref s.heap.objs.size,_,I.laid (t':=s.toks) (o:= .tup (xs++ys)) (λb ob q=>ak _ q) (av _) ?_,rfl,q2 (λw=>z (r2.nil_iff.mpr w)) _ (I.hok.fresh (av _))⟩
 exact⟨by rw[aN];exact hz,_,r1.append r2,IsTup.new _ _⟩
end
noncomputable def xK(n:Nat)(i:Int):Option Nat:=if 0<=i then(if i<n then some i.toNat else none)else if-(n:Int)<=i then some (i+n).toNat else none
noncomputable def oV{α:Type}(xs:List α)(i:Int):Option α:=(xK xs.length i).bind λj=>xs[j]?
theorem zy{n:Nat}{i:Int}{j:Nat}(h:xK n i=some j):seqIndex? i n=some j/\j<n/\-(n:Int)<=i/\i<n:=by
 unfold xK at h
 by_cases h0:0<=i
 ·rw[if_pos h0]at h
  by_cases h1:i<n
  ·rw[if_pos h1]at h
   have e:i.toNat=j:=a8 h
   exact⟨by rw[seqIndex_of h0 h1,e],by ac_nf,by ac_nf,h1⟩
  ·rw[if_neg h1]at h;cases h
 ·rw[if_neg h0]at h
  by_cases h1: -(n:Int)<=i
  ·rw[if_pos h1]at h
   have e:(i+n).toNat=j:=a8 h
   exact⟨by rw[seqIndex_neg (by ac_nf) h1,e],by ac_nf,h1,by ac_nf⟩
  ·rw[if_neg h1]at h;cases h
theorem pN{α:Type}{xs:List α}{i:Int}{v:α}(h:oV xs i=some v):∃j,seqIndex? i xs.length=some j/\xs[j]? =some v/\j<xs.length/\-(xs.length:Int)<=i/\i<xs.length:=by
 unfold oV at h
 cases e:xK xs.length i with
 |none=>rw[e]at h;cases h
 |some j=>
  rw[e]at h
  obtain⟨h1,h2,h3,h4⟩:=zy e
  exact⟨j,h1,h,h2,h3,h4⟩
theorem bS{α:Type}{xs:List α}{j:Nat}{v:α}(h:xs[j]? =some v):oV xs (j:Int)=some v:=by
 have hj:j<xs.length:=(am.mp h).1
 have e:xK xs.length (j:Int)=some j:=by
  unfold xK
  rw[if_pos (by ac_nf),if_pos (by ac_nf)];simp
 unfold oV;rw[e];exact h
noncomputable def uB(b:Expr):Prop:=∀o i,subscripted b false o i=operate [o,i] (jC o i)
noncomputable def Lh(X:Cx)(r:R2):Prop:=
 ∀(value slice:Expr) (pins:List (Addr×Obj)) (s:ai) (σ:St) (H:Hp) (x y:V) (v u:ae) (Q:VK),Inv X pins σ H s->RelV x v->RelV y u->r x y H Q->
  subscripted slice false v u=operate [v,u] (jC v u)->wpAny (aQ X.prog X.w) X.A (subscriptTail value slice v u) (EP X pins σ Q) X.xe s
noncomputable def Bi(X:Cx)(id:String)(r:V->List V->Hp->VK->Prop):Prop:=
 ∀(pins:List (Addr×Obj)) (s:ai) (σ:St) (H:Hp) (x:V) (xs:List V) (v:ae) (us:List ae) (Q:VK),Inv X pins σ H s->RelV x v->Vals xs us->r x xs H Q->
  wpAny (aQ X.prog X.w) X.A (call (.builtin id) (v::us)) (EP X pins σ Q) X.xe s
section
variable{X:Cx}{a b:Expr}{ta tb:TE}{pos:Pos}
theorem LQ{r:R2}(hr:Lh X r)(ha:PE X a ta)(hb:PE X b tb)(hs:uB b):PE X (.Subscript a b pos) (Lq r ta tb):=by
 intro pins s σ H Q I h
 exact Subscript_ (KU ha hb I h λv u s2 x y H2 I2 rx ry q=>hr a b pins s2 σ H2 x y v u Q I2 rx ry q (hs _ _))
noncomputable def Ow(K:PySem.W.Frag):R2:=λx y H Q=>∃p xs i v,x= .ref p/\y= .int i/\SqL K H p xs/\oV xs i=some v/\Q v H
noncomputable def Ou(K:PySem.W.Frag):R2:=λx y H Q=>∃p xs i v,x= .ref p/\y= .int i/\SqT K H p xs/\oV xs i=some v/\Q v H
noncomputable def Ov:R2:=λx y H Q=>∃z i c,x= .str z/\y= .int i/\z.length<=aK/\oV z.cps.toList i=some c/\Q (.str ⟨#[c]⟩) H
theorem Gn:Lh X (Ow X.K):=by
 intro value slice pins s σ H x y v u Q I rx ry h hs
 obtain⟨p,xs,i,z,rfl,rfl,hq,he,q⟩:=h
 cases rx
 obtain⟨t,rfl⟩:=ry
 obtain⟨its,r,pl,hz⟩:=I.list hq
 obtain⟨j,h1,h2,h3,h4,h5⟩:=pN he
 obtain⟨w,ew,rw'⟩:=r.get h2
 have hl:=r.length
 have hn:=lH
 have fin:EP X pins σ Q w s:=⟨z,H,I,rw',q⟩
 by_cases h0:0<=i
 ·have hj:i.toNat=j:=by
   rw[seqIndex_of h0 h5]at h1
   exact a8 h1
  exact item_listR pl.isList h0 (by ac_nf) (by rw[hj];simpa using ew) fin hs
 ·have hj:(i+(its.toArray.size:Int)).toNat=j:=by
   rw[seqIndex_neg (by ac_nf) h4]at h1
   rw[aw,<-hl]
   exact a8 h1
  exact subscriptTail_builtinR (x:=w) pl.isList.typeIs tJ.lookup
   (wpAny_getItem_list_neg (Q:=λr s'=>r=w/\EP X pins σ Q r s') pl.isList (by ac_nf) (by rw[aw]<;>ac_nf) (by ac_nf) (by rw[hj];simpa using ew) ⟨rfl,fin⟩) hs
theorem Kp:Lh X (Ou X.K):=by
 intro value slice pins s σ H x y v u Q I rx ry h hs
 obtain⟨p,xs,i,z,rfl,rfl,hq,he,q⟩:=h
 cases rx
 obtain⟨t,rfl⟩:=ry
 obtain⟨its,r,pl,hz⟩:=I.tuple hq
 obtain⟨j,h1,h2,h3,h4,h5⟩:=pN he
 obtain⟨w,ew,rw'⟩:=r.get h2
 have hl:=r.length
 have hn:=lH
 have fin:EP X pins σ Q w s:=⟨z,H,I,rw',q⟩
 exact subscriptTail_builtinR (x:=w) pl.typeIs slot_tuple_getitem.lookup
  (getItem_tuple (j:=j) (Q:=λr s'=>r=w/\EP X pins σ Q r s') pl (by ac_nf) (by ac_nf) (by rw[aw,<-hl];exact h1) (by simpa using ew) ⟨rfl,fin⟩) hs
theorem Kq:Lh X Ov:=by
 intro value slice pins s σ H x y v u Q I rx ry h hs
 obtain⟨z,i,c,rfl,rfl,hz,he,q⟩:=h
 obtain⟨t,rfl⟩:=rx
 obtain⟨t',rfl⟩:=ry
 obtain⟨j,h1,h2,h3,h4,h5⟩:=pN he
 have hl:z.cps.toList.length=z.length:=by simp[Str.length]
 rw[hl]at h1 h4 h5
 have hn:=lH
 exact tail_any (typeIs_str s z t) slot_str_getitem.lookup (getItem_str (c:=c) (by
  have e1:decide (i< -(2^63:Int))=false:=decide_eq_false (by ac_nf)
  have e2:decide (i≥2^63)=false:=decide_eq_false (by ac_nf)
  rw[e1,e2,Bool.or_false]) (by rw[h1];simpa using h2) ⟨.str ⟨#[c]⟩,H,I.tok _,⟨_,rfl⟩,q⟩) hs
theorem xD(its:List ae)(n j:Nat)(u:ae):eS (·.setIfInBounds j u) {cls:= .type "list",data:= .seq its.toArray n}={cls:= .type "list",data:= .seq (its.set j u).toArray n}:=by
 simp[eS]
theorem Inv.lst{pins:List (Addr×Obj)}{σ:St}{H:Hp}{s:ai}{p:Addr}{xs:List V}(I:Inv X pins σ H s)(h:H p=some (.lst xs)):
  ∃(its:List ae) (n:Nat),Vals xs its/\s.heap.get? p=some {cls:= .type "list",data:= .seq its.toArray n}/\xs.length<=aK:=by
 obtain⟨z,its,n,r,e⟩:=I.hok p _ h
 exact⟨its,n,r,e,z⟩
theorem Inv.lstUpd{pins:List (Addr×Obj)}{σ:St}{H:Hp}{s:ai}{p:Addr}{xs ys:List V}{its its':List ae}{n n':Nat}{f:Obj->Obj}(I:Inv X pins σ H s)(h:H p=some (.lst xs))
  (ho:s.heap.get? p=some {cls:= .type "list",data:= .seq its.toArray n}) (hf:f {cls:= .type "list",data:= .seq its.toArray n}={cls:= .type "list",data:= .seq its'.toArray n'}) (r:Vals ys its') (hz:ys.length<=aK) (t:Nat):
  Inv X pins σ (upd H p (.lst ys)) {s with heap:=s.heap.update p f,toks:=t}:=by
 have e:(s.heap.update p f).get? p=some {cls:= .type "list",data:= .seq its'.toArray n'}:=by
  rw[fK f ho (by rw[hf]<;>rfl),hf]
 refine I.write (x:=p) (e:=p) (by rw[h];trivial) (.inl rfl) (λb u hb q=>(cj _ _ (aG hb)).trans q) ⟨_,e⟩ ?_
 exact⟨hz,its',n',r,e⟩
noncomputable def LI:V->V->V->Hp->(Hp->Prop)->Prop:=λo i v H Q=>∃p xs k j,o= .ref p/\i= .int k/\H p=some (.lst xs)/\xK xs.length k=some j/\Q (upd H p (.lst (xs.set j v)))
theorem BR:PSet X LI:=by
 intro pins s σ H o i v ov iv u Q I ro ri rv h
 obtain⟨p,xs,k,j,rfl,rfl,hp,hj,q⟩:=h
 cases ro
 obtain⟨t,rfl⟩:=ri
 obtain⟨its,n,r,ho,hz⟩:=I.lst hp
 obtain⟨h1,h2,h3,h4⟩:=zy hj
 have hl:=r.length
 have hn:=lH
 have I':Inv X pins σ (upd H p (.lst (xs.set j v))) {s with heap:=s.heap.update p (eS (·.setIfInBounds j u))}:=
  I.lstUpd hp ho (xD its n j u) (r.set rv j) (by rw[gI];exact hz) s.toks
 by_cases h0:0<=k
 ·have hk:k.toNat=j:=by
   rw[seqIndex_of h0 h4]at h1
   exact a8 h1
  exact PySem.W.ki_setAt ho h0 (by ac_nf) (by rw[aw,<-hl];exact h4) (by rw[hk];exact⟨_,I',q⟩)
 ·have hk:(k+(its.toArray.size:Int)).toNat=j:=by
   rw[seqIndex_neg (by ac_nf) h3]at h1
   rw[aw,<-hl]
   exact a8 h1
  exact PySem.W.ki_setBack ho (by ac_nf) (by rw[aw,<-hl];exact h3) (by ac_nf) (by rw[hk];exact⟨_,I',q⟩)
theorem tK(lo hi:Option Int)(n:Nat):(iY lo hi none n).1=((HT.sIx n 0 lo:Nat):Int)/\(iY lo hi none n).2.1=((HT.sIx n n hi:Nat):Int)/\(iY lo hi none n).2.2=1:=by
 refine⟨?_,?_,rfl⟩
 ·cases lo with
  |none=>simp[iY,HT.sIx]
  |some i=>
   simp only[iY,HT.sIx,Option.getD_none,show(1:Int)>0 by decide,if_true]
   by_cases h:i<0
   ·simp only[h,if_true]<;>ac_nf
   ·simp only[h,if_false]<;>ac_nf
 ·cases hi with
  |none=>simp[iY,HT.sIx]
  |some i=>
   simp only[iY,HT.sIx,Option.getD_none,show(1:Int)>0 by decide,if_true]
   by_cases h:i<0
   ·simp only[h,if_true]<;>ac_nf
   ·simp only[h,if_false]<;>ac_nf
theorem rG(its:List ae)(lo hi:Option Int):slicePick its.toArray lo hi none=((its.drop (HT.sIx its.length 0 lo)).take (HT.sIx its.length its.length hi-HT.sIx its.length 0 lo)).toArray:=by
 obtain⟨h1,h2,h3⟩:=tK lo hi its.toArray.size
 unfold slicePick
 rw[h1,h2,h3]
 simp only[sliceRange_one,pick_run,aw]<;>rfl
noncomputable def Oq(K:PySem.W.Frag):V->Option Int->Option Int->Hp->VK->Prop:=λx lo hi H Q=>∃a xs,x= .ref a/\SqL K H a xs/\∀p,H p=none->Q (.ref p) (upd H p (.lst (ur xs lo hi)))
theorem EM:NK X (Oq X.K):=by
 intro pins s σ H x v vl vu lo hi sl Q I rx hs pl pu h
 obtain⟨a,xs,rfl,hx,q⟩:=h
 cases rx
 obtain⟨its,r,ht,hz⟩:=I.list hx
 have hlen:=r.length
 refine⟨"list",_,tJ.lookup,ht.isList.typeIs,?_⟩
 refine Bx ht.isList hs pl pu .none (by simp) ?_ (by rw[aw]<;>ac_nf)
 rw[rG,<-hlen]
 refine⟨.ref s.heap.objs.size,_,I.laid (t':=s.toks) (o:= .lst (ur xs lo hi)) (λb ob q=>ak _ q) (av _) ?_,rfl,q _ (I.hok.fresh (av _))⟩
 exact⟨aO (oR xs lo hi) hz,_,0,(r.drop (HT.sIx xs.length 0 lo)).take (HT.sIx xs.length xs.length hi-HT.sIx xs.length 0 lo),aJ _ rfl⟩
noncomputable def lq:V->Bool
 | .non=>true
 | .bl _=>true
 | .int _=>true
 | .str _=>true
 |_=>false
noncomputable def GI:V->V->Bool
 | .non,.non=>true
 | .bl a,.bl b=>a==b
 | .bl a,.int b=>(if a then 1 else 0)==b
 | .int a,.bl b=>a==(if b then 1 else 0)
 | .int a,.int b=>a==b
 | .str a,.str b=>a==b
 |_,_=>false
theorem KC{A:Around}{s:ai}{y x:V}{u v:ae}(ry:RelV y u)(rx:RelV x v)(fy:lq y=true)(fx:lq x=true):SeqAt.EqAt A s u v (GI y x):=by
 cases y with
 |non=>
  cases ry
  cases x with
  |non=>cases rx;exact SeqAt.EqAt.same _
  |bl b=>cases rx;exact SeqAt.EqAt.none_bool b
  |int b=>obtain⟨t,rfl⟩:=rx;exact SeqAt.EqAt.none_int b t
  |str b=>obtain⟨t,rfl⟩:=rx;exact SeqAt.EqAt.none_str b t
  |_=>exact absurd (show false=true from fx) bd
 |bl a=>
  cases ry
  cases x with
  |non=>cases rx;exact SeqAt.EqAt.bool_none a
  |bl b=>cases rx;exact SeqAt.EqAt.bool_bool a b
  |int b=>obtain⟨t,rfl⟩:=rx;exact SeqAt.EqAt.bool_int a b t
  |str b=>obtain⟨t,rfl⟩:=rx;exact SeqAt.EqAt.bool_str a b t
  |_=>exact absurd (show false=true from fx) bd
 |int a=>
  obtain⟨t',rfl⟩:=ry
  cases x with
  |non=>cases rx;exact SeqAt.EqAt.int_none a t'
  |bl b=>cases rx;exact SeqAt.EqAt.int_bool a t' b
  |int b=>obtain⟨t,rfl⟩:=rx;exact SeqAt.EqAt.int_int a t' b t
  |str b=>obtain⟨t,rfl⟩:=rx;exact lw a t' b t
  |_=>exact absurd (show false=true from fx) bd
 |str a=>
  obtain⟨t',rfl⟩:=ry
  cases x with
  |non=>cases rx;exact SeqAt.EqAt.str_none a t'
  |bl b=>cases rx;exact SeqAt.EqAt.str_bool a t' b
  |int b=>obtain⟨t,rfl⟩:=rx;exact lv a t' b t
  |str b=>obtain⟨t,rfl⟩:=rx;exact SeqAt.EqAt.str_str a t' b t
  |_=>exact absurd (show false=true from fx) bd
 |_=>exact absurd (show false=true from fy) bd
noncomputable def GJ(x:V)(u:ae):Bool:=match u with
 | .none=>GI .non x
 | .bool b=>GI (.bl b) x
 | .int i _=>GI (.int i) x
 | .str z _=>GI (.str z) x
 |_=>false
theorem DU{x y:V}{u:ae}(r:RelV y u)(f:lq y=true):GJ x u=GI y x:=by
 cases y with
 |non=>cases r;rfl
 |bl b=>cases r;rfl
 |int i=>obtain⟨t,rfl⟩:=r;rfl
 |str z=>obtain⟨t,rfl⟩:=r;rfl
 |_=>exact absurd (show false=true from f) bd
theorem uy{x:V}:∀{xs:List V} {us:List ae},Vals xs us->xs.all lq=true->us.any (GJ x)=xs.any λy=>GI y x
 |_,_,.nil,_=>rfl
 |y::xs,u::us,.cons r t,f=>by
  rw[jO,aH]at f
  rw[dX,dX,DU r f.1,uy t f.2]
theorem qG{A:Around}{s:ai}{x:V}{v:ae}(rx:RelV x v)(fx:lq x=true):∀{xs:List V} {us:List ae},Vals xs us->xs.all lq=true->∀u∈us,SeqAt.EqAt A s u v (GJ x u)
 |_,_,.nil,_=>λu hu=>by cases hu
 |y::xs,u::us,.cons r t,f=>λu' hu=>by
  rw[jO,aH]at f
  rcases aD.mp hu with rfl|hu
  ·rw[DU r f.1];exact KC r rx f.1 fx
  ·exact qG rx fx t f.2 u' hu
noncomputable def NU(x:V)(xs:List V):Bool:=xs.any λy=>GI y x
noncomputable def rIn(K:PySem.W.Frag)(neg:Bool):R2:=λx y H Q=>∃p xs,y= .ref p/\(SqL K H p xs\/SqT K H p xs)/\lq x=true/\xs.all lq=true/\Q (.bl (if neg then !NU x xs else NU x xs)) H
theorem su:ic X (bQ .In) (rIn X.K false):=by
 intro pins s σ H x y v u Q I rx ry h
 obtain⟨p,xs,rfl,hq,fx,fs,q⟩:=h
 cases ry
 rcases hq with hq|hq
 ·obtain⟨its,r,pl,hz⟩:=I.list hq
  refine SeqAt.in_listAt (GJ x) pl.isList (λw hw=>qG rx fx r fs w (by simpa using hw)) ⟨.bl _,H,I,rfl,?_⟩
  rw[show its.toArray.any (GJ x)=its.any (GJ x)by simp,uy r fs]
  exact q
 ·obtain⟨its,r,pl,hz⟩:=I.tuple hq
  refine SeqAt.in_tupleAt (GJ x) pl (λw hw=>qG rx fx r fs w (by simpa using hw)) ⟨.bl _,H,I,rfl,?_⟩
  rw[show its.toArray.any (GJ x)=its.any (GJ x)by simp,uy r fs]
  exact q
theorem nh:gx X (.builtin "len") (λxs H Q=>∃p ys,xs=[.ref p]/\(SqL X.K H p ys\/SqT X.K H p ys)/\Q (.int ys.length) H):=by
 intro pins s σ H xs us Q I r h
 obtain⟨p,ys,rfl,hq,q⟩:=h
 obtain⟨u,rfl,rx⟩:=yj r
 cases rx
 have hn:=lH
 rcases hq with hq|hq
 ·obtain⟨its,r',pl,hz⟩:=I.list hq
  have hlen:=r'.length
  exact Calls.call_len_list pl.isList (by simp only[aw]<;>ac_nf) ⟨.int ys.length,H,I.tok _,⟨s.toks+1,by rw[aw,hlen]⟩,q⟩
 ·obtain⟨its,r',pl,hz⟩:=I.tuple hq
  have hlen:=r'.length
  exact len_tuple pl (by simp only[aw]<;>ac_nf) ⟨.int ys.length,H,I.tok _,⟨s.toks+1,by rw[aw,hlen]⟩,q⟩
theorem uw:gx X (.builtin "len") (λxs H Q=>∃z,xs=[.str z]/\z.length<=aK/\Q (.int z.length) H):=by
 intro pins s σ H xs us Q I r h
 obtain⟨z,rfl,hz,q⟩:=h
 obtain⟨u,rfl,t,rfl⟩:=yj r
 have hn:=lH
 exact len_str (by ac_nf) ⟨.int z.length,H,I.tok _,⟨_,rfl⟩,q⟩
theorem jJ:gx X (.type "list") (λxs H Q=>∃p ys,xs=[.ref p]/\(SqL X.K H p ys\/SqT X.K H p ys)/\∀l,H l=none->Q (.ref l) (upd H l (.lst ys))):=by
 intro pins s σ H xs us Q I r h
 obtain⟨p,ys,rfl,hq,q⟩:=h
 obtain⟨u,rfl,rx⟩:=yj r
 cases rx
 have fin:∀(its:List ae),Vals ys its->ys.length<=aK->∀(h':Heap) (c':Nat),(∀b o',s.heap.get? b=some o'->h'.get? b=some o')->
   h'.get? s.heap.objs.size=some {cls:= .type "list",dict:=none,data:= .seq its.toArray c',slots:= #[]}->EP X pins σ Q (.ref s.heap.objs.size) {s with heap:=h'}:=λits r' hz h' c' kp e=>
  ⟨.ref s.heap.objs.size,_,I.laid (t':=s.toks) kp (av _) (show ObjOk X.prog X.w _ h' _ (.lst ys)from⟨hz,its,c',r',e⟩),rfl,q _ (I.hok.fresh (av _))⟩
 rcases hq with hq|hq
 ·obtain⟨its,r',pl,hz⟩:=I.list hq
  have hlen:=r'.length
  obtain⟨o,ho,hc,n,hd⟩:=pl.isList
  exact call_list_seq p (.inl rfl) ho hc hd (λh' c' kp e=>fin its r' hz h' c' kp e) (by simp only[aw]<;>ac_nf)
 ·obtain⟨its,r',pl,hz⟩:=I.tuple hq
  have hlen:=r'.length
  obtain⟨o,ho,hc,n,hd⟩:=pl
  exact call_list_seq p (.inr rfl) ho hc hd (λh' c' kp e=>fin its r' hz h' c' kp e) (by simp only[aw]<;>ac_nf)
theorem lu:gx X (.type "tuple") (λxs H Q=>∃p ys,xs=[.ref p]/\((SqL X.K H p ys/\∀l,H l=none->Q (.ref l) (upd H l (.tup ys)))\/(SqT X.K H p ys/\Q (.ref p) H))):=by
 intro pins s σ H xs us Q I r h
 obtain⟨p,ys,rfl,h⟩:=h
 obtain⟨u,rfl,rx⟩:=yj r
 cases rx
 rcases h with⟨hq,q⟩|⟨hq,q⟩
 ·obtain⟨its,r',pl,hz⟩:=I.list hq
  have hlen:=r'.length
  refine call_tuple_list pl.isList (λh' kp=> ?_) (by simp only[aw]<;>ac_nf)
  have I1:Inv X pins σ H {s with heap:=h'}:=I.kept (t':=s.toks) kp
  have I2:Inv X pins σ (upd H h'.objs.size (.tup ys)) {s with heap:=h'.push {cls:= .type "tuple",data:= .seq its.toArray}}:=
   I1.laid (t':=s.toks) (λb o e=>ak _ e) (av _) (show ObjOk X.prog X.w _ _ _ (.tup ys)from⟨hz,its,r',IsTup.new _ _⟩)
  exact⟨.ref h'.objs.size,_,I2,rfl,q _ (I1.hok.fresh (av _))⟩
 ·obtain⟨its,r',pl,hz⟩:=I.tuple hq
  exact call_tuple_same pl ⟨.ref p,H,I,rfl,q⟩
noncomputable def NP(K:PySem.W.Frag)(T:String)(x:V)(H:Hp):Prop:=match x with
 | .str _=>T= "str"
 | .int _=>T= "int"
 | .ref p=>(T= "list" /\∃xs,SqL K H p xs)\/(T= "tuple" /\∃o,K.lookup p=some o/\o.cls= .type "tuple" /\o.dict=none)\/
   (T= "dict" /\((∃kvs,H p=some (.dK kvs))\/∃kvs,H p=some (.dT kvs)))\/(T= "set" /\∃S n,H p=some (.set S n))
 |_=>False
theorem BD{pins:List (Addr×Obj)}{σ:St}{H:Hp}{s:ai}{T:String}{x:V}{v:ae}(I:Inv X pins σ H s)(r:RelV x v)(ty:NP X.K T x H):
  s.TypeIs v T/\∀a,v= .ref a->∃ob,s.heap.get? a=some ob/\ob.dict=none:=by
 cases x with
 |str z=>
  obtain⟨t,rfl⟩:=r
  cases (show T= "str" from ty)
  exact⟨typeIs_str s z t,λ_ e=>nomatch e⟩
 |int i=>
  obtain⟨t,rfl⟩:=r
  cases (show T= "int" from ty)
  exact⟨jP s i t,λ_ e=>nomatch e⟩
 |ref p=>
  cases r
  rcases ty with⟨rfl,xs,hq⟩|⟨rfl,o,hk,hc,hd⟩|⟨rfl,hk⟩|⟨rfl,S,n,hk⟩
  ·obtain⟨its,_,pl,_⟩:=I.list hq
   refine⟨pl.isList.typeIs,λa e=> ?_⟩
   cases e
   obtain⟨o,n,e,c,hd,_⟩:=pl
   exact⟨o,e,hd⟩
  ·refine⟨⟨o,I.kIn p o hk,hc⟩,λa e=> ?_⟩
   cases e
   exact⟨o,I.kIn _ o hk,hd⟩
  ·have z:∃o,s.heap.get? p=some o/\o.ExactDict:=by
    rcases hk with⟨kvs,hk⟩|⟨kvs,hk⟩
    ·obtain⟨_,_,_,_,o,_,_,e,ex,_⟩:=I.hok p _ hk
     exact⟨o,e,ex⟩
    ·obtain⟨_,_,_,_,o,_,_,e,ex,_⟩:=I.hok p _ hk
     exact⟨o,e,ex⟩
   obtain⟨o,e,ex⟩:=z
   refine⟨⟨o,e,ex.1⟩,λa e2=> ?_⟩
   cases e2
   exact⟨o,e,ex.2.1⟩
  ·obtain⟨o,_,_,_,e,ex,_⟩:=I.hok p _ hk
   refine⟨⟨o,e,ex.1⟩,λa e2=> ?_⟩
   cases e2
   exact⟨o,e,ex.2.1⟩
 |_=>exact bN ty
noncomputable def Of(K:PySem.W.Frag)(T:String)(r:V->List V->Hp->VK->Prop)(to:TE):TE:=λσ H Q=>to σ H λx H1=>NP K T x H1/\r x [] H1 Q
noncomputable def tBM(K:PySem.W.Frag)(T:String)(r:V->List V->Hp->VK->Prop)(to:TE)(t:TA):TE:=λσ H Q=>to σ H λx H1=>NP K T x H1/\t σ H1 λxs H2=>r x xs H2 Q
variable{o e:Expr}{es:List Expr}{to:TE}{t:TA}{name:Str}{apos cpos:Pos}{T id:String}{r:V->List V->Hp->VK->Prop}
theorem IW(pa:PlainAttrs T)(slot:Slot T name id)(hty:typeOf (.builtin id)=pure (.type "method_descriptor"))(hm:Bi X id r)(ho:PE X o to)
  (hbase:cg o name X.env (eval o X.env)=eval o X.env:=by rfl) (hline:(apos.endLine==cpos.line)=true:=by rfl):PE X (.Call (.Attribute o name apos) [] [] cpos) (Of X.K T r to):=by
 intro pins s σ H Q I h
 refine wpAny_Call_method0_late hbase hline (dZ (ho pins s σ H _ I h) λv s1 hPl=> ?_)
 obtain⟨x,H1,I1,r1,ty,q1⟩:=hPl
 obtain⟨h1,h2⟩:=BD I1 r1 ty
 exact⟨T,id,pa,slot,hty,h1,h2,hJ rfl (PySem.evalArgs_none (hm pins s1 σ H1 x [] v [] Q I1 r1 .nil q1))⟩
theorem HB(pa:PlainAttrs T)(slot:Slot T name id)(hty:typeOf (.builtin id)=pure (.type "method_descriptor"))(hm:Bi X id r)(ho:PE X o to)(ha:PA X (e::es) t)
  (hbase:cg o name X.env (eval o X.env)=eval o X.env:=by rfl)
  (hfew:((bB cpos (aq (e::es) X.env)).all (λx=> !x.1)&&(gB cpos (dO [] X.env)).all (λx=>x.1.isSome)
   &&decide ((e::es).length+([]:List fz).length+(if([]:List fz).isEmpty then 0 else 1)<30))=true:=by rfl)
  (hline:(apos.endLine==cpos.line)=true:=by rfl) (hs:aq (e::es) X.env=(false,eval e X.env)::aq es X.env:=by rfl) (hplain:(bB cpos (aq es X.env)).any (·.1)=false:=by rfl):
  PE X (.Call (.Attribute o name apos) (e::es) [] cpos) (tBM X.K T r to t):=by
 intro pins s σ H Q I h
 refine wpAny_Call_method_late hbase hfew hline rfl (dZ (ho pins s σ H _ I h) λv s1 hPl=> ?_)
 obtain⟨x,H1,I1,r1,ty,q1⟩:=hPl
 obtain⟨h1,h2⟩:=BD I1 r1 ty
 refine⟨T,id,pa,slot,hty,h1,h2,?_⟩
 have hA:=ha cpos pins s1 σ H1 _ I1 q1
 rw[hs]at hA⊢
 refine hJ (by show(false||(bB cpos (aq es X.env)).any (·.1))=false;rw[hplain]<;>rfl) (lU ?_)
 exact dZ hA λus s2 hPl=>by obtain⟨vs,H2,I2,r2,q2⟩:=hPl;exact hm pins s2 σ H2 x vs v us Q I2 r1 r2 q2
/-xs.append(e),list.index on a module's tuple .. are Bi facts of 06m-/
end
noncomputable def NN(X:Cx)(id:String)(r:V->List V->Hp->VK->Prop):Prop:=
 ∀(pins:List (Addr×Obj)) (s:ai) (σ:St) (H:Hp) (x:V) (xs:List V) (v:ae) (us:List ae) (Q:VK),Inv X pins σ H s->RelV x v->Vals xs us->r x xs H Q->
  wpAny (aQ X.prog X.w) X.A (call (.builtin id) (v::us)) (EP X pins σ Q) X.xe s
theorem Vals.one{x:V}{us:List ae}(h:Vals [x] us):∃u,us=[u]/\RelV x u:=by
 cases h with
 |cons r t=>cases t;exact⟨_,rfl,r⟩
theorem Vals.two{x y:V}{us:List ae}(h:Vals [x,y] us):∃u v,us=[u,v]/\RelV x u/\RelV y v:=by
 cases h with
 |cons r t=>cases t with
  |cons q t=>cases t;exact⟨_,_,rfl,r,q⟩
theorem Vals.zero:∀{us:List ae},Vals [] us->us=[]
 |_,.nil=>rfl
theorem Vals.dropLast{xs:List V}{us:List ae}(h:Vals xs us):Vals xs.dropLast us.dropLast:=by
 induction h with
 |nil=>exact .nil
 |cons r t ih=>
  cases t with
  |nil=>exact .nil
  |cons q t'=>exact .cons r ih
theorem Vals.reverse{xs:List V}{us:List ae}(h:Vals xs us):Vals xs.reverse us.reverse:=by
 induction h with
 |nil=>exact .nil
 |cons r t ih=>rw[eK,eK];exact Vals.append ih (.cons r .nil)
theorem Vals.rep{xs:List V}{us:List ae}(h:Vals xs us):∀k:Nat,Vals (aj k xs).flatten (aj k us).flatten
 |0=> .nil
 |k+1=>by
  rw[bf,bf,cx,cx]
  exact Vals.append h (Vals.rep h k)
theorem xR{α:Type}(l:List α):l.eraseIdx (l.length-1)=l.dropLast:=by
 induction l with
 |nil=>rfl
 |cons a r ih=>
  cases r with
  |nil=>rfl
  |cons b r=>
   have e:(a::b::r).length-1=((b::r).length-1)+1:=by
    have h1:(a::b::r).length=r.length+2:=rfl
    have h2:(b::r).length=r.length+1:=rfl
    ac_nf
   rw[e,List.eraseIdx_cons_succ,ih]
   all_goals rfl
theorem ou(its:List ae):∀(k:Nat) (acc:List ae),
  List.foldl (λx1 x2=>x1++x2) acc.toArray (aj k its.toArray)=(acc++(aj k its).flatten).toArray
 |0,acc=>by simp
 |k+1,acc=>by
  have e:acc.toArray++its.toArray=(acc++its).toArray:=by simp
  have e2:(acc++its)++(aj k its).flatten=acc++(aj (k+1) its).flatten:=by
   rw[bf,cx,cH]
  rw[<-e2,<-ou its k (acc++its),<-e,bf,List.foldl_cons]
section
variable{X:Cx}{pins:List (Addr×Obj)}{σ:St}{H:Hp}{s:ai}{l:Addr}{xs ys:List V}
theorem Inv.lset{its its':List ae}{n:Nat}{f:Array ae->Array ae}{t':Nat}(I:Inv X pins σ H s)(hH:H l=some (.lst xs))
  (e:s.heap.get? l=some {cls:= .type "list",data:= .seq its.toArray n}) (hf:f its.toArray=its'.toArray) (hv:Vals ys its') (hz:ys.length<=aK):
  Inv X pins σ (upd H l (.lst ys)) {s with heap:=s.heap.update l (eS f),toks:=t'}:=by
 have q:=PySem.IsL.update e f
 rw[hf]at q
 refine I.write (x:=l) (e:=l) (by rw[hH];exact trivial) (.inl rfl) (λb' u hb hu=>(cj s.heap (eS f) (aG hb)).trans hu) ⟨_,q⟩ ?_
 exact⟨hz,its',_,hv,q⟩
theorem Inv.lnew{its:List ae}{t':Nat}(I:Inv X pins σ H s)(hv:Vals ys its)(hz:ys.length<=aK):
  Inv X pins σ (upd H s.heap.objs.size (.lst ys)) {s with heap:=s.heap.push {cls:= .type "list",data:= .seq its.toArray},toks:=t'}:=
 I.laid (λ_ _ q=>ak _ q) (av _) ⟨hz,its,0,hv,aJ _ rfl⟩
theorem Inv.fresh(I:Inv X pins σ H s):H s.heap.objs.size=none:=I.hok.fresh (av _)
theorem Inv.lstM(I:Inv X pins σ H s)(hH:H l=some (.lst xs)):xs.length<=aK/\∃(its:List ae) (n:Nat),Vals xs its/\xs.length=its.length/\s.heap.get? l=some {cls:= .type "list",data:= .seq its.toArray n}:=by
 obtain⟨z,its,n,r,e⟩:=I.hok l _ hH
 exact⟨z,its,n,r,r.length,e⟩
theorem qB{n:Nat}(h:n<=aK):cY n=false:=by
 unfold cY
 exact decide_eq_false (by ac_nf)
end
section
variable{X:Cx}
noncomputable def EZ:V->List V->Hp->VK->Prop:=λx vs H Q=>∃l xs y,x= .ref l/\vs=[y]/\H l=some (.lst xs)/\xs.length<aK/\Q .non (upd H l (.lst (xs++[y])))
theorem og:NN X "list.append" EZ:=by
 intro pins s σ H x vs v us Q I rx rv h
 obtain⟨l,xs,y,rfl,rfl,hH,hz,q⟩:=h
 cases rx
 obtain⟨u,rfl,ru⟩:=rv.one
 obtain⟨z,its,n,r,hl,e⟩:=I.lstM hH
 refine fN F.slot_list_append ⟨_,e,rfl⟩ F.entry_list_append (F.args_list_append_2 _ _) (PySem.list_append l its.toArray n u (by rw[aw];ac_nf)) ⟨e,?_⟩
 refine⟨.non,_,I.lset (its':=its++[u]) hH e (by simp) (r.append (.cons ru .nil)) ?_,rfl,q⟩
 rw[aN,List.length_singleton]
 ac_nf
noncomputable def EY:V->List V->Hp->VK->Prop:=λx vs H Q=>∃l b xs zs,x= .ref l/\vs=[.ref b]/\H l=some (.lst xs)/\H b=some (.lst zs)/\xs.length+zs.length<=aK/\Q .non (upd H l (.lst (xs++zs)))
theorem Az:NN X "list.extend" EY:=by
 intro pins s σ H x vs v us Q I rx rv h
 obtain⟨l,b,xs,zs,rfl,rfl,hH,hB,hz,q⟩:=h
 cases rx
 obtain⟨u,rfl,ru⟩:=rv.one
 cases ru
 obtain⟨z,its,n,r,hl,e⟩:=I.lstM hH
 obtain⟨z2,its2,n2,r2,hl2,e2⟩:=I.lstM hB
 have hsz:its.toArray.size+its2.toArray.size<=aK:=by rw[aw,aw];ac_nf
 have hlong:¬(!its.toArray.isEmpty&&cY (its.toArray.size+its2.toArray.size))=true:=by
  rw[qB hsz,lY]
  exact bd
 refine fN F.slot_list_extend ⟨_,e,rfl⟩ F.entry_list_extend (F.args_list_extend_2 _ _)
  (AutoSeq1.list_extend_list_list_0 l its.toArray n b its2.toArray n2 hlong (by rw[aw];ac_nf) (by ac_nf)) ⟨e,e2,?_⟩
 refine⟨.non,_,I.lset (its':=its++its2) hH e (by simp) (r.append r2) ?_,rfl,q⟩
 rw[aN]
 ac_nf
noncomputable def Ot:V->List V->Hp->VK->Prop:=λx vs H Q=>∃l xs y,x= .ref l/\vs=[]/\H l=some (.lst xs)/\xs[xs.length-1]? =some y/\Q y (upd H l (.lst xs.dropLast))
theorem Jx:NN X "list.pop" Ot:=by
 intro pins s σ H x vs v us Q I rx rv h
 obtain⟨l,xs,y,rfl,rfl,hH,hy,q⟩:=h
 cases rx
 have hus:=rv.zero
 subst hus
 obtain⟨z,its,n,r,hl,e⟩:=I.lstM hH
 obtain⟨u,hu,ru⟩:=r.get hy
 have hy':its.toArray[its.toArray.size-1]? =some u:=by
  show its.toArray[its.length-1]? =some u
  rw[<-Array.getElem?_toList,<-hl]
  exact hu
 refine fN F.slot_list_pop ⟨_,e,rfl⟩ F.entry_list_pop (F.args_list_pop_1 _) (MeetsSeq.list_pop_last l its.toArray n u hy' (by rw[aw];ac_nf)) ⟨e,?_⟩
 refine⟨y,_,I.lset (its':=its.dropLast) hH e ?_ r.dropLast ?_,ru,q⟩
 ·show its.toArray.eraseIdxIfInBounds (its.toArray.size-1)=its.dropLast.toArray
  rw[aw,List.eraseIdxIfInBounds_toArray,xR]
 ·rw[List.length_dropLast]
  ac_nf
noncomputable def Os:R2:=λx y H Q=>∃l k xs,x= .ref l/\y= .int k/\H l=some (.lst xs)/\-(2^63)<=k/\k<2^63/\xs.length*k.toNat<=aK/\
 ∀p,H p=none->Q (.ref p) (upd H p (.lst (aj k.toNat xs).flatten))
theorem tU{α:Type}(xs:List α)(k:Nat):(aj k xs).flatten.length=k*xs.length:=by
 induction k with
 |zero=>simp
 |succ k ih=>rw[bf,cx,aN,ih,Nat.succ_mul,fC]
theorem Ja:ic X (cK .Mult) Os:=by
 intro pins s σ H x y v u Q I rx ry h
 obtain⟨l,k,xs,rfl,rfl,hH,h1,h2,hz,q⟩:=h
 cases rx
 obtain⟨t,rfl⟩:=ry
 obtain⟨z,its,n,r,hl,e⟩:=I.lstM hH
 have hlen:its.toArray.size*k.toNat<=aK:=by rw[aw,<-hl];exact hz
 have hcap:¬its.toArray.size*k.toNat>(2^63-1)/8:=by
  have:(aK:Nat)<=(2^63-1)/8:=by decide
  ac_nf
 have hfit:¬(!iw k)=true:=by
  rw[fitsIndex_both h1 h2]
  exact bd
 have hlong:¬cY (its.toArray.size*k.toNat)=true:=by
  rw[qB hlen]
  exact bd
 have hnew:List.foldl (λx1 x2=>x1++x2) #[] (aj (if its.toArray.isEmpty=true then 0 else k.toNat) its.toArray)=(aj k.toNat its).flatten.toArray:=by
  have f0:∀m:Nat,List.foldl (λx1 x2=>x1++x2) #[] (aj m its.toArray)=(aj m its).flatten.toArray:=λm=>by
   have:=ou its m []
   rw[le]at this
   exact this
  rw[f0]
  cases its with
  |nil=>simp
  |cons a r'=>rw[if_neg (by simp)]
 refine j8 (T:= "list") (U:= "int") (by decide) ⟨_,e,rfl⟩ (λs'=>jP s' k t) noFill_list_mul F.fills_int_mul gS repeat_list uC.lookup
  (fN gS (jP s k t) F.entry_int_rmul (rO _ _) (int___rmul___int_list k t l its.toArray n)
   ⟨e,rfl,⟨_,e,rfl⟩,fN F.slot_list_mul ⟨_,e,rfl⟩ F.entry_list_mul (F.args_list_mul_2 _ _) (AutoListH.list___mul___list_int_3 l its.toArray n k t hfit hcap hlong) ⟨e,?_⟩⟩)
 rw[hnew]
 exact⟨.ref _,_,I.lnew (t':=s.toks) (r.rep k.toNat) (by rw[tU,i7];exact hz),rfl,q _ I.fresh⟩
end
section
end
section
end
end L2
namespace Att
open PySem PySem.W PySem.Calls PyProof.Rows
theorem pd{P:Params}{h:Heap}:∀(ns:List Int) (vs:List ae),WellAll P h vs (ns.map WData.int)->IntsAre vs ns:=by
 intro ns
 induction ns with
 |nil=>
  intro vs w
  rw[kQ]at w
  cases w
  exact .nil
 |cons n ns ih=>
  intro vs w
  rw[aE]at w
  cases w with
  |cons a b=>
   cases a
   exact .cons _ _ (ih _ b)
theorem Ab{l:OpenLaw}{n:Nat}(hn:l.most=some n){P:Params}{h:Heap}{args:List WData}{vals:List ae}
  (hpre:l.row.toRowW.claim.pre args=true) (hwl:WellAll P h vals args):
  ∃a vs ns,vals=[aB a]/\args=[WData.list (ns.map WData.int)]/\h.get? a=some {cls:= .type "list",data:= .seq vs.toArray}/\IntsAre vs ns/\ns.length<=n:=by
 have hsh:WShape.hasAll [] args [.list .int]=true:=(pre_splitW hpre).1
 have hc:l.pre.holds [] {args:=args}=true:=(pre_splitW hpre).2
 obtain⟨d,r,rfl,h1,h2⟩:=hasAllW_cons hsh
 obtain rfl:=hasAllW_nil h2
 obtain⟨xs,rfl,h3⟩:=hasW_list h1
 obtain⟨ns,rfl⟩:=items_int h3
 have hlen:ns.length<=n:=by
  unfold OpenLaw.pre at hc
  have h4:(WTm.not (.lt (.lit (.int (n:Int))) (.len (.arg 0)))).holds [] {args:=[.list (ns.map .int)]}=true:=by
   have h4:=(holds_andW hc).1
   rw[hn]at h4
   exact h4
  have h5:=condW_of h4 (w_not (w_lt w_lit (w_len_list (w_arg rfl))))
  rw[ap]at h5
  refine Nat.le_of_not_lt λq=> ?_
  have q':(n:Int)<((ns.length:Nat):Int):=by ac_nf
  first
   |(rw[decide_eq_true q']at h5;exact absurd h5 (by decide))
   |(simp at h5;ac_nf)
 cases hwl with
 |cons w1 w2=>
  cases w2
  cases w1 with
  |list ho hall=>exact⟨_,_,ns,rfl,rfl,ho,pd ns _ hall,hlen⟩
theorem Ag(l:OpenLaw)(args:List WData):l.row.toRowW.claim.post args (.bool true) args=true:=
 postW_of (r:=l.row.toRowW) (X:=(true==true))
  (show WShape.has [] (.bool true) .bool=true by first|rfl|decide|simp[WShape.has,WShape.arms,WShape.armsAll])
  (show(WTm.eq .res (.lit (.bool true))).value [] {args:=args,res:=some (.bool true),after:=args}=some (.bool (true==true))from w_eq_bool (w_res rfl) w_lit) rfl
theorem attach_call{l:OpenLaw}{n:Nat}{q:aI}{loose:List Str}{XP:(Str->Option ae)->Heap->Prop}{YP:aY->Heap->Prop}{d:DefRec}
  (hn:l.most=some n) (hdf:d.params.defaults=[])
  (call:∀(w:aY) (s₀ s₁:ai) (mg mb:Str->Option ae) (fa:Addr) (o:Obj) (pm cd doc:ae) (a:Addr) (vs:List ae) (ns:List Int),
   Ground q loose [] XP w s₀ mg mb s₁.heap->YP w s₁.heap->
   s₁.heap.get? fa=some o->o.data= .func (docDef d.name d.params d.body d.scope pm cd doc)->s₁.heap.CodeRec cd d.name->mg d.name=some (.ref fa)->
   s₁.heap.get? a=some {cls:= .type "list",data:= .seq vs.toArray}->IntsAre vs ns->ns.length<=n->s₁.gens= #[]->
   codeAny (aQ l.prog w) callerA (.call (.ref fa) ⟨[.ref a],[]⟩) (λr s'=>r= .ok (.ret (.bool true))/\OldK s₁.heap s'.heap/\s'.os=s₁.os/\kR s'.gens) s₁):
  WalkO q loose XP YP l.row.toRowW d [] (λf vs=>PySem.call f vs):=by
 intro w s₀ s₁ mg mb G Y fa o pm cd doc dV kV ho hd hcd hD hmg hg args vals as hpre hlay hrd hwl hlo
 obtain rfl:dV= .none:=Dflts.none hD hdf
 obtain rfl:kV= .none:=Dflts.noKw hD
 obtain⟨a,vs,ns,rfl,rfl,hobj,hints,hlen⟩:=Ab hn hpre hwl
 refine enter_call (mX (call w s₀ s₁ mg mb fa o pm cd doc a vs ns G Y ho (fd_plain hd) hcd hmg hobj hints hlen hg) λr s' hq=> ?_)
 obtain⟨rfl,h2,h3,h4⟩:=hq
 exact⟨.inl ⟨.bool true,.bool true,[],rfl,λ_=>rfl,.bool true,Ag l _,λ_=>⟨List.Pairwise.nil,λ_ hm=>(nomatch hm)⟩⟩,h2,h3,h4⟩
section
end
end Att
namespace L2
open PySem PySem.Spec PyProof.Rows
theorem rT:∀{vs:List ae} {ns:List Int},IntsAre vs ns->Vals (ns.map V.int) vs
 |_,_,.nil=> .nil
 |_,_,.cons n t h=> .cons ⟨t,rfl⟩ (rT h)
noncomputable def He(H:Hp):Prop:=∀b,H b=none\/∃o xs,H b=some (.frz o (.lst xs))
theorem Dk{P:aI}{w:aY}{K:PySem.W.Frag}{mg mb:Str->Option ae}{CX:Bj}{k:Nat}{fa a:Addr}{fd:aW}{x:Str}{sp:Sp}{s₁:ai}{vs:List ae}{ns:List Int}
  (KX:K.In s₁.heap) (hns:s₁.heap.Ns bx mg) (hb:s₁.heap.Ns builtinsNs mb) (hbb:∀x:Str,x≠ "__name__" ->mb x=bY x) (hlim:s₁.heap.NoLimit) (hg:s₁.gens= #[])
  (ha:s₁.heap.get? a=some {cls:= .type "list",data:= .seq vs.toArray}) (hi:IntsAre vs ns) (hl:ns.length<=aK) (hr:Room k callerA)
  (F:∀base:Heap,K.In base->base.Ns bx mg->FnOk P w K mg base CX k fa fd [x] sp) (hbind:∀(s:ai) (u:ae),BindsTo s fd ⟨[u],[]⟩ [(x,u)])
  (hsp:∀H:Hp,He H->SqL K H a (ns.map V.int)->sp [.ref a] H (λv _=>v= .bl true) λ_ _ _=>False)
  (hCX:∀H e s',CX [] H s₁ (λ_ _ _=>False) e s'->False):
  codeAny (aQ P w) callerA (.call (.ref fa) ⟨[.ref a],[]⟩) (λr s'=>r= .ok (.ret (.bool true))/\OldK s₁.heap s'.heap/\s'.os=s₁.os/\kR s'.gens) s₁:=by
 have rv:=rT hi
 have lenV:=hi.length
 -- from an abstract heap in which nothing but the script may be tracked
 have core:∀H:Hp,He H->SqL K H a (ns.map V.int)->HOk P w H s₁.heap->(∀b,H b≠none->b=a)->(H a≠none->K.lookup a=none)->
   codeAny (aQ P w) callerA (.call (.ref fa) ⟨[.ref a],[]⟩) (λr s'=>r= .ok (.ret (.bool true))/\OldK s₁.heap s'.heap/\s'.os=s₁.os/\kR s'.gens) s₁:=by
  intro H hO hS hok hA hK
  have base_of:∀{b:Addr} {o:Obj},s₁.heap.get? b=some o->H b=none->(uf s₁.heap H).get? b=some o:=λe n=>DJ e n
  have noA:∀{b:Addr} {o:Obj} {es:Array DictEntry} {ep:Nat},s₁.heap.get? b=some o->o.data= .dict es ep->H b=none:=fun{b o es ep} e d=>by
   cases q:H b with
   |none=>rfl
   |some u=>
    have e':b=a:=hA b (by rw[q];simp)
    subst e'
    rw[ha]at e;cases e
    have d':eM vs.toArray _=Data.dict es ep:=d
    cases d'
  have nsK:∀{b:Addr} {m:Str->Option ae},s₁.heap.Ns b m->(uf s₁.heap H).Ns b m:=fun{b m} ⟨o,es,ep,e,d,r⟩=>⟨o,es,ep,base_of e (noA e d),d,r⟩
  have hKb:K.In (uf s₁.heap H):=λb o e=>base_of (KX b o e) (by
   cases q:H b with
   |none=>rfl
   |some u=>
    have e':b=a:=hA b (by rw[q];simp)
    subst e'
    rw[hK (by rw[q];simp)]at e;cases e)
  have hM:Mod K mg (uf s₁.heap H):=⟨hKb,nsK hns,⟨mb,nsK hb,hbb⟩,let⟨mc,h1,h2⟩:=hlim;⟨mc,nsK h1,h2⟩⟩
  have e0:Env0 P w K mg (uf s₁.heap H) callerA [] s₁ H:=⟨rfl,hM,λb o e=>FE e,Nat.le_of_eq (AW _ _),trivial,λb hb=>absurd (show b∈([]:List Addr)from hb) (by simp),hok,.of_eq hg⟩
  refine mX ((F _ hKb (nsK hns)).run callerA [] s₁ H ⟨[.ref a],[]⟩ [.ref a] [.ref a] _ _ hr e0 (hbind s₁ (.ref a)) (.cons rfl .nil) (hsp H hO hS)) λr s' h=> ?_
  cases r with
  |error e=>exact(hCX H e s' h).elim
  |ok fl=>
   cases fl with
   |next=>exact bN h
   |brk=>exact bN h
   |cont=>exact bN h
   |ret u=>
    obtain⟨v,H',os,bare,un,hok',r',q⟩:=h
    have q':v= .bl true:=q
    subst q'
    obtain rfl:u=eP true:=r'
    refine⟨rfl,OldK.of_keep λb o e=> ?_,os,bare⟩
    cases q:H b with
    |none=>exact un.keep b o e q (by intro z;exact absurd (show b∈([]:List Addr)from z) (by simp)) (by simp)
    |some u=>
     rcases hO b with z|⟨ob,xs,z⟩
     ·rw[q]at z;cases z
     ·have z2:=un.frzs b ob _ z
      obtain⟨e1,_⟩:=hok b _ z
      obtain⟨e2,_⟩:=hok' b _ z2
      rw[e]at e1;cases e1
      exact e2
 cases hk:K.lookup a with
 |some o=>
  -- the script is one of the module's own objects
  have e:=KX a o hk
  rw[ha]at e
  cases e
  refine core (λ_=>none) (λ_=> .inl rfl) (.inr ⟨_,vs.toArray,_,hk,rfl,rfl,rfl,by rw[aw,lenV];exact hl,by simpa using rv⟩) (λb u z=>by have z':(none:Option HO)=some u:=z;cases z') (λb z=>absurd rfl z) λz=>absurd rfl z
 |none=>
  refine core (λb=>if b=a then some (.frz {cls:= .type "list",data:= .seq vs.toArray} (.lst (ns.map V.int)))else none) (λb=> ?_) (.inl (.inr ⟨{cls:= .type "list",data:= .seq vs.toArray},if_pos rfl⟩)) (λb u z=> ?_) (λb z=> ?_) λ_=>hk
  ·by_cases hb:b=a
   ·exact .inr ⟨_,_,if_pos hb⟩
   ·exact .inl (if_neg hb)
  ·by_cases hb:b=a
   ·have z':=(if_pos hb).symm.trans z
    cases z'
    subst hb
    exact⟨ha,by rw[ap];exact hl,vs,_,rv,ha⟩
   ·have z':=(if_neg hb).symm.trans z
    cases z'
  ·by_cases hb:b=a
   ·exact hb
   ·exact absurd (if_neg hb) z
theorem walk_of{l:PySem.W.OpenLaw}{n k:Nat}{q:aI}{loose:List Str}{XP:(Str->Option ae)->Heap->Prop}{YP:aY->Heap->Prop}{d:DefRec}{K:Params->PySem.W.Frag}{CX:aY->Bj}{sp:aY->Sp}{x:Str}
  (hn:l.most=some n) (hn2:n<=aK) (hdf:d.params.defaults=[]) (hr:Room k callerA)
  (hY:∀(w:aY) (h:Heap),YP w h->(K w.params).In h)
  (F:∀(w:aY) (mg:Str->Option ae) (fa:Addr) (h:Heap),(K w.params).In h->h.Ns bx mg->mg d.name=some (.ref fa)->
   ∃fd:aW,(∀(s:ai) (u:ae),BindsTo s fd ⟨[u],[]⟩ [(x,u)])/\
    ∀base:Heap,(K w.params).In base->base.Ns bx mg->FnOk l.prog w (K w.params) mg base (CX w) k fa fd [x] (sp w))
  (hsp:∀(w:aY) (H:Hp) (a:Addr) (ns:List Int),ns.length<=n->He H->SqL (K w.params) H a (ns.map V.int)->sp w [.ref a] H (λv _=>v= .bl true) λ_ _ _=>False)
  (hCX:∀(w:aY) (H:Hp) (s:ai) (e:ae) (s':ai),CX w [] H s (λ_ _ _=>False) e s'->False):
  PySem.W.WalkO q loose XP YP l.row.toRowW d [] (λf vs=>PySem.call f vs):=by
 refine Att.attach_call hn hdf λw s₀ s₁ mg mb fa o pm cd doc a vs ns G Y ho hd hcd hmg hobj hints hlen hg=> ?_
 have KX:=hY w _ Y
 obtain⟨fd,hb,hF⟩:=F w mg fa _ KX G.T.g hmg
 exact Dk KX G.T.g G.T.b G.T.builtins G.T.nolimit hg hobj hints (aO hlen hn2) hr hF hb (λH hO hS=>hsp w H a ns hlen hO hS) λH e s'=>hCX w H s₁ e s'
end L2
/-THE LAST THEOREM (shape;LID,My.*are yours):
  My.Adr:a structure of the addresses that your layer names (classes,functions);My.Txt K t:a structure (Prop) of the equations over K;
  My.txt_mk:{K} {implicit addresses ..} (e1:nsIn K bx "law" =some (some (.ref f))) (e2:K.lookup f=some ⟨oc,od,.func (fnOf "law" "law" params body scope dV kV doc pm an cdv ct),sl⟩) (e3:codeIn K cdv "law" =true) .. :∃t,My.Txt K t
set_option maxRecDepth 100000 in
theorem PySem.Challenge.cw_LID_holds : PySem.Challenge.rw_LID.Holds := by
 w_on;o_law;k_head;(case hw=>w_witness2)
 k_fill
 refine L2.walk_of (l:=PySem.Challenge.rw_LID) (n:=63) (k:=40) (x:= "script") (CX:=λw=> ..) (sp:=λ_=>My.sp_law) rfl (by decide) rfl ⟨rfl,by decide,by decide⟩ (λw h Y=>PySem.W.kIn_of Y) ?F ?S ?C
 case F=>
  intro w mg fa h KX G hmg
  have T:∃t,My.Txt (L2.KOf KX) t:=by
   dsimp only [L2.KOf]                          -- K must stand as «<heap const> w.params» for k_is
   refine' My.txt_mk ?e1 ?e2 ?e3 ..
   (case e1 => PySem.W.k_is)                    -- in the order: a name -> its address -> its object -> its parts
   (case e2=>PySem.W.k_is)
   ..
  obtain⟨t,T⟩:=T
  have e0:=hmg.symm.trans (PySem.W.mg_of KX G T.law)
  cases e0                                       -- fa is the law's own address
  exact ⟨_, λs u => .of_eq rfl, λbase kb nb => My.law_fn T kb nb⟩     -- if «.of_eq rfl» comes too early: refine' ⟨_, ?b, λbase kb nb => My.law_fn T kb nb⟩; exact λs u => .of_eq rfl
 case S=>exact λw H a ns hl hO hS=> ..
 case C=>exact ..
(the tactic k_is has no namespace:write k_is)-/
namespace L2
open PySem PySem.Spec PyProof.Rows
noncomputable def dJ(s:Stmt)(j:Nat):Stmt:=match s with
 | .ClassDef _ _ _ body _ _ _ _ _ _ _=>body.getD j (.Pass ⟨0,0,0,0⟩)
 |_=> .Pass ⟨0,0,0,0⟩
noncomputable def kK(s:Stmt):Arguments:=match s with
 | .FunctionDef _ a _ _ _ _ _ _ _ _=>a
 |_=>{posonlyargs:=[],args:=[],vararg:=none,kwonlyargs:=[],kw_defaults:=[],kwarg:=none,defaults:=[]}
noncomputable def ib(s:Stmt):List Stmt:=match s with
 | .FunctionDef _ _ b _ _ _ _ _ _ _=>b
 |_=>[]
noncomputable def aM(s:Stmt):e8:=match s with
 | .FunctionDef _ _ _ _ _ _ sc _ _ _=>sc
 |_=>{kind:= .function,names:=[],isGenerator:=false,isCoroutine:=false}
noncomputable abbrev Hf:Bj:=λ_ _ _ _ _ _=>False
noncomputable abbrev E0:XK:=λ_ _ _=>False
theorem zf{X:Cx}:i5 Hf X E0:=λ_ _ _ _ _ _ _ h=>h.elim
structure Fun(K:PySem.W.Frag)(x qual:Str)(st:Stmt)(f:Addr)(fd:aW):Prop where
 ex:∃(oc:ae) (od:Option Addr) (kV doc pm:ae) (an:Option Addr) (cdv ct:ae) (osl:Array (Option ae)),
  fd=PySem.W.fnOf x qual (kK st) (ib st) (aM st) .none kV doc pm an cdv ct/\K.lookup f=some ⟨oc,od,.func fd,osl⟩/\PySem.W.codeIn K cdv qual=true
 kp:PySem.W.keepIn K (.ref f)=true
section
variable{P:aI}{w:aY}{K:PySem.W.Frag}{mg:Str->Option ae}{base:Heap}
theorem Fun.ok{x qual:Str}{st:Stmt}{f:Addr}{fd:aW}{N ps:List Str}{k:Nat}{sp:Sp}(F:Fun K x qual st f fd)(S:bj N ps (aM st))(len:∀vs H Q E,sp vs H Q E->vs.length=ps.length)
  (hbody:∀(cdv:ae) (A:Around) (outer:List Env) (s:ai) (H:Hp) (vs:List V) (Q:VK) (E:XK),Room k (A.deeper (envOfC qual (aM st) s.heap.objs.size f cdv))->sp vs H Q E->
   ∃t,PSs (gO Hf P w K mg base N qual (aM st) f cdv A outer s H E).nox (ib st) t/\t {nx:=λ_ H'=>Q .non H',rt:=Q} (start N vs) H):FnOk P w K mg base Hf (k+1) f fd ps sp:=by
 obtain⟨oc,od,kV,doc,pm,an,cdv,ct,osl,rfl,lk,hcd⟩:=F.ex
 refine HK lk hcd S len λA outer s H vs Q E hr hsp=> ?_
 obtain⟨t,h,q⟩:=hbody cdv A outer s H vs Q E hr hsp
 exact⟨t,h.nox,q⟩
theorem Fun.binds{x qual:Str}{st:Stmt}{f:Addr}{fd:aW}{ps:List Str}(F:Fun K x qual st f fd)
  (h:∀(kV doc pm:ae) (an:Option Addr) (cdv ct:ae) (us:List ae),us.length=ps.length->bindArgs (PySem.W.fnOf x qual (kK st) (ib st) (aM st) .none kV doc pm an cdv ct) ⟨us,[]⟩=pure (ps.zip us)):Binds K fd ps []:=by
 obtain⟨oc,od,kV,doc,pm,an,cdv,ct,osl,rfl,lk,hcd⟩:=F.ex
 exact .all (h kV doc pm an cdv ct)
theorem DN{x qual:Str}{st:Stmt}{f:Addr}{oc:ae}{od an:Option Addr}{osl:Array (Option ae)}{kV doc pm cdv ct:ae}(l:K.lookup f=some ⟨oc,od,.func (PySem.W.fnOf x qual (kK st) (ib st) (aM st) .none kV doc pm an cdv ct),osl⟩)
  (c:PySem.W.codeIn K cdv qual=true) (k:PySem.W.keepIn K (.ref f)=true):Fun K x qual st f (PySem.W.fnOf x qual (kK st) (ib st) (aM st) .none kV doc pm an cdv ct):=⟨⟨oc,od,kV,doc,pm,an,cdv,ct,osl,rfl,l,c⟩,k⟩
end
section
end
theorem uc{A B:Prop}(h:B):if false=true then A else B:=by
 rw[if_neg bd]
 exact h
theorem ub{A B:Prop}(h:A):if true=true then A else B:=by
 rw[if_pos rfl]
 exact h
theorem mW{prog:aI}{w:aY}{A:Around}{R:Result->ai->Prop}{s:ai}{elt target iter:Expr}{ifs:List Expr}{scope:e8}{pos:Pos}{it acc:ae}{env:Env}{N:ae->ai->Prop}
  (hN:N=notedBy (aQ prog w) A env λe s'=>R (.error e) s') (J:Nat->ai->Prop)
  (turn:∀n s,J n s->wpAny (aQ prog w) A (pyNext it) (λr s₁=>match r with
   |none=>R (.ok .next) s₁
   |some v=>wpAny (aQ prog w) A (jh target it v) (λ_ s₀=>wpAny (aQ prog w) A (assign target env v) (λ_ s₂=>
     wpAny (aQ prog w) A (forIn ifs true λc r=>if r=true then do let ok <-isTrue c env (eval c env);pure (fW ok)else pure (fW r)) (λok s₃=>
      if ok=true then wpAny (aQ prog w) A (eval elt env) (λx s₄=>
       wpAny (aQ prog w) A (call (.builtin "list.append") [acc,x]) (λ_ s₅=>∃m,m<n/\J m s₅) N s₄) N s₃
      else∃m,m<n/\J m s₃) N s₂) N s₀) N s₁) N s)
  (n:Nat) (h:J n s):
  codeAny (aQ prog w) A (.compLoop (.ListComp elt [⟨target,iter,ifs,0⟩] scope pos) 0 it acc env) R s:=by
 refine codeAny_loop rfl J (λn s hI=> ?_) n h
 show wpAny _ A ((compTurn (.ListComp elt [⟨target,iter,ifs,0⟩] scope pos) 0 it acc env).onRaise (λx=>do noteFrame x env;theTreesLotGoes x)) _ _ s
 refine wpAny_noted ?_
 rw[compTurn_list]
 subst hN
 refine aa (wpAny_standAt (aa (bc (turn n s hI) (λr s₁ h₁=> ?_) λ_ _ h'=>h')))
 cases r with
 |none=>exact aA h₁
 |some v=>
  refine aa (bc h₁ (λ_ s₀ h₀=> ?_) λ_ _ h'=>h')
  refine aa (bc h₀ (λ_ s₂ h₂=>aa (bc h₂ (λok s₃ h₃=> ?_) λ_ _ h'=>h')) λ_ _ h'=>h')
  cases ok with
  |false=>exact aA ⟨rfl,h₃⟩
  |true=>
   exact aa (aa (bc h₃ (λx s₄ h₄=>aa (bc h₄ (λ_ s₅ h₅=>aA (aA ⟨rfl,h₅⟩)) λ_ _ h'=>h')) λ_ _ h'=>h'))
noncomputable def kZ(cells:List (Str×Addr)):List (Str×eo)->List (Str×Addr)->List (Str×Addr)
 |[],acc=>acc
 |(n,k)::r,acc=>kZ cells r (if k= .free then(n,(cells.lookup n).getD 0)::acc else acc)
theorem lQ{env:Env}:∀(names:List (Str×eo)) (acc:List (Str×Addr)),(∀y∈names,y.2= .free->∃c,env.cells.lookup y.1=some c)->
  (forIn names acc (fun(y:Str×eo) (cs:List (Str×Addr))=>if(y.2== .free)=true then(do let c <-cellOf env y.1;pure (fW ((y.1,c)::cs)))else pure (fW cs)):Sem (List (Str×Addr)))=pure (kZ env.cells names acc)
 |[],acc,_=>rfl
 |(n,k)::r,acc,h=>by
  rw[lf]
  have hr:∀y∈r,y.2= .free->∃c,env.cells.lookup y.1=some c:=λy hy=>h y (bH _ hy)
  by_cases hk:k= .free
  ·subst hk
   obtain⟨c,hc⟩:=h (n,.free) gK rfl
   have e:cellOf env n=pure c:=by unfold cellOf;rw[hc]
   simp only[beq_self_eq_true,if_true,e,pure_bind]
   rw[lQ r _ hr]
   show _=pure (kZ env.cells r _)
   rw[if_pos rfl,hc]
   rfl
  ·have hb:(k==je)=false:=by simpa using hk
   simp only[hb,o4,if_false,pure_bind]
   rw[lQ r _ hr]
   show _=pure (kZ env.cells r _)
   rw[if_neg hk]
theorem i4{scope:e8}{env:Env}(h:∀y∈scope.names,y.2= .free->∃c,env.cells.lookup y.1=some c):closureFor scope env=pure (kZ env.cells scope.names []):=by
 have q:=lQ scope.names [] h
 unfold closureFor
 simp only[bind_pure]
 exact q
theorem wm{cells:List (Str×Addr)}:∀(names:List (Str×eo)) (acc:List (Str×Addr)) (y:Str) (c:Addr),(∀z∈names,z.2= .free->∃c,cells.lookup z.1=some c)->(∀c,acc.lookup y=some c->cells.lookup y=some c)->(kZ cells names acc).lookup y=some c->cells.lookup y=some c
 |[],acc,y,c,_,ha,h=>ha c h
 |(n,k)::r,acc,y,c,hn,ha,h=>by
  refine wm r _ y c (λz hz=>hn z (bH _ hz)) (λc' hc'=> ?_) h
  by_cases hk:k= .free
  ·rw[if_pos hk]at hc'
   obtain⟨c0,e0⟩:=hn (n,k) gK hk
   rw[eW]at hc'
   cases hx:y==n with
   |true=>
    have hy:y=n:=by simpa using hx
    subst hy
    rw[hx]at hc'
    have e0':cells.lookup y=some c0:=e0
    simp only[e0',Option.getD_some]at hc'
    rw[e0',hc']
   |false=>rw[hx]at hc';exact ha c' hc'
  ·rw[if_neg hk]at hc'
   exact ha c' hc'
theorem sG{cells:List (Str×Addr)}:∀(names:List (Str×eo)) (acc:List (Str×Addr)) (y:Str),(∃c,acc.lookup y=some c)->∃c,(kZ cells names acc).lookup y=some c
 |[],acc,y,h=>h
 |(n,k)::r,acc,y,h=>by
  refine sG r _ y ?_
  by_cases hk:k= .free
  ·rw[if_pos hk,eW]
   cases hx:y==n with
   |true=>exact⟨_,rfl⟩
   |false=>exact h
  ·rw[if_neg hk];exact h
theorem rc{cells:List (Str×Addr)}:∀(names:List (Str×eo)) (acc:List (Str×Addr)) (y:Str),(y,je)∈names->∃c,(kZ cells names acc).lookup y=some c
 |[],acc,y,h=>by simp at h
 |(n,k)::r,acc,y,h=>by
  rcases aD.mp h with e|e
  ·have e1:n=y:=(lc e).1.symm
   have e2:k= .free:=(lc e).2.symm
   subst e1;subst e2
   refine sG r _ n ?_
   rw[if_pos rfl,eW]
   simp
  ·exact rc r _ y e
structure g7(sc:e8)(N:List Str)(scope:e8)(M:List Str)(ix:List (Option Nat))(j:Nat)(x:Str):Prop where
 kind:scope.kind= .function
 names:∀y∈scope.names,y.2= .local->scope.names.lookup y.1=some .local
 nocell:∀y∈scope.names,y.2≠ .cell
 nd:M.Nodup
 tgt:M[j]? =some x
 loc:scope.names.lookup x=some .local
 own:ix[j]? =some none
 len:ix.length=M.length
 free:∀y∈scope.names,y.2= .free->sc.names.lookup y.1=some .cell\/sc.names.lookup y.1=some .free
 capt:∀(k:Nat) (y:Str) (i:Nat),M[k]? =some y->ix[k]? =some (some i)->N[i]? =some y/\(sc.names.lookup y=some .cell\/sc.names.lookup y=some .free)/\scope.names.lookup y=some .free
noncomputable def ky(ix:List (Option Nat))(σ:St):St:=ix.map λo=>match o with
 |some i=>(σ[i]?).getD none
 |none=>none
noncomputable def bW(X:Cx)(M:List Str)(scope:e8)(C:Addr)(s:ai)(H:Hp)(fp:List Addr):Cx where
 prog:=X.prog
 w:=X.w
 K:=X.K
 mg:=X.mg
 base:=X.base
 A:=X.A
 N:=M
 s₀:=s
 H₀:=H
 env:=compEnvC scope (kZ X.env.cells scope.names []) C X.env
 outer:=X.stack
 stack:=X.stack
 ex:=fp
 fn:=λ_=>false
 calm:=X.calm
 pn:=[]
 xe:=λ_ _=>False
noncomputable def PF(X:Cx)(ifs:List Expr)(t:TT):Prop:=
 ∀(pins:List (Addr×Obj)) (s:ai) (σ:St) (H:Hp) (Q:Bool->Hp->Prop),Inv X pins σ H s->t σ H Q->
  wpAny (aQ X.prog X.w) X.A (forIn ifs true λc r=>if r=true then do let ok <-isTrue c X.env (eval c X.env);pure (fW ok)else pure (fW r)) (TP X pins σ Q) X.xe s
noncomputable def N3:TT:=λ_ H Q=>Q true H
theorem IN{X:Cx}:PF X [] N3:=λ_ _ _ H _ I h=>wpAny_tests_nil ⟨H,I,h⟩
theorem IM{X:Cx}{c:Expr}{t:TT}(h:PT X c t):PF X [c] t:=λpins s σ H Q I q=>wpAny_tests_one (h pins s σ H Q I q)
noncomputable def wC(env:Env)(p:Str×eo):Str×eo:=if(p.2==je&&env.scope.kind== .function&&env.kindOf p.1==some .cell)then(p.1,eo.cell)else(p.1,p.2)
theorem xh(scope:e8)(env:Env):(relabel scope env).names=scope.names.map (wC env):=rfl
theorem ET(env:Env)(p:Str×eo):(wC env p).1=p.1:=by unfold wC;split<;>rfl
theorem lC{env:Env}:∀(names:List (Str×eo)) (x:Str),(names.map (wC env)).lookup x=((names.lookup x).map λk=>(wC env (x,k)).2)
 |[],x=>rfl
 |(n,k)::r,x=>by
  have ih:=lC (env:=env) r x
  have e1:=ET env (n,k)
  rw[aE]
  rw[show wC env (n,k)=((wC env (n,k)).1,(wC env (n,k)).2)from rfl,e1,eW,eW]
  cases hx:x==n with
  |true=>
   have:x=n:=by simpa using hx
   subst this
   rfl
  |false=>exact ih
theorem B6{env:Env}{x:Str}{k:eo}(h:(wC env (x,k)).2= .cell\/(wC env (x,k)).2= .free)(hk:k≠ .cell):k= .free:=by
 unfold wC at h
 split at h
 ·rename_i hc
  have:=(Bk.mp (Bk.mp hc).1).1
  simpa using this
 ·rcases h with h|h
  ·exact absurd h hk
  ·exact h
theorem vk{env:Env}{x:Str}:(wC env (x,.free)).2= .cell\/(wC env (x,.free)).2= .free:=by
 unfold wC
 split
 ·exact .inl rfl
 ·exact .inr rfl
theorem qH{env:Env}{names:List (Str×eo)}{x:Str}(h:(names.map (wC env)).lookup x=some .cell\/(names.map (wC env)).lookup x=some .free)(hc:∀y∈names,y.2≠ .cell):(x,je)∈names:=by
 rw[lC]at h
 cases q:names.lookup x with
 |none=>rw[q]at h;simp at h
 |some k=>
  rw[q]at h
  have hm:=PySem.mem_of_lookup q
  have hk:k≠ .cell:=hc _ hm
  have e:k= .free:=B6 (env:=env) (x:=x) (by rcases h with h|h;exact .inl (a8 h);exact .inr (a8 h)) hk
  rw[e]at hm
  exact hm
theorem uu{ix:List (Option Nat)}{j:Nat}(h:ix[j]? =some none)(σ:St):(ky ix σ)[j]? =some none:=by
 unfold ky
 rw[aF,h]
 rfl
noncomputable def Ex(J:It)(ix:List (Option Nat))(j:Nat)(σ:St)(tf:TT)(te:TE)(Q:VK)(H1:Hp)(acc:Addr):Prop:=∃W:Nat->Nat->Hp->Prop,(∃m,W 0 m (upd H1 acc (.lst [])))/\∀i m H',W i m H'->
 (J.stop i H'/\Q (.ref acc) H')\/(J.go i H'/\∀x H2,J.yld i H' x H2->tf ((ky ix σ).set j (some x)) H2 λb H3=>
  if b=true then te ((ky ix σ).set j (some x)) H3 λy H4=>∃ys,H4 acc=some (.lst ys)/\ys.length<aK/\∃m',m'<m/\W (i+1) m' (upd H4 acc (.lst (ys++[y])))
  else∃m',m'<m/\W (i+1) m' H3)
noncomputable def BJ(wi:TI)(ix:List (Option Nat))(j:Nat)(tf:TT)(te:TE):TE:=λσ H Q=>wi σ H λJ H1=>∀acc,H1 acc=none->Ex J ix j σ tf te Q H1 acc
section
variable{X:Cx}{scope:e8}{M:List Str}{ix:List (Option Nat)}{j:Nat}{x:Str}
theorem lO{pins:List (Addr×Obj)}{σ:St}{H:Hp}{s:ai}{fp:List Addr}{h1:Heap}(S:g7 X.env.scope X.N scope M ix j x)(I:Inv X pins σ H s)
  (hf:∀b∈fp,ph X pins H b) (hft:∀b∈fp,b<s.heap.objs.size) (old:∀b o,s.heap.get? b=some o->h1.get? b=some o)
  (hD:h1.get? s.heap.objs.size=some {cls:= .type "list",data:= .seq ([]:List ae).toArray 0}) (hns:h1.Ns (s.heap.objs.size+1) λ_=>none):
  Inv (bW X M scope (s.heap.objs.size+1) s H fp) [] (ky ix σ) (upd H s.heap.objs.size (.lst [])) {s with heap:=h1}:=by
 have frees:∀y∈scope.names,y.2= .free->∃c,X.env.cells.lookup y.1=some c:=λy hy e=>I.ok.has y.1 (S.free y hy e)
 have clin:∀y c,(kZ X.env.cells scope.names []).lookup y=some c->X.env.cells.lookup y=some c:=λy c h=>wm scope.names [] y c frees (λc hc=>by simp at hc) h
 have hfr:H s.heap.objs.size=none:=I.hok.fresh (av _)
 have hclt:∀y c,(kZ X.env.cells scope.names []).lookup y=some c->c<s.heap.objs.size:=λy c h=>by
  obtain⟨v,q⟩:=I.cell y c (clin y c h)
  exact q.lt
 refine⟨⟨I.ok.mod,S.kind,I.ok.glob,I.ok.blt,fS _,λy z c e1 e2=>I.ok.inj y z c (clin y c e1) (clin z c e2),λy hy=> ?_,λy c e _=>absurd (show false=true from e) (by simp),I.ok.hd,I.ok.frames,.inl rfl,
   λb hb=>⟨aU (eQ (hft b hb)),λy c e=>(hf b hb).2.2.2.2.1 y c (clin y c e)⟩,I.bs,aO I.ok.bsz I.sz,λb o e hb=> ?_,λb hb z=> ?_,I.stack,I.stkFree⟩,
  rfl,I.bare,Un.laid old (av _) hfr,⟨λ_=>none,hns,λk y v e1 e2 e3=> ?_⟩,λy c e=> ?_,?_,λy c e=> ?_,λp hp=>absurd (show p∈([]:List (Addr×Obj))from hp) (by simp),?_,?_⟩
 ·exact rc scope.names [] y (qH (env:=X.env) hy S.nocell)
 ·rcases(hf b hb).2.2.2.1 with z|z
  ·exact I.ok.noex b o e z
  ·exact absurd (ba (aC e) (aO I.ok.bsz z)) (cU _)
 ·exact(aD.mp (I.stkSub b z)).elim (hf b hb).2.1 (hf b hb).2.2.1
 · -- a captured name
  have hix:∃i,ix[k]? =some (some i)/\σ[i]? =some (some v):=by
   unfold ky at e2
   rw[aF]at e2
   cases q:ix[k]? with
   |none=>rw[q]at e2;cases e2
   |some o=>
    cases o with
    |none=>rw[q]at e2;cases e2
    |some i=>
     rw[q]at e2
     refine⟨i,rfl,?_⟩
     have e2':some ((σ[i]?).getD none)=some (some v):=e2
     have e3':=a8 e2'
     cases q2:σ[i]? with
     |none=>rw[q2]at e3';cases e3'
     |some z=>rw[q2]at e3';exact congrArg some e3'
  obtain⟨i,hi,hv⟩:=hix
  obtain⟨c1,c2,c3⟩:=S.capt k y i e1 hi
  obtain⟨m,hn,hl⟩:=I.loc
  obtain⟨u,r,l⟩:=hl i y v c1 hv (.inr c2)
  refine⟨u,r,?_⟩
  rcases l with⟨l,_⟩|⟨_,c,hc,hcell⟩
  ·exfalso
   have l':X.env.scope.names.lookup y=some .local:=l
   rcases c2 with c2|c2<;>(rw[l']at c2;cases c2)
  ·have hmem:(y,je)∈scope.names:=PySem.mem_of_lookup c3
   obtain⟨c',hc'⟩:=rc (cells:=X.env.cells) scope.names [] y hmem
   have ecc:c'=c:=a8 ((clin y c' hc').symm.trans hc)
   subst ecc
   have hk:(relabel scope X.env).names.lookup y=some .cell\/(relabel scope X.env).names.lookup y=some .free:=by
    rw[xh,lC,c3]
    rcases vk (env:=X.env) (x:=y)with z|z
    ·exact .inl (congrArg some z)
    ·exact .inr (congrArg some z)
   obtain⟨oc,ho,hd⟩:=hcell
   exact .inr ⟨hk,c',hc',oc,old c' oc ho,hd⟩
 ·obtain⟨v,oc,ho,hd⟩:=I.cell y c (clin y c e)
  exact⟨v,oc,old c oc ho,hd⟩
 ·show upd H s.heap.objs.size (.lst []) (s.heap.objs.size+1)=none
  rw[br (Nat.succ_ne_self _)]
  exact I.hok.fresh (fS _)
 ·show upd H s.heap.objs.size (.lst []) c=none
  rw[br (aU (hclt y c e))]
  exact I.freeC y c (clin y c e)
 ·exact I.hok.laid old (av _) ⟨bK _,[],0,.nil,hD⟩
 ·show(ky ix σ).length=M.length
  unfold ky
  rw[ap,S.len]
theorem ra{pins:List (Addr×Obj)}{σ σ':St}{H H':Hp}{s s':ai}{fp:List Addr}{C:Addr}(I:Inv X pins σ H s)(hC:s.heap.objs.size<=C)(hf:∀b∈fp,ph X pins H b)
  (I':Inv (bW X M scope C s H fp) [] σ' H' s') {h':Heap} (hb:dW C s'.heap h'):Inv X pins σ H' {s' with heap:=h'}:=by
 have ne:∀b o,s.heap.get? b=some o->b≠C:=λb o e=>aU (ba (aC e) hC)
 have k:∀b o,b≠C->s'.heap.get? b=some o->h'.get? b=some o:=λb o hn e=>hb.extBut b o hn e
 have u:Un (kH X.stack) fp H H' s.heap s'.heap:=I'.base
 have hHC:H' C=none:=I'.free
 have u2:Un (kH X.stack) fp H H' s.heap h':=by
  refine⟨λb o e n h1 h2=>k b o (ne b o e) (u.keep b o e n h1 h2),λb o e n h1 h2=> ?_,λb o e n h1=>u.free b o e n h1,λb o e h1=> ?_,u.tups,u.frzs,u.tbls⟩
  ·obtain⟨sl,q⟩:=u.slot b o e n h1 h2
   exact⟨sl,k b _ (ne b o e) q⟩
  ·obtain⟨o',q⟩:=u.there b o e h1
   exact⟨o',k b o' (ne b o e) q⟩
 have hok:HOk X.prog X.w H' h':=λb o e=>(I'.hok b o e).stay (λc v hc q=>k c v (λz=>by
  subst z
  rcases hc with z|z
  ·rw[<-z,hHC]at e;cases e
  ·rw[hHC]at z;cases z) q) (λ_ q=>q) λ_ _ q=>q
 exact I.call' (s':={s' with heap:=h'}) I'.os u2 hok I'.bare λb hb=>⟨(hf b hb).2.2.2.1,(hf b hb).2.1,(hf b hb).2.2.2.2.1,(hf b hb).2.2.2.2.2⟩
theorem BQ{c:St}{j:Nat}{v:V}(h:c[j]? =some none):∀(i:Nat) (z:V),c[i]? =some (some z)->(c.set j (some v))[i]? =some (some z):=λi z e=>by
 by_cases hij:j=i
 ·subst hij;rw[h]at e;cases e
 ·rw[cf hij];exact e
theorem rb{elt iter:Expr}{px:Pos}{ifs:List Expr}{pos:Pos}{tf:TT}{te:TE}{pins:List (Addr×Obj)}{σ:St}{H:Hp}{s:ai}{fp:List Addr}{it:Addr}{tn:Nat->Heap->Prop}{J:It}{h1:Heap}{tk:Nat}{Q:VK}{R:Result->ai->Prop}
  (S:g7 X.env.scope X.N scope M ix j x) (hc:X.calm=true) (I:Inv X pins σ H s)
  (hF:PF (bW X M scope (s.heap.objs.size+1) s H fp) ifs tf) (hE:PE (bW X M scope (s.heap.objs.size+1) s H fp) elt te)
  (T:rM X.prog X.w X.K (.Name x px) J fp it tn) (st:tn 0 s.heap) (hf:∀b∈fp,ph X pins H b)
  (I0:Inv (bW X M scope (s.heap.objs.size+1) s H fp) [] (ky ix σ) (upd H s.heap.objs.size (.lst [])) {s with heap:=h1,toks:=tk}) (old:∀b o,s.heap.get? b=some o->h1.get? b=some o)
  (q:Ex J ix j σ tf te Q H s.heap.objs.size)
  (hR:∀H' s',Inv (bW X M scope (s.heap.objs.size+1) s H fp) [] (ky ix σ) H' s'->Q (.ref s.heap.objs.size) H'->R (.ok .next) s'):
  codeAny (aQ X.prog X.w) X.A (.compLoop (.ListComp elt [⟨.Name x px,iter,ifs,0⟩] scope pos) 0 (.ref it) (.ref s.heap.objs.size) (compEnvC scope (kZ X.env.cells scope.names []) (s.heap.objs.size+1) X.env)) R {s with heap:=h1,toks:=tk}:=by
 obtain⟨W,⟨m0,w0⟩,turn⟩:=q
 have hD:s.heap.objs.size∉fp:=λz=>by
  obtain⟨o,e,_⟩:=T.obj 0 s.heap st _ z
  exact absurd (aC e) (cU _)
 have hlt:∀b∈fp,b<s.heap.objs.size:=λb hb=>by
  obtain⟨o,e,_⟩:=T.obj 0 s.heap st b hb
  exact aC e
 have stat:∀{H':Hp},(∀b∈fp,H' b=none)->∀b∈fp,ph (bW X M scope (s.heap.objs.size+1) s H fp) [] H' b:=λhn b hb=>
  ⟨hn b hb,aU (eQ (hlt b hb)),I0.ok.exfs b hb,.inl hb,(I0.ok.exf b hb).2,λp hp=>absurd (show p∈([]:List (Addr×Obj))from hp) (by simp)⟩
 have own:=uu S.own σ
 refine mW rfl (λn s'=>∃i H',Inv (bW X M scope (s.heap.objs.size+1) s H fp) [] (ky ix σ) H' s'/\tn i s'.heap/\(∀b∈fp,H' b=none)/\W i n H') ?_ m0
  ⟨0,_,I0,T.keep 0 _ _ st λb _ o e=>old b o e,λb hb=>by rw[br (aU (hlt b hb))];exact(hf b hb).1,w0⟩
 rintro n s3 ⟨i,H3,I3,st3,fr3,w3⟩
 rcases turn i n H3 w3 with⟨stop,qn⟩|⟨go,step⟩
 ·refine bc (T.done (bW X M scope (s.heap.objs.size+1) s H fp) rfl rfl rfl hc i [] s3 (ky ix σ) H3 (λ_ _=>False) I3 (stat fr3) st3 stop) (λr s4 hPl=> ?_) (λ_ _ z=>z.elim)
  obtain⟨hr,I4⟩:=hPl
  subst hr
  exact hR H3 s4 I4 qn
 ·refine bc (T.item (bW X M scope (s.heap.objs.size+1) s H fp) rfl rfl rfl hc i [] s3 (ky ix σ) H3 (λ_ _=>False) I3 (stat fr3) st3 go) (λr s4 hPl=> ?_) (λ_ _ z=>z.elim)
  obtain⟨u,hr,h4⟩:=hPl
  subst hr
  refine bc h4 (λ_ s5 hPl=> ?_) (λ_ _ z=>z.elim)
  obtain⟨y,H5,I5,r5,y5,st5,fr5⟩:=hPl
  have I5':=I5.pinned (stat fr5) (T.obj _ _ st5)
  have pg:PG (bW X M scope (s.heap.objs.size+1) s H fp) (.Name x px) (qU j):=
   kD S.nd S.tgt (.inl (by show(relabel scope X.env).names.lookup x=some .local;exact eU S.loc)) (.inr (by show(relabel scope X.env).names.lookup x=some .local;exact eU S.loc))
  refine bc (pg _ s5 (ky ix σ) H5 y u (λσ2 H2=>σ2=(ky ix σ).set j (some y)/\H2=H5) I5' r5 ⟨rfl,rfl⟩) (λ_ s6 hPl=> ?_) (λ_ _ z=>z.elim)
  obtain⟨σ6,H6,I6,e6,eh6⟩:=hPl
  subst e6;subst eh6
  have again:∀{H7:Hp} {s7:ai},Inv (bW X M scope (s.heap.objs.size+1) s H fp) ([]++n5 fp s5.heap) ((ky ix σ).set j (some y)) H7 s7->(∃m',m'<n/\W (i+1) m' H7)->
    ∃m,m<n/\∃i H',Inv (bW X M scope (s.heap.objs.size+1) s H fp) [] (ky ix σ) H' s7/\tn i s7.heap/\(∀b∈fp,H' b=none)/\W i m H':=fun{H7 s7} I7 ⟨m',hm,w7⟩=>by
   have Iw:Inv (bW X M scope (s.heap.objs.size+1) s H fp) [] (ky ix σ) H7 s7:=(Inv.unpinned (pins:=[]) I7).weak (by simp) (BQ own)
   refine⟨m',hm,i+1,H7,Iw,T.keep _ _ _ st5 λb hb o e=>(I7.pin (b,o) (aX _ (aX _ (gX hb e)))).1,λb hb=> ?_,w7⟩
   obtain⟨o,e,d⟩:=T.obj _ _ st5 b hb
   exact(I7.pin (b,o) (aX _ (aX _ (gX hb e)))).2.1
  refine bc (hF _ s6 _ _ _ I6 (step y _ y5)) (λb s7 hPl=> ?_) (λ_ _ z=>z.elim)
  obtain⟨H7,I7,q7⟩:=hPl
  cases b with
  |false=>
   simp only[o4,if_false]at q7⊢
   exact again I7 q7
  |true=>
   simp only[if_true]at q7⊢
   refine bc (hE _ s7 _ H7 _ I7 q7) (λv s8 hPl=> ?_) (λ_ _ z=>z.elim)
   obtain⟨z,H8,I8,r8,ys,hy,hz,q8⟩:=hPl
   refine bc (og (X:=bW X M scope (s.heap.objs.size+1) s H fp) _ s8 _ H8 (.ref s.heap.objs.size) [z] (.ref s.heap.objs.size) [v] (λ_ H'=>H'=upd H8 s.heap.objs.size (.lst (ys++[z]))) I8 rfl (.cons r8 .nil) ⟨s.heap.objs.size,ys,z,rfl,rfl,hy,hz,rfl⟩) (λw s9 hPl=> ?_) (λ_ _ z=>z.elim)
   obtain⟨_,H9,I9,_,e9⟩:=hPl
   subst e9
   exact again I9 q8
theorem Fp{elt iter:Expr}{px:Pos}{ifs:List Expr}{pos:Pos}{wi:TI}{tf:TT}{te:TE}(S:g7 X.env.scope X.N scope M ix j x)(hc:X.calm=true)(hi:PI X (.Name x px) iter wi)
  (hb:∀C s H fp,PF (bW X M scope C s H fp) ifs tf/\PE (bW X M scope C s H fp) elt te) (hs:∀x,dU iter X.env x=pure x:=by intro _;rfl):
  PE X (.ListComp elt [⟨.Name x px,iter,ifs,0⟩] scope pos) (BJ wi ix j tf te):=by
 intro pins s σ H Q I h
 rw[eval_ListComp]
 refine kT (use:=none) rfl hs (i4 λy hy e=>I.ok.has y.1 (S.free y hy e)) S.kind S.names (bc (hi pins s σ H _ I h) (λxv s₁ h₁=>bc h₁ (λit s₂ h₂=> ?_) λ_ _ e=>e) λ_ _ e=>e)
 obtain⟨it,fp,tn,J,H2,rfl,I2,T,st2,f2,q⟩:=h₂
 refine bF (o7 S.nocell (by intro y hy;simp at hy) (λh₁ hns₁ hsb₁=> ?_) S.kind)
 dsimp only at hns₁ hsb₁⊢
 have hC:(s₂.heap.push {cls:= .type "list",dict:=none,data:= .seq ([]:List ae).toArray}).objs.size=s₂.heap.objs.size+1:=cW ..
 rw[hC]at hns₁ hsb₁⊢
 have below:∀b,b<s₂.heap.objs.size->b≠s₂.heap.objs.size+1:=λb hb=>aU (eQ hb)
 have old:∀b o,s₂.heap.get? b=some o->h₁.get? b=some o:=λb o e=>hsb₁.extBut b o (below b (aC e)) (ak _ (ak _ e))
 have hD:h₁.get? s₂.heap.objs.size=some {cls:= .type "list",data:= .seq ([]:List ae).toArray 0}:=hsb₁.extBut _ _ (aU (gf _)) (ak _ (aJ _ rfl))
 have ns:h₁.Ns (s₂.heap.objs.size+1) λ_=>none:=hns₁
 have hft:∀b∈fp,b<s₂.heap.objs.size:=λb hb=>by
  obtain⟨o,e,_⟩:=T.obj 0 s₂.heap st2 b hb
  exact aC e
 have I0:=(lO (h1:=h₁) S I2 f2 hft old hD ns).tok s₂.toks
 have hfr:H2 s₂.heap.objs.size=none:=I2.hok.fresh (av _)
 have loop:codeAny (aQ X.prog X.w) X.A (.compLoop (.ListComp elt [⟨.Name x px,iter,ifs,0⟩] scope pos) 0 (.ref it) (.ref s₂.heap.objs.size) (compEnvC scope (kZ X.env.cells scope.names []) (s₂.heap.objs.size+1) X.env))
   (compPost (aQ X.prog X.w) X.A X.xe none (EP X pins σ Q) (.ref s₂.heap.objs.size) (s₂.heap.objs.size+1)) {s₂ with heap:=h₁,toks:=s₂.toks}:=by
  refine rb (Q:=Q) S hc I2 (hb _ _ _ _).1 (hb _ _ _ _).2 T st2 f2 I0 old (q _ hfr) λH' s' I' qq=> ?_
  obtain⟨m,hn,_⟩:=I'.loc
  exact⟨m,hn,λh' hb'=>⟨.ref s₂.heap.objs.size,H',ra I2 (fS _) f2 I' hb',rfl,qq⟩⟩
 exact mY loop (T.self _ 0 _ _ _ (T.keep 0 _ _ st2 λb _ o e=>old b o e) loop)
end
section
variable{X:Cx}
noncomputable def N0(z:Str):It:=⟨λi _=>i<z.cps.size,λi H x H'=>H'=H/\∃c,z.cps[i]? =some c/\x= .str ⟨#[c]⟩,λi _=>z.cps.size<=i⟩
theorem uG{P:aI}{w:aY}{K:PySem.W.Frag}{x:Str}{px:Pos}(it:Addr)(z:Str)(t:Tok)(ty:String)(hty:ty= "str_ascii_iterator" \/ty= "str_iterator"):
  rM P w K (.Name x px) (N0 z) [it] it (λi h=>h.IsStrIter it ty z t i/\i<=z.cps.size) where
 mem:=by simp
 obj:=λi h st b hb=>by
  have e:b=it:=by simpa using hb
  subst e
  obtain⟨⟨o,e,c,d⟩,_⟩:=st
  exact⟨o,e,λv z=>by rw[d]at z;cases z⟩
 keep:=λi h h' st k=>by
  obtain⟨⟨o,e,c,d⟩,z⟩:=st
  exact⟨⟨o,k it (by simp) o e,c,d⟩,z⟩
 item:=by
  intro X hP hw hK hc i pins s σ H E I hf st hg
  subst hP hw hK
  obtain⟨f0,f1,f2,f3,f4,f5⟩:=hf it (by simp)
  have hi:i<z.cps.size:=hg
  have fin:∀h':Heap,h'.IsStrIter it ty z t (i+1)->dW it s.heap h'->∃u,some (iW ⟨#[z.cps[i]]⟩ s.toks)=some u/\
    wpAny (aQ X.prog X.w) X.A (jh (.Name x px) (.ref it) u) (λ_ s2=>∃x H',Inv X pins σ H' s2/\RelV x u/\(N0 z).yld i H x H'/\(s2.heap.IsStrIter it ty z t (i+1)/\i+1<=z.cps.size)/\∀b∈[it],H' b=none) E {s with heap:=h',toks:=s.toks+1}:=λh' st' sb=>by
   have I1:Inv X pins σ H {s with heap:=h',toks:=s.toks+1}:=I.turned (λb o hb e=>sb.extBut b o hb e) f0 f1 f3 f4 f5
   exact⟨_,rfl,aA ⟨.str ⟨#[z.cps[i]]⟩,H,I1,⟨_,rfl⟩,⟨rfl,_,by simp[hi],rfl⟩,⟨st',hi⟩,λb hb=>(hf b hb).1⟩⟩
  rcases hty with rfl|rfl
  ·exact wpAny_pyNext_ascii_item st.1 (c:=z.cps[i]) (by simp[hi]) fin
  ·exact wpAny_pyNext_wide_item st.1 (c:=z.cps[i]) (by simp[hi]) fin
 done:=by
  intro X hP hw hK hc i pins s σ H E I hf st hg
  subst hP hw hK
  obtain⟨f0,f1,f2,f3,f4,f5⟩:=hf it (by simp)
  have hi:z.cps.size<=i:=hg
  rcases hty with rfl|rfl
  ·exact wpAny_pyNext_ascii_end (I.ok.hd hc) st.1 (by simpa using hi) λh' eb=>⟨rfl,I.turned (t':=s.toks) (λb o hb e=>eb b o hb e) f0 f1 f3 f4 f5⟩
  ·exact wpAny_pyNext_wide_end (I.ok.hd hc) st.1 (by simpa using hi) λh' eb=>⟨rfl,I.turned (t':=s.toks) (λb o hb e=>eb b o hb e) f0 f1 f3 f4 f5⟩
 self:=λ_ _ _ _ _ st h=>by
  rcases hty with rfl|rfl
  ·exact wpAny_pyIter_striter_ascii st.1 h
  ·exact wpAny_pyIter_striter_wide st.1 h
noncomputable def Op:V->Option Int->Option Int->Hp->VK->Prop:=λx lo hi H Q=>∃z,x= .str z/\z.length<=aK/\Q (.str (Txt.slice z lo hi)) H
theorem Io:NK X Op:=by
 intro pins s σ H x v vl vu lo hi sl Q I rx hs pl pu h
 obtain⟨z,rfl,hz,q⟩:=h
 obtain⟨t,rfl⟩:=rx
 obtain⟨l,el1,el2⟩:∃l:Option (Int×Tok),vl=partValue l/\l.map (·.1)=lo:=by
  cases pl with
  |none=>exact⟨none,rfl,rfl⟩
  |int i u=>exact⟨some (i,u),rfl,rfl⟩
 obtain⟨u,eu1,eu2⟩:∃u:Option (Int×Tok),vu=partValue u/\u.map (·.1)=hi:=by
  cases pu with
  |none=>exact⟨none,rfl,rfl⟩
  |int i u=>exact⟨some (i,u),rfl,rfl⟩
 subst el1 eu1 el2 eu2
 refine⟨"str",_,F.slot_str_getitem.lookup,typeIs_str _ _ _,?_⟩
 refine wpAny_getItem_str_slice (l:=l) (u:=u) (st:=none) hs rfl ?_
 exact post_val_or_str ⟨aO (Txt.slice_le z _ _) hz,λt' k=>⟨.str (Txt.slice z (l.map (·.1)) (u.map (·.1))),H,I.tok k,⟨_,rfl⟩,q⟩⟩
noncomputable def p8(z:Str)(n:Nat):Str:=⟨(aj n z.cps).foldl (· ++·) #[]⟩
theorem sA(a:Array Nat):∀(n:Nat) (acc:Array Nat),((aj n a).foldl (· ++·) acc).size=acc.size+n*a.size
 |0,acc=>by simp
 |n+1,acc=>by
  rw[bf,List.foldl_cons,sA a n,Array.size_append,Nat.add_mul]
  ac_nf
theorem rF(z:Str)(n:Nat):(p8 z n).length=z.length*n:=by
 show((aj n z.cps).foldl (· ++·) #[]).size=z.cps.size*n
 rw[sA,i7]
 simp
theorem xp:ic X (cK .Mult) (λx y H Q=>∃z i,x= .str z/\y= .int i/\1<=i/\i<=1000/\z.length<=10000/\Q (.str (if(i==1||z.length==0)=true then z else p8 z i.toNat)) H):=by
 intro pins s σ H x y v u Q I rx ry h
 obtain⟨z,i,rfl,rfl,h1,h2,h3,q⟩:=h
 obtain⟨t,rfl⟩:=rx
 obtain⟨t',rfl⟩:=ry
 have hn:¬i<1:=by ac_nf
 have hsl:aK=16777216:=by rw[gA]
 have hmul:z.length*i.toNat<=10000*1000:=nv h3 (by ac_nf)
 refine P.mul_str (by rw[decide_eq_false (by ac_nf),decide_eq_false (by ac_nf)];rfl) (λ_ _=> ?_) (λ_ _=> ?_) ?_
 ·have hdiv:(10000:Int)<=(2^63-1)/i:=by
   have:=Int.le_ediv_of_mul_le (a:=10000) (b:=2^63-1) (c:=i) (by ac_nf) (by ac_nf)
   exact this
  ac_nf
 ·unfold cb.Str.tooLong
  rw[decide_eq_false (by ac_nf)]
 ·rw[if_neg hn]
  refine post_val_or_str ⟨?_,λt'' k=>⟨.str (if(i==1||z.length==0)=true then z else p8 z i.toNat),H,I.tok k,⟨_,rfl⟩,q⟩⟩
  split
  ·ac_nf
  ·show(p8 z i.toNat).length<=aK
   rw[rF]
   ac_nf
theorem qf:∀{ys:List Str} {us:List ae},Vals (ys.map V.str) us->StrsAre us ys
 |[],us,h=>by
  cases us with
  |nil=>exact .nil
  |cons _ _=>cases h
 |y::ys,us,h=>by
  cases us with
  |nil=>cases h
  |cons u us=>
   cases h with
   |cons r t=>
    obtain⟨k,rfl⟩:=(show∃k,u=iW y k from r)
    exact .cons y k (qf t)
noncomputable def LJ(K:PySem.W.Frag):V->List V->Hp->VK->Prop:=λx vs H Q=>∃z p ys,x= .str z/\vs=[.ref p]/\SqL K H p (ys.map V.str)/\(ys.map (·.length)).sum+ys.length*z.length<=16777216/\Q (.str (kz z ys)) H
theorem FG:Bi X "str.join" (LJ X.K):=by
 intro pins s σ H x xs v us Q I rx rs h
 obtain⟨z,p,ys,rfl,rfl,hq,hz,q⟩:=h
 obtain⟨t,rfl⟩:=rx
 obtain⟨u,rfl,ru⟩:=rs.one
 cases ru
 obtain⟨its,r,pl,_⟩:=I.list hq
 exact join_list pl.isList (by simpa using qf r) hz λt' k=>⟨.str (kz z ys),H,I.tok k,⟨_,rfl⟩,q⟩
noncomputable def LL(K:PySem.W.Frag):R2:=λx y H Q=>∃l b xs zs,x= .ref l/\y= .ref b/\SqL K H l xs/\SqL K H b zs/\xs.length+zs.length<=aK/\∀p,H p=none->Q (.ref p) (upd H p (.lst (xs++zs)))
theorem zg:ic X (cK .Add) (LL X.K):=by
 intro pins s σ H x y v u Q I rx ry h
 obtain⟨l,b,xs,zs,rfl,rfl,hH,hB,hz,q⟩:=h
 cases rx
 cases ry
 obtain⟨its,r,pl,_⟩:=I.list hH
 obtain⟨its2,r2,pl2,_⟩:=I.list hB
 have l1:=r.length
 have l2:=r2.length
 obtain⟨⟨cls,dd,data,sl⟩,n,ho,hc,hd0,hd⟩:=pl
 obtain⟨⟨cls2,dd2,data2,Be⟩,n2,ho2,hc2,hd02,hd2⟩:=pl2
 simp only at hc hd hc2 hd2
 subst hc hd hc2 hd2
 refine concat_meets ⟨_,ho,rfl⟩ ⟨_,ho2,rfl⟩ noFill_list_add seq_list_add PySem.F.slot_list_add PySem.F.entry_list_add (PySem.F.args_list_add_2 _ _)
  (list_addW l b its.toArray its2.toArray n n2 dd dd2 sl Be (by rw[aw,aw];ac_nf)) ⟨ho,ho2,?_⟩
 have ea:its.toArray++its2.toArray=(its++its2).toArray:=by simp
 rw[ea]
 exact⟨.ref _,_,I.lnew (t':=s.toks) (r.append r2) (by rw[aN];ac_nf),rfl,q _ I.fresh⟩
theorem Am:ic X (bQ .LtE) (λx y H Q=>∃i j,x= .str i/\y= .str j/\Q (.bl (!(decide (j.cps.toList<i.cps.toList)))) H):=by
 intro pins s σ H x y v u Q I rx ry h
 obtain⟨i,j,rfl,rfl,q⟩:=h
 obtain⟨t,rfl⟩:=rx
 obtain⟨t',rfl⟩:=ry
 exact P.le_str (xQ I q rfl)
noncomputable def HS(i j:Int):Prop:=0<j/\j<=10^30
theorem Cv:ic X (cK .FloorDiv) (rI HS λi j=> .int (i/j)):=NS λi j _ _ _ _ _ hc q=>by
 have h0:j≠0:=by have:=hc.1;ac_nf
 refine floordiv_int h0 ?_ (.inl (PyProof.noPylong_of_log2 ?_))
 ·rw[Int.fdiv_eq_ediv_of_nonneg _ (Int.le_of_lt hc.1)];exact q
 ·have h1:j.natAbs≠0:=by ac_nf
  have h2:j.natAbs<2^100:=by
   have h3:=hc.2
   have h4:=hc.1
   have e:(10:Int)^30<2^100:=by decide
   have h5:((j.natAbs:Nat):Int)=j:=by ac_nf
   ac_nf
  have:=(Nat.log2_lt h1).mpr h2
  ac_nf
end
section
variable{P:aI}{w:aY}{H:Hp}{h h':Heap}{a:Addr}{o:HO}
theorem ObjOk.stands(x:ObjOk P w H h a o):∃u,h.get? a=some u:=by
 cases o with
 |lst xs=>obtain⟨_,_,_,_,e⟩:=x;exact⟨_,e⟩
 |tup xs=>obtain⟨_,_,_,p⟩:=x;obtain⟨u,e,_⟩:=p;exact⟨u,e⟩
 |dK kvs=>obtain⟨_,_,_,_,u,_,_,e,_⟩:=x;exact⟨u,e⟩
 |dT kvs=>obtain⟨_,_,_,_,u,_,_,e,_⟩:=x;exact⟨u,e⟩
 |set S n=>obtain⟨u,_,_,_,e,_⟩:=x;exact⟨u,e⟩
 |ins C dx fs=>obtain⟨_,_,_,e,_⟩:=x;exact⟨_,e⟩
 |own y=>exact x
 |xd fs=>obtain⟨_,⟨u,_,_,e,_⟩,_⟩:=x;exact⟨u,e⟩
 |rng lo hi=>obtain⟨_,_,_,e⟩:=x;exact⟨_,e⟩
 |frz ob u=>obtain⟨e,_⟩:=x;exact⟨ob,e⟩
 |tbl ps=>exact⟨_,x⟩
 |met f y=>exact⟨_,x⟩
 |ext φ=>exact x.2.1
theorem HOk.none_of(x:HOk P w H h)(e:h.get? a=none):H a=none:=by
 cases q:H a with
 |none=>rfl
 |some u=>
  obtain⟨o,z⟩:=(x a u q).stands
  rw[e]at z;cases z
theorem HOk.laidN(x:HOk P w H h)(k:∀b u,h.get? b=some u->h'.get? b=some u)(hn:H a=none)(new:ObjOk P w (upd H a o) h' a o):HOk P w (upd H a o) h':=λb u e=>by
 by_cases hb:b=a
 ·subst hb;rw[cr]at e;cases e;exact new
 ·rw[br hb]at e
  exact(x b u e).stay (λc v _ q=>k c v q) (λc q=>by rw[br (cq q hn)];exact q) λc xs q=>by rw[br (cq q hn)];exact q
theorem Un.laidN{fs ex:List Addr}(k:∀b u,h.get? b=some u->h'.get? b=some u)(hp:h.get? a=none)(hn:H a=none):Un fs ex H (upd H a o) h h' where
 keep:=λb u q _ _ _=>k b u q
 slot:=λb u q _ _ _=>⟨u.slots,k b u q⟩
 free:=λb u q n _=>by rw[br (λz=>by subst z;rw[hp]at q;cases q)];exact n
 there:=λb u q _=>⟨u,k b u q⟩
 tups:=λb xs q=>by rw[br (cq q hn)];exact q
 frzs:=λb u xs q=>by rw[br (cq q hn)];exact q
 tbls:=λb ps q=>⟨#[],by rw[br (cq q hn),q];simp⟩
end
section
variable{X:Cx}
noncomputable def XAt(e C:Addr)(h:Heap):Prop:=∃ob,h.get? e=some ob/\ob.cls= .ref C
noncomputable def vZ(e C:Addr):HO:= .ext (XAt e C)
theorem XAt.stay{e C:Addr}:∀h1 h2:Heap,XAt e C h1->(∀o,h1.get? e=some o->h2.get? e=some o)->XAt e C h2:=λ_ _ ⟨ob,h1,h2⟩ k=>⟨ob,k ob h1,h2⟩
noncomputable abbrev Ba:List ae:=[.type "ValueError",.type "Exception",.type "BaseException",.type "object"]
theorem ox{K:PySem.W.Frag}{h:Heap}{C:Addr}{bmB:List ae}{newId:String}(XK:K.In h)(q:PySem.W.excIn K C bmB newId=true):
  ∃bm ns nm qn bs hd sn sub ab col dd k0 k1 k2 k3 k5,∃mN:Str->Option ae,h.get? C=some (excClassObj nm qn C ns bs bm hd sn sub ab col dd k0 k1 k2 k3 k5 newId)/\h.Ns ns mN/\mN "__init__" =none/\OwnTail h bmB bm:=by
 unfold PySem.W.excIn at q
 split at q
 ·rename_i dd cd sl ho
  split at q
  ·rename_i C' bm k0 k1 k2 k3 n k5 hm hs
   simp only[aH,beq_iff_eq,Bool.not_eq_true']at q
   obtain⟨⟨⟨⟨⟨e1,e2⟩,hdel⟩,ht⟩,hok⟩,hni⟩:=q
   subst e1 e2
   obtain⟨nm,bs,mro,ns,qn,hd,sn,sub,ab,col,del⟩:=cd
   dsimp only at hm hdel hok hni
   subst hm hdel
   have hsl:sl= #[k0,k1,k2,k3,some (.builtin n),k5]:=by
    obtain⟨l⟩:=sl
    have hs':l=[k0,k1,k2,k3,some (.builtin n),k5]:=hs
    rw[hs']
   subst hsl
   exact⟨bm,ns,nm,qn,bs,hd,sn,sub,ab,col,dd,k0,k1,k2,k3,k5,_,XK _ _ ho,.of_isNs (PySem.W.isNs_of_in XK hok),PySem.W.nsMap_none_of_in XK hok hni,PySem.W.tail_of_in XK ht⟩
  ·cases q
 ·cases q
theorem pS{M:Model}{e C:Addr}{h:Heap}(p:XAt e C h):PySem.W.Looks M h (typeOf (.ref e)) (.ref C):=by
 obtain⟨ob,h1,h2⟩:=p
 exact h2▸(PySem.W.Looks.ld h1).andThen .now
open Builtin Builtin.ObjectAttr Builtin.Getset_descriptor in
theorem GT{K:PySem.W.Frag}{prog:aI}{w:aY}{A:Around}{R:Result->ai->Prop}{s:ai}{e C:Addr}{tp:ae}(XK:K.In s.heap)(p:XAt e C s.heap)(hm:PySem.W.mroIn K C (.type "object")=some true)
  (z:R (.ok (.ret (.ref C))) s):codeAny (aQ prog w) A (.call (.builtin "getset_descriptor.__get__") ⟨[.builtin "object.__class__",.ref e,tp],[]⟩) R s:=by
 obtain⟨h0,g0,d0,t0,o0⟩:=s
 have T0:=pS (M:=aQ prog w) p
 have T1:=PySem.W.looks_mroIn (M:=aQ prog w) XK hm
 refine codeAny_call_builtin PySem.W.KF.slot_gs.plain PySem.W.KF.entry_gs (PySem.W.KF.slot_gs.check _ _ _ _ _ _ _ _ PySem.W.KF.type_class (PySem.W.KF.args_gs _ _ _) ?_)
 unfold cb.«getset_descriptor.__get__»
 unfold descrGet
 rw[PySem.W.dga_obj]
 refine aa (aA ?_)
 unfold descrGetter;unfold descrCheckInstance
 unfold descrNameAndClass;unfold isInstance
 simp only[PySem.W.KF.owner_class]
 repeat lk
 refine⟨Code.quiet_builtin _ (by decide+kernel),codeAny_builtin PySem.W.KF.entry_class ?_⟩
 unfold cb.«object.__class__»;unfold shownTypeOf
 repeat lk
 exact z
theorem AZ{K:PySem.W.Frag}{prog:aI}{w:aY}{A:Around}{E:ae->ai->Prop}{Q:Option ae->ai->Prop}{s:ai}{e C:Addr}
  (pg:PySem.W.findIn K (.ref C) "__getattribute__" =some (some (.builtin "BaseException.__getattribute__"))) (pt:PySem.W.findIn K (.ref C) "__getattr__" =some none)
  (hf:∀M:Model,PySem.W.Looks M s.heap (cb.ObjectAttr.find (.ref e) (.ref C) "__class__") (.bind (.builtin "getset_descriptor.__get__") (.builtin "object.__class__")))
  (hm:PySem.W.mroIn K C (.type "object")=some true) (hb:PySem.W.mroIn K C (.type "BaseException")=some true)
  (XK:K.In s.heap) (p:XAt e C s.heap) (k:Q (some (.ref C)) {s with toks:=s.toks+1}):wpAny (aQ prog w) A (getAttr? (.ref e) "__class__") Q E s:=by
 obtain⟨h,g,d,t,os⟩:=s
 have L0:=pS (M:=aQ prog w) p
 have L1:=PySem.W.looks_findIn (M:=aQ prog w) XK pg
 have L2:=PySem.W.looks_findIn (M:=aQ prog w) XK pt
 have L3:=hf (aQ prog w)
 have L4:=PySem.W.looks_mroIn (M:=aQ prog w) XK hb
 have hx2:(jL "BaseException.__getattribute__" ==jL "object.__getattribute__")=false:=by decide+kernel
 have f3:=F.excAttr_ValueError.ga.bind (.ref e)
 unfold getAttr? getAttrBy? getAttrBy
 refine aa (wpAny_mkText (aa (kU (dH (aa (L0.at (aa (L1.at ?_))))))))
 show wpAny _ _ (if(onTheHeap (.ref C)&&jL "BaseException.__getattribute__" ==jL "object.__getattribute__")=true then _ else _) _ _ _
 rw[hx2,lY,if_neg bd]
 unfold getAttrByItsOwn
 refine aa ?_
 show wpAny _ _ (typeLookup (.ref C) "__getattr__") _ _ _
 refine L2.at ?_
 refine aa (kU (dH ?_))
 show wpAny _ _ (boundAndCalled _ _ _) _ _ _
 unfold boundAndCalled
 rw[f3]
 refine aa (aA ?_)
 refine wpAny_call (codeAny_call_builtin F.excAttr_ValueError.ga.plain F.entry_bexc_ga ?_)
 have hk:builtinKind "BaseException.__getattribute__" =some .slot:=by decide+kernel
 have hsplit:splitId "BaseException.__getattribute__" =some ("BaseException", "__getattribute__"):=by decide+kernel
 have ha:=F.args_bexc_ga (.ref e) (.str "__class__" t)
 simp only[checkBuiltinCall,hk,hsplit]
 refine aa ?_
 unfold isInstance
 refine aa (L0.at (L4.at ?_))
 rw[if_neg (by decide)]
 refine wpAny_of_eq ha ?_
 show wpAny _ _ (cb.«object.__getattribute__» ⟨[.ref e,.str "__class__" t],[]⟩) _ _ _
 unfold cb.«object.__getattribute__»
 refine aa (wpAny_of_eq (a:=(aB e,[iW "__class__" t])) rfl ?_)
 refine aa (aA ?_)
 refine aa (L0.at (aa (L3.at ?_)))
 show wpAny _ _ (holding [jL "object.__class__"] (call (.builtin "getset_descriptor.__get__") [.builtin "object.__class__",.ref e,.ref C])>>=ret) _ _ _
 refine aa (dH (wpAny_call (GT XK p hm ?_)))
 exact aA (PySem.W.handed_on rfl (aA k))
structure rP(K:PySem.W.Frag)(C:Addr):Prop where
 pg:PySem.W.findIn K (.ref C) "__getattribute__" =some (some (.builtin "BaseException.__getattribute__"))
 pt:PySem.W.findIn K (.ref C) "__getattr__" =some none
 hb:PySem.W.mroIn K C (.type "BaseException")=some true
 ci:(PySem.W.clsIn K C).isSome=true
 ha:PySem.W.findIn K (.ref C) "__class__" =some (some (.builtin "object.__class__"))
 hn:PySem.W.specialIn K (.builtin "object.__class__") "__get__" =some (some (.builtin "getset_descriptor.__get__"))
 htk:PySem.W.takesIn K (.builtin "object.__class__")=some true
 hm:PySem.W.mroIn K C (.type "object")=some true
theorem vL{K:PySem.W.Frag}{e C:Addr}(Z:rP K C):PySem.W.KitX K (.ref e) (.ref C) (XAt e C) where
 ty:=λ_ _ _ p=>pS p
 it:=λ_ _ XK _=>by
  obtain⟨cd,hc⟩:=jr.mp Z.ci
  unfold PySem.W.clsIn at hc
  split at hc
  ·rename_i ho
   intro A' Q' E' s' k q
   unfold isType loadHead
   exact aa (wpAny_loadPart (k _ _ (XK _ _ ho)) (aA q))
  ·cases hc
 ne:=λh tp dd its n sl XK htp=>by
  obtain⟨cd,hc⟩:=jr.mp Z.ci
  refine Bool.eq_false_iff.mpr λq=> ?_
  have ee:C=tp:=aB.inj (beq_iff_eq.mp q)
  subst ee
  unfold PySem.W.clsIn at hc
  split at hc
  ·rename_i ho
   have z:=(XK _ _ ho).symm.trans htp
   cases z
  ·cases hc
 ca:=fun{prog w A E Q s} XK p k=>AZ Z.pg Z.pt (λM=>(PySem.W.looks_findIn XK Z.ha).andThen ((PySem.W.looks_specialIn XK Z.hn).andThen ((show PySem.W.Looks M s.heap (cb.ObjectAttr.dataDescriptor? (some (.builtin "object.__class__")) (some (.builtin "getset_descriptor.__get__"))) (some (_,_))from(PySem.W.looks_takesIn XK Z.htk).andThen .now).andThen (PySem.W.Looks.tag .now)))) Z.hm Z.hb XK p k
noncomputable def Lm:V->Option ae
 | .ref a=>some (.ref a)
 | .ty n=>some (.type n)
 |_=>none
theorem ni:gx X (.builtin "isinstance") (λxs H Q=>∃e C c cv b,xs=[.ref e,c]/\H e=some (vZ e C)/\rP X.K C/\Lm c=some cv/\PySem.W.kitOne X.K (.ref C) cv=some b/\Q (.bl b) H):=by
 intro pins s σ H xs us Q I rs h
 obtain⟨e,C,c,cv,b,rfl,he,Z,hv,hk,q⟩:=h
 obtain⟨u,v,rfl,ru,rv⟩:=rs.two
 cases ru
 have ev:v=cv:=by
  cases c<;>first
   |(cases hv;exact rv)
   |(exact absurd hv (by simp[Lm]))
 subst ev
 have p:XAt e C s.heap:=(I.hok e _ he).1
 exact PySem.W.kia_one (vL Z) I.kIn p hk (λz=>nomatch z) λtk=>⟨.bl b,H,I.tok tk,rfl,q⟩
end
noncomputable def fq(sc:e8)(N:List Str)(scope:e8)(M:List Str)(ix:List (Option Nat))(j:Nat)(x:Str):Bool:=
 scope.kind== .function
 &&scope.names.all (λy=>if y.2== .local then scope.names.lookup y.1==some .local else true)
 &&scope.names.all (λy=>y.2 != .cell)
 &&decide M.Nodup
 &&M[j]? ==some x
 &&scope.names.lookup x==some .local
 &&ix[j]? ==some none
 &&ix.length==M.length
 &&scope.names.all (λy=>if y.2== .free then(sc.names.lookup y.1==some .cell||sc.names.lookup y.1==some .free)else true)
 &&(cV M.length).all (λk=>match M[k]?,ix[k]? with
  |some y,some (some i)=>N[i]? ==some y&&(sc.names.lookup y==some .cell||sc.names.lookup y==some .free)&&scope.names.lookup y==some .free
  |_,_=>true)
theorem D9{sc:e8}{N:List Str}{scope:e8}{M:List Str}{ix:List (Option Nat)}{j:Nat}{x:Str}(h:fq sc N scope M ix j x=true):g7 sc N scope M ix j x:=by
 unfold fq at h
 simp only[aH]at h
 obtain⟨⟨⟨⟨⟨⟨⟨⟨⟨h1,h2⟩,h3⟩,h4⟩,h5⟩,h6⟩,h7⟩,h8⟩,h9⟩,h10⟩:=h
 refine⟨beq_iff_eq.mp h1,λy hy e=> ?_,λy hy e=> ?_,of_decide_eq_true h4,beq_iff_eq.mp h5,beq_iff_eq.mp h6,beq_iff_eq.mp h7,beq_iff_eq.mp h8,λy hy e=> ?_,λk y i e1 e2=> ?_⟩
 ·have q:=bq.mp h2 y hy
  rw[e]at q
  exact beq_iff_eq.mp q
 ·have q:=bq.mp h3 y hy
  rw[e]at q
  cases q
 ·have q:=bq.mp h9 y hy
  rw[e]at q
  rcases Bool.or_eq_true_iff.mp q with z|z
  ·exact .inl (beq_iff_eq.mp z)
  ·exact .inr (beq_iff_eq.mp z)
 ·have hk:k<M.length:=(am.mp e1).1
  have q:=bq.mp h10 k (lW.mpr hk)
  rw[e1,e2]at q
  simp only[aH,Bool.or_eq_true]at q
  obtain⟨⟨q1,q2⟩,q3⟩:=q
  refine⟨beq_iff_eq.mp q1,?_,beq_iff_eq.mp q3⟩
  rcases q2 with z|z
  ·exact .inl (beq_iff_eq.mp z)
  ·exact .inr (beq_iff_eq.mp z)
section
end
section
variable{X:Cx}{scope:e8}{M:List Str}{ix:List (Option Nat)}{j:Nat}{x:Str}
theorem E8{elt iter:Expr}{px py pos spos:Pos}{ifs:List Expr}{wi:TI}{tf:TT}{te:TE}{i:Nat}{y:Str}(hN:X.N.Nodup)(hi:X.N[i]? =some y)(hy:X.env.scope.names.lookup y=some .local)
  (S:g7 X.env.scope X.N scope M ix j x) (hc:X.calm=true) (hit:PI X (.Name x px) iter wi)
  (hb:∀C s H fp,PF (bW X M scope C s H fp) ifs tf/\PE (bW X M scope C s H fp) elt te)
  (hsw:gC (.ListComp elt [⟨.Name x px,iter,ifs,0⟩] scope pos) (some (.Name y py)) spos.line X.env=pure true:=by rfl) (hs:∀x,dU iter X.env x=pure x:=by intro _;rfl):
  PS X (.Assign [.Name y py] (.ListComp elt [⟨.Name x px,iter,ifs,0⟩] scope pos) spos) (Ij (BJ wi ix j tf te) (qU i)):=by
 intro pins s σ H D I h
 rw[exec_Assign_Name_used _ _ _ _ hsw]
 refine aa (wpAny_standAt (aa ?_))
 show wpAny _ X.A (do let _ <-comprehension (.ListComp elt [⟨.Name x px,iter,ifs,0⟩] scope pos) scope X.env _ (newList []) false (eval iter X.env) (some (assign (.Name y py) X.env))) _ _ s
 refine aa (bc (kT (use:=some (assign (.Name y py) X.env)) (Q:=λ_ s'=>SP X pins D .next s') rfl hs (i4 λy hy e=>I.ok.has y.1 (S.free y hy e)) S.kind S.names
  (bc (hit pins s σ H _ I h) (λxv s₁ h₁=>bc h₁ (λit s₂ h₂=> ?_) λ_ _ e=>e) λ_ _ e=>e)) (λ_ s' hq=>aA (aA hq)) λ_ _ e=>e)
 obtain⟨it,fp,tn,J,H2,rfl,I2,T,st2,f2,q⟩:=h₂
 refine bF (o7 S.nocell (by intro y hy;simp at hy) (λh₁ hns₁ hsb₁=> ?_) S.kind)
 dsimp only at hns₁ hsb₁⊢
 have hC:(s₂.heap.push {cls:= .type "list",dict:=none,data:= .seq ([]:List ae).toArray}).objs.size=s₂.heap.objs.size+1:=cW ..
 rw[hC]at hns₁ hsb₁⊢
 have below:∀b,b<s₂.heap.objs.size->b≠s₂.heap.objs.size+1:=λb hb=>aU (eQ hb)
 have old:∀b o,s₂.heap.get? b=some o->h₁.get? b=some o:=λb o e=>hsb₁.extBut b o (below b (aC e)) (ak _ (ak _ e))
 have hD:h₁.get? s₂.heap.objs.size=some {cls:= .type "list",data:= .seq ([]:List ae).toArray 0}:=hsb₁.extBut _ _ (aU (gf _)) (ak _ (aJ _ rfl))
 have hft:∀b∈fp,b<s₂.heap.objs.size:=λb hb=>by
  obtain⟨o,e,_⟩:=T.obj 0 s₂.heap st2 b hb
  exact aC e
 have I0:=(lO (h1:=h₁) S I2 f2 hft old hD hns₁).tok s₂.toks
 have hfr:H2 s₂.heap.objs.size=none:=I2.hok.fresh (av _)
 have loop:codeAny (aQ X.prog X.w) X.A (.compLoop (.ListComp elt [⟨.Name x px,iter,ifs,0⟩] scope pos) 0 (.ref it) (.ref s₂.heap.objs.size) (compEnvC scope (kZ X.env.cells scope.names []) (s₂.heap.objs.size+1) X.env))
   (compPost (aQ X.prog X.w) X.A X.xe (some (assign (.Name y py) X.env)) (λ_ s'=>SP X pins D .next s') (.ref s₂.heap.objs.size) (s₂.heap.objs.size+1)) {s₂ with heap:=h₁,toks:=s₂.toks}:=by
  refine rb (Q:=λv H'=>qU i v σ H' D.nx) S hc I2 (hb _ _ _ _).1 (hb _ _ _ _).2 T st2 f2 I0 old (q _ hfr) λH' s' I' qq=> ?_
  show wpAny _ X.A (assign (.Name y py) X.env (.ref s₂.heap.objs.size)) _ _ s'
  have J1:Inv X pins σ H' s':=ra (h':=s'.heap) I2 (fS _) f2 I' (.refl ..)
  obtain⟨m,hn,_⟩:=I'.loc
  obtain⟨oC,es,ep,hoC,hd,hrest⟩:=id hn
  have nL:s₂.heap.objs.size+1≠X.env.locals:=i6 (eQ I2.lt)
  have nF:s₂.heap.objs.size+1∉X.fs:=I2.nofs (fS _)
  have hHC:H' (s₂.heap.objs.size+1)=none:=I'.free
  have J2:Inv X (pins++[(s₂.heap.objs.size+1,oC)]) σ H' s':=J1.pins_of λp hp=>(aR.mp hp).elim (λz=>J1.pin p (aX _ z)) λz=>by
   have e:p=(s₂.heap.objs.size+1,oC):=au.mp z
   subst e
   exact⟨hoC,hHC,nL,nF,λv z=>by rw[hd]at z;cases z⟩
  refine wpAny_assign_Name (kc (v:= .ref s₂.heap.objs.size) J2 hN hi (.inl hy) rfl (λs'' J3=> ?_) (.inr hy))
  have hoC2:s''.heap.get? (s₂.heap.objs.size+1)=some oC:=(J3.pin (s₂.heap.objs.size+1,oC) (aX _ (aX _ (au.mpr rfl)))).1
  refine⟨m,⟨oC,es,ep,hoC2,hd,hrest⟩,λh' hb'=> ?_⟩
  have J4:Inv X pins (σ.set i (some (.ref s₂.heap.objs.size))) H' s'':=J3.unpinned
  refine⟨_,H',J4.turned (t':=s''.toks) (it:=s₂.heap.objs.size+1) (λb o hne e=>hb'.extBut b o hne e) hHC nL (.inr (aO I2.sz (fS _))) (λz c e1 e2=> ?_) (λp hp e2=> ?_),qq⟩
  ·obtain⟨v,qc⟩:=I2.cell z c e1
   have:=qc.lt
   rw[e2]at this
   exact absurd (Nat.lt_of_succ_lt this) (cU _)
  ·have:=aC (I2.pin p hp).1
   rw[e2]at this
   exact absurd (Nat.lt_of_succ_lt this) (cU _)
 exact mY loop (T.self _ 0 _ _ _ (T.keep 0 _ _ st2 λb _ o e=>old b o e) loop)
end
end L2
namespace HT
open PySem PyProof.Rows
section
variable{prog:aI}{w:aY}{A:Around}{E:ae->ai->Prop}{s:ai}
theorem xY(n:Nat):dS none none (-1) (n:Int)=((n:Int)-1,-1):=rfl
theorem xj(n:Nat):bV ((n:Int)-1) (-1) (-1)=n:=by
 unfold bV
 rw[if_neg (by decide)]
 by_cases h:((n:Int)-1> -1)
 ·rw[if_pos h,show(-(-1:Int))=1 from rfl,Int.ediv_one]
  ac_nf
 ·rw[if_neg h]
  ac_nf
theorem nW{sl:Addr}{t:Tok}{n:Nat}{Q:Int×Int×Nat->ai->Prop}(hs:s.heap.IsSliceOf sl .none .none (.int (-1) t))(h:Q ((n:Int)-1,-1,n) s):
  wpAny (aQ prog w) A (fj (.ref sl) (pure (n:Int))) Q E s:=by
 obtain⟨os,hos,hcs,hds⟩:=id hs
 unfold fj oZ
 refine aa (aa (bw hos hds (x:= .none) rfl (aa (bw hos hds (x:= .none) rfl (aa (bw hos hds (x:= .int (-1) t) rfl (aA ?_)))))))
 refine aa (iJ (.int (-1) t) ?_)
 show wpAny _ _ (if((-1:Int)==0)=true then _ else _) _ _ s
 rw[if_neg (by decide)]
 refine aa (iJ .none (aa (iJ .none (aa (aA ?_)))))
 show wpAny _ _ (match dS none none (-1) (n:Int)with|(lo,hi)=>pure (lo,(-1:Int),bV lo hi (-1))) _ _ s
 rw[xY n]
 show wpAny _ _ (pure ((n:Int)-1,(-1:Int),bV ((n:Int)-1) (-1) (-1))) _ _ s
 rw[xj]
 exact aA h
theorem pick_rev(xs:Array ae):((cV xs.size).filterMap fun(m:Nat)=>xs[(((xs.size:Nat):Int)-1+(m:Int)*(-1)).toNat]?).toArray=xs.toList.reverse.toArray:=by
 congr 1
 have e:∀k,k<=xs.size->((cV k).filterMap fun(m:Nat)=>xs[(((xs.size:Nat):Int)-1+(m:Int)*(-1)).toNat]?)=xs.toList.reverse.take k:=by
  intro k
  induction k with
  |zero=>intro _;rfl
  |succ k ih=>
   intro hk
   have hlt:xs.size-1-k<xs.size:=by ac_nf
   have e1:(((xs.size:Nat):Int)-1+(k:Int)*(-1)).toNat=xs.size-1-k:=by ac_nf
   rw[List.range_succ,List.filterMap_append,ih (by ac_nf),bZ]
   congr 1
   have hl:k<xs.toList.reverse.length:=by simp;ac_nf
   have g:xs.toList.reverse[k]? =some xs[xs.size-1-k]:=by
    rw[List.getElem?_reverse (by simpa using(show k<xs.size by ac_nf))]
    simp[hlt]
   rw[g]
   have gg:xs[(((xs.size:Nat):Int)-1+(k:Int)*(-1)).toNat]? =some xs[xs.size-1-k]:=by rw[e1];simp[hlt]
   rw[dP,gg]
   rfl
 have:=e xs.size (av _)
 rw[this,kO (by simp)]
theorem getItem_tuple_rev{t sl:Addr}{items:Array ae}{k:Tok}{Q:ae->ai->Prop}(ht:IsTup s.heap t items)(hs:s.heap.IsSliceOf sl .none .none (.int (-1) k))
  (h:Q (.ref s.heap.objs.size) {s with heap:=s.heap.push {cls:= .type "tuple",data:= .seq items.toList.reverse.toArray}})
  (hsz:items.size<=aK):wpAny (aQ prog w) A (jC (.ref t) (.ref sl)) Q E s:=by
 have hsize:sizeOk (.seq items.toList.reverse.toArray):=by
  show items.toList.reverse.toArray.size<=aK
  rw[aw,bA,gj]
  exact hsz
 obtain⟨os,hos,hcs,hds⟩:=id hs
 have hTs:s.TypeIs (.ref sl) "slice" :=⟨os,hos,hcs⟩
 unfold jC
 try with_reducible refine dH ?_
 first|refine aa (aA ?_)|skip
 refine aa (wpAny_sequenceKey ht.typeIs (by decide) ?_)
 refine aa (cS (name:=a9 "__getitem__") ht.typeIs cw
  (eB cw ht.typeIs entry_tuple_getitem ?_ (args_tuple_getitem _ _)))
 show wpAny _ _ (oI (.ref t)>>=_) _ _ s
 refine aa (tupleItemsOf_ ht ?_)
 refine aa (wpAny_typeOf hTs ?_)
 rw[if_pos (by decide)]
 refine aa (nW hs ?_)
 show wpAny _ _ (if((((items.size:Nat):Int)-1)==0&&(-1:Int)==1&&items.size==items.size)=true then _ else _) _ _ s
 rw[if_neg (by intro q;rw[aH,aH]at q;exact absurd q.1.2 (by decide)),pick_rev]
 first
  |exact aa (m:=ce _) (bF (aA ⟨_,rfl,aA h⟩) hsize)
  |exact aa (m:=ce _) (bF (aa (aA (aA ⟨_,rfl,aA h⟩))) hsize)
  |exact aa (aa (m:=ce _) (bF (aA (aA ⟨_,rfl,aA h⟩)) hsize))
  |exact aa (aa (m:=ce _) (bF (aA ⟨_,rfl,aA h⟩) hsize))
end
end HT
namespace L2
open PySem PySem.Spec PyProof.Rows
section
end
end L2
namespace PySem
open Sem (wp)
open Builtin Builtin.List Builtin.Tuple
namespace AutoSeq1
set_option maxRecDepth 8000 in
theorem extend_tup(l:Addr)(items:Array ae)(n:Nat)(b:Addr)(items2:Array ae)(n2:Nat)(dd:Option Addr)(sl:Array (Option ae))(c0:¬(!items.isEmpty&&cY (items.size+items2.size))=true)(c1:items.size<=aK)(c2:items.size+items2.size<=aK+1):
  Meets (cb.«list.extend» ⟨[.ref l,.ref b],[]⟩) (λ_ R s=>s.heap.get? l=some {cls:= .type "list",dict:=none,data:= .seq items n,slots:= #[]}/\s.heap.get? b=some ⟨.type "tuple",dd,.seq items2 n2,sl⟩/\R (.ok (.ret bn)) {s with heap:=s.heap.update l (eS λx=>x++items2)}):=
 .of_wp λprog w A R s h=>by
  obtain⟨hp,g,d,tk,os⟩:=s
  obtain⟨hl,hb,h⟩:=h
  have f1:=idx_int
  have f2:=sub_tuple_tuple
  have f3:=sub_list_list
  have f4:=sub_tuple_list
  have f5:=sub_list_tuple
  have big:(items++items2).size<=aK+1:=by rw[Array.size_append];exact c2
  wp_walk using(nw hl rfl (hz:=c1) (_hz':=big)),wpAny_loadPart' hl,wpAny_loadPart' hb
  exact⟨_,rfl,h⟩
end AutoSeq1
end PySem
namespace L2
open PySem PySem.Spec PyProof.Rows
section
variable{X:Cx}
noncomputable def B7(K:PySem.W.Frag):V->List V->Hp->VK->Prop:=λx vs H Q=>∃l b xs zs,x= .ref l/\vs=[.ref b]/\H l=some (.lst xs)/\SqT K H b zs/\xs.length+zs.length<=aK/\Q .non (upd H l (.lst (xs++zs)))
theorem xC:NN X "list.extend" (B7 X.K):=by
 intro pins s σ H x vs v us Q I rx rv h
 obtain⟨l,b,xs,zs,rfl,rfl,hH,hB,hz,q⟩:=h
 cases rx
 obtain⟨u,rfl,ru⟩:=rv.one
 cases ru
 obtain⟨z,its,n,r,hl,e⟩:=I.lstM hH
 obtain⟨its2,r2,tp,hz2⟩:=I.tuple hB
 have hl2:=r2.length
 obtain⟨⟨cls,dd,data,sl⟩,ho,hc,n2,hd⟩:=tp
 simp only at hc hd
 subst hc hd
 have hsz:its.toArray.size+its2.toArray.size<=aK:=by rw[aw,aw];ac_nf
 have hlong:¬(!its.toArray.isEmpty&&cY (its.toArray.size+its2.toArray.size))=true:=by
  rw[qB hsz,lY]
  exact bd
 refine fN F.slot_list_extend ⟨_,e,rfl⟩ F.entry_list_extend (F.args_list_extend_2 _ _) (AutoSeq1.extend_tup l its.toArray n b its2.toArray n2 dd sl hlong (by rw[aw];ac_nf) (by ac_nf)) ⟨e,ho,?_⟩
 refine⟨.non,_,I.lset (t':=s.toks) (its':=its++its2) hH e (by simp) (r.append r2) ?_,rfl,q⟩
 rw[aN]
 ac_nf
end
section
variable{κ:Type}[DecidableEq κ]
noncomputable def o9(kvs:List (κ×V))(k:κ):Option V:=(kvs.find? λkv=>decide (kv.1=k)).map (·.2)
noncomputable def jQ(kvs:List (κ×V))(k:κ)(v:V):List (κ×V):=
 if(kvs.any λkv=>decide (kv.1=k))=true then kvs.map (λkv=>if kv.1=k then(kv.1,v)else kv)else kvs++[(k,v)]
theorem me{p:κ×V}{r:List (κ×V)}{k:κ}(e:p.1=k):o9 (p::r) k=some p.2:=by simp[o9,eJ,e]
theorem mf{p:κ×V}{r:List (κ×V)}{k:κ}(e:¬p.1=k):o9 (p::r) k=o9 r k:=by simp[o9,eJ,e]
theorem uE(k:κ):∀kvs:List (κ×V),(kvs.any λkv=>decide (kv.1=k))=(o9 kvs k).isSome
 |[]=>rfl
 |p::r=>by
  rw[dX]
  by_cases e:p.1=k
  ·simp only[me e,decide_eq_true e,Bool.true_or,Option.isSome_some]
  ·rw[mf e,decide_eq_false e,Bool.false_or];exact uE k r
theorem kl(kvs:List (κ×V))(k:κ)(v:V):(jQ kvs k v).length<=kvs.length+1:=by
 unfold jQ
 split
 ·rw[ap];ac_nf
 ·rw[aN,aT,List.length_nil];ac_nf
theorem RelO.isSome_eq{o:Option V}{u:Option ae}(r:RelO o u):o.isSome=u.isSome:=by
 cases o with
 |none=>cases u with
  |none=>rfl
  |some _=>exact(show False from r).elim
 |some _=>cases u with
  |none=>exact(show False from r).elim
  |some _=>rfl
theorem RelO.getD{o:Option V}{u:Option ae}{d:V}{d':ae}(r:RelO o u)(rd:RelV d d'):RelV (o.getD d) (u.getD d'):=by
 cases o with
 |none=>cases u with
  |none=>exact rd
  |some _=>exact(show False from r).elim
 |some _=>cases u with
  |none=>exact(show False from r).elim
  |some _=>exact r
theorem KV.val{kvs:List (κ×V)}{vs:List (κ×ae)}(r:KV kvs vs)(k:κ):RelO (o9 kvs k) (valueAt vs k):=by
 unfold KV at r
 induction r with
 |nil=>exact cz
 | @cons p q ps qs h t ih=>
  obtain⟨h1,h2⟩:=h
  by_cases e:p.1=k
  ·have e':q.1=k:=h1.symm.trans e
   have b:valueAt (q::qs) k=some q.2:=by simp[valueAt,eJ,e']
   rw[me e,b];exact h2
  ·have e':¬q.1=k:=λz=>e (h1.trans z)
   have b:valueAt (q::qs) k=valueAt qs k:=by simp[valueAt,eJ,e']
   rw[mf e,b];exact ih
theorem KV.any{kvs:List (κ×V)}{vs:List (κ×ae)}(r:KV kvs vs)(k:κ):(kvs.any λkv=>decide (kv.1=k))=vs.any λkv=>decide (kv.1=k):=by
 unfold KV at r
 induction r with
 |nil=>rfl
 |cons h t ih=>rw[dX,dX,ih,h.1]
theorem KV.repl{kvs:List (κ×V)}{vs:List (κ×ae)}(r:KV kvs vs)(k:κ){y:V}{u:ae}(ry:RelV y u):
  KV (kvs.map λkv=>if kv.1=k then(kv.1,y)else kv) (vs.map λkv=>if kv.1=k then(kv.1,u)else kv):=by
 unfold KV at r⊢
 induction r with
 |nil=>exact .nil
 | @cons p q ps qs h t ih=>
  rw[aE,aE]
  refine .cons ?_ ih
  obtain⟨h1,h2⟩:=h
  by_cases e:p.1=k
  ·rw[if_pos e,if_pos (h1.symm.trans e)];exact⟨h1,ry⟩
  ·rw[if_neg e,if_neg (λz=>e (h1.trans z))];exact⟨h1,h2⟩
theorem KV.put{kvs:List (κ×V)}{vs:List (κ×ae)}(r:KV kvs vs)(k:κ){y:V}{u:ae}(ry:RelV y u):KV (jQ kvs k y) (stored vs k u):=by
 unfold jQ stored
 rw[r.any k]
 by_cases e:(vs.any λkv=>decide (kv.1=k))=true
 ·rw[if_pos e,if_pos e];exact r.repl k ry
 ·rw[if_neg e,if_neg e];exact Paired.snoc r ⟨rfl,ry⟩
theorem KV.keys{kvs:List (κ×V)}{vs:List (κ×ae)}(r:KV kvs vs):kvs.map (·.1)=vs.map (·.1):=by
 unfold KV at r
 induction r with
 |nil=>rfl
 |cons h t ih=>rw[aE,aE,ih,h.1]
theorem KV.length{kvs:List (κ×V)}{vs:List (κ×ae)}(r:KV kvs vs):kvs.length=vs.length:=Paired.length r
end
theorem vN{P:aI}{w:aY}{k:Key}{u:ae}(r:RelV (kV k) u):(mixKind P w).is k u=true:=by
 cases k with
 |inl i=>obtain⟨t,e⟩:=(show∃t,u=dB i t from r);subst e;exact vF P w i t
 |inr x=>obtain⟨t,e⟩:=(show∃t,u=iW x t from r);subst e;exact vE P w x t
theorem sy{P:aI}{w:aY}:∀{ks:List Key} {us:List ae},Vals (ks.map kV) us->ItemsAre (mixKind P w) ks us
 |[],_,r=>by rw[kQ]at r;cases r;exact .nil
 |k::ks,_,r=>by
  rw[aE]at r
  cases r with
  |cons h t=>exact .cons (vN h) (sy t)
noncomputable abbrev KT(H:Hp):List (List Key×V)->List (List Key×Addr×ae)->Prop:=Paired λp q=>p.1=q.1/\H q.2.1=some (.tup (p.1.map kV))/\RelV p.2 q.2.2
theorem KT.val{H:Hp}{kvs:List (List Key×V)}{xs:List (List Key×Addr×ae)}(r:KT H kvs xs)(k:List Key):RelO (o9 kvs k) ((atKey xs k).map (·.2)):=by
 induction r with
 |nil=>exact cz
 | @cons p q ps qs h t ih=>
  obtain⟨h1,_,h2⟩:=h
  by_cases e:p.1=k
  ·have e':q.1=k:=h1.symm.trans e
   have b:atKey (q::qs) k=some q.2:=by simp[atKey,eJ,e']
   rw[me e,b];exact h2
  ·have e':¬q.1=k:=λz=>e (h1.trans z)
   have b:atKey (q::qs) k=atKey qs k:=by simp[atKey,eJ,e']
   rw[mf e,b];exact ih
theorem KT.repl{H:Hp}{kvs:List (List Key×V)}{xs:List (List Key×Addr×ae)}(r:KT H kvs xs)(k:List Key){y:V}{u:ae}(ry:RelV y u):
  KT H (kvs.map λkv=>if kv.1=k then(kv.1,y)else kv) (xs.map (putAt k u)):=by
 induction r with
 |nil=>exact .nil
 | @cons p q ps qs h t ih=>
  rw[aE,aE]
  refine .cons ?_ ih
  obtain⟨h1,h2,h3⟩:=h
  unfold putAt
  by_cases e:p.1=k
  ·rw[if_pos e,if_pos (h1.symm.trans e)];exact⟨h1,h2,ry⟩
  ·rw[if_neg e,if_neg (λz=>e (h1.trans z))];exact⟨h1,h2,h3⟩
theorem KT.put{H:Hp}{kvs:List (List Key×V)}{xs:List (List Key×Addr×ae)}(r:KT H kvs xs)(k:List Key){b:Addr}{y:V}{u:ae}(hb:H b=some (.tup (k.map kV)))(ry:RelV y u):
  KT H (jQ kvs k y) (storedH xs k b u):=by
 have e:(kvs.any λkv=>decide (kv.1=k))=(atKey xs k).isSome:=by
  rw[uE,(r.val k).isSome_eq,Option.isSome_map]
 unfold jQ storedH
 rw[e]
 by_cases q:(atKey xs k).isSome=true
 ·rw[if_pos q,if_pos q];exact r.repl k ry
 ·rw[if_neg q,if_neg q];exact Paired.snoc r ⟨rfl,hb,ry⟩
theorem KT.keeps{H H':Hp}{kvs:List (List Key×V)}{xs:List (List Key×Addr×ae)}(r:KT H kvs xs)(ht:∀b ys,H b=some (.tup ys)->H' b=some (.tup ys)):KT H' kvs xs:=
 Paired.mapP r λ_ _ z=>⟨z.1,ht _ _ z.2.1,z.2.2⟩
section
variable{P:aI}{w:aY}{H:Hp}{h:Heap}{a:Addr}
theorem Hz{u:HO}(ok:HOk P w H h)(e:Rd H a u):ObjOk P w H h a u:=e.ok ok
theorem oQ{kvs:List (Key×V)}(ok:HOk P w H h)(e:Rd H a (.dK kvs)):kvs.length<=aK/\(a==eY)=false/\∃vs,KV kvs vs/\h.DictOf (mixKind P w) a vs:=
 show ObjOk P w H h a (.dK kvs)from Hz ok e
theorem DY{kvs:List (Key×V)}(ok:HOk P w H h)(e:H a=some (.dK kvs)):kvs.length<=aK/\(a==eY)=false/\∃vs,KV kvs vs/\h.DictOf (mixKind P w) a vs:=oQ ok (.inl e)
theorem tW{ks:List Key}(ok:HOk P w H h)(e:H a=some (.tup (ks.map kV))):(tupleKind (mixKind P w)).is h ks a:=by
 obtain⟨_,its,r,o,h1,h2,n,h3⟩:=(show ObjOk P w H h a (.tup (ks.map kV))from ok a _ e)
 exact⟨o,its.toArray,n,h1,h2,h3,by simpa using sy r⟩
theorem wb{kvs:List (List Key×V)}(ok:HOk P w H h)(e:Rd H a (.dT kvs)):kvs.length<=aK/\(a==eY)=false/\
  ∃xs,KT H kvs xs/\h.DictOfH (tupleKind (mixKind P w)) a xs:=by
 obtain⟨z,y,xs,r,o,es,ep,h1,h2,h3,h4,h5⟩:=(show ObjOk P w H h a (.dT kvs)from Hz ok e)
 refine⟨z,y,xs,r,o,es,ep,h1,h2,h3,h4,λx hx=> ?_,h5⟩
 have all:∀{l:List (List Key×V)} {m:List (List Key×Addr×ae)},KT H l m->∀x∈m,(tupleKind (mixKind P w)).is h x.1 x.2.1:=by
  intro l m q
  induction q with
  |nil=>intro x hx;exact nomatch hx
  | @cons p q ps qs hq t ih=>
   intro x hx
   rcases aD.mp hx with e|hx
   ·subst e
    exact tW ok (by rw[<-hq.1];exact hq.2.1)
   ·exact ih x hx
 exact all r x hx
theorem Ny{kvs:List (List Key×V)}(ok:HOk P w H h)(e:H a=some (.dT kvs)):kvs.length<=aK/\(a==eY)=false/\
  ∃xs,KT H kvs xs/\h.DictOfH (tupleKind (mixKind P w)) a xs:=wb ok (.inl e)
end
noncomputable def Ew(H:Hp)(a:Addr)(y:V)(r:Option V):Prop:=
 (∃kvs k,Rd H a (.dK kvs)/\y=kV k/\r=o9 kvs k)\/∃kvs k b,Rd H a (.dT kvs)/\y= .ref b/\H b=some (.tup (k.map kV))/\r=o9 kvs k
noncomputable def DPut(H:Hp)(a:Addr)(y v:V)(H':Hp):Prop:=
 (∃kvs k,H a=some (.dK kvs)/\y=kV k/\kvs.length<aK/\H'=upd H a (.dK (jQ kvs k v)))\/
 ∃kvs k b,H a=some (.dT kvs)/\y= .ref b/\H b=some (.tup (k.map kV))/\kvs.length<aK/\H'=upd H a (.dT (jQ kvs k v))
theorem DPut.k{H:Hp}{a:Addr}{kvs:List (Key×V)}{k:Key}{v:V}(e:H a=some (.dK kvs))(hl:kvs.length<aK):DPut H a (kV k) v (upd H a (.dK (jQ kvs k v))):= .inl ⟨kvs,k,e,rfl,hl,rfl⟩
section
variable{X:Cx}{pins:List (Addr×Obj)}{σ:St}{H:Hp}{s:ai}{a:Addr}{y v:V}{u r:ae}{o:Option V}{A:Around}{E:ae->ai->Prop}
theorem Inv.big(I:Inv X pins σ H s):eY<s.heap.objs.size:=by
 have h:bx<s.heap.objs.size:=(I.mod.glob.keeps I.bk).lt
 exact Nat.lt_trans (by decide) h
theorem A3{Q:ae->ai->Prop}(hu:A.units+1<gZ)(I:Inv X pins σ H s)(g:Ew H a y (some v))(ry:RelV y u)(h:∀w' s',Inv X pins σ H s'->RelV v w'->Q w' s'):
  wpAny (aQ X.prog X.w) A (jC (.ref a) u) Q E s:=by
 rcases g with⟨kvs,k,e,ey,l⟩|⟨kvs,k,b,e,ey,eb,l⟩
 ·subst ey
  obtain⟨z,hd,vs,rel,dd⟩:=oQ I.hok e
  obtain⟨w',hw,rw'⟩:=RelO.some_of (v:=v) (o:=valueAt vs k) (by rw[l];exact rel.val k)
  exact wpAny_getItem_of (vN ry) dd.mapOf hw (h w' _ (I.tok _) rw')
 ·subst ey
  cases (show u=aB b from ry)
  obtain⟨z,hd,xs,rel,dd⟩:=wb I.hok e
  obtain⟨w',hw,rw'⟩:=RelO.some_of (v:=v) (o:=(atKey xs k).map (·.2)) (by rw[l];exact rel.val k)
  obtain⟨p,hp,hp2⟩:=Option.map_eq_some_iff.mp hw
  refine wpAny_getItem_heap (rE hu) (tW I.hok eb) dd hp ?_
  rw[hp2]
  exact h w' _ (I.tok _) rw'
theorem mT{h':Heap}{t':Nat}{ob:HO}(I:Inv X pins σ H s)(mu:NM (H a))(hs:dW a s.heap h')(he:∃q,h'.get? a=some q)(new:ObjOk X.prog X.w (upd H a ob) h' a ob):
  Inv X pins σ (upd H a ob) {s with heap:=h',toks:=t'}:=
 I.write (x:=a) (e:=a) mu (.inl rfl) (λb q hb z=>(hs.2 b hb).trans z) he new
theorem uo{P:aI}{w:aY}{H':Hp}{h':Heap}{kvs:List (Key×V)}{vs:List (Key×ae)}(z:kvs.length<=aK)(hd:(a==eY)=false)(rel:KV kvs vs)(dd:h'.DictOf (mixKind P w) a vs):
  ObjOk P w H' h' a (.dK kvs):=⟨z,hd,vs,rel,dd⟩
theorem A1{H':Hp}{Q:Unit->ai->Prop}(hu:A.units+1<gZ)(I:Inv X pins σ H s)(g:DPut H a y v H')(ry:RelV y u)(rv:RelV v r)(h:∀s',Inv X pins σ H' s'->Q () s'):
  wpAny (aQ X.prog X.w) A (setItem (.ref a) u r) Q E s:=by
 rcases g with⟨kvs,k,e,ey,l,eH⟩|⟨kvs,k,b,e,ey,eb,l,eH⟩
 ·subst ey eH
  obtain⟨z,hd,vs,rel,dd⟩:=DY I.hok e
  have hz:vs.length<=aK:=by rw[<-rel.length];exact z
  have hl:(jQ kvs k v).length<=aK:=by have:=kl kvs k v;ac_nf
  refine wpAny_setItem_pairs (hsz:=hz) (vN ry) dd λh' dd' hs=>h _ ?_
  have he:∃q,h'.get? a=some q:=let⟨q,_,_,hq,_⟩:=dd';⟨q,hq⟩
  exact mT I (by rw[e];exact cz) hs he (uo hl hd (rel.put k rv) dd')
 ·subst ey eH
  cases (show u=aB b from ry)
  obtain⟨z,hd,xs,rel,dd⟩:=Ny I.hok e
  have hz:xs.length<=aK:=by rw[<-Paired.length rel];exact z
  have hl:(jQ kvs k v).length<=aK:=by have:=kl kvs k v;ac_nf
  refine wpAny_setItem_heap (hsz:=hz) (rE hu) (tW I.hok eb) dd λh' dd' hs=>h _ ?_
  obtain⟨q,es,ep,hq,h2,h3,h4,_,h5⟩:=dd'
  refine mT I (by rw[e];exact cz) hs ⟨q,hq⟩ ⟨hl,hd,_,(rel.put k eb rv).keeps λc ys ec=> ?_,q,es,ep,hq,h2,h3,h4,h5⟩
  rw[br (Mc ec e (λz=>nomatch z))]
  exact ec
end
section
end
noncomputable def K9(i:Expr):Prop:=∀ov iv,subscripted i false ov iv=operate [ov,iv] (jC ov iv)
theorem EJ{prog:aI}{w:aY}{A:Around}{E:ae->ai->Prop}{s:ai}{env:Env}{value slice:Expr}{pos:Pos}{T id:String}{Q:ae->ai->Prop}
  (hl:typeLookup (.type T) "__getitem__" =pure (some (.builtin id))) (hs:K9 slice)
  (h:wpAny (aQ prog w) A (eval value env) (λo s₁=>wpAny (aQ prog w) A (eval slice env) (λi s₂=>s₂.TypeIs o T/\wpAny (aQ prog w) A (jC o i) Q E s₂) E s₁) E s):
  wpAny (aQ prog w) A (eval (.Subscript value slice pos) env) Q E s:=by
 refine Subscript_ (bc h (λo s₁ h₁=>bc h₁ (λi s₂ h₂=> ?_) λ_ _ x=>x) λ_ _ x=>x)
 obtain⟨hT,h₂⟩:=h₂
 unfold subscriptTail
 refine aa ?_
 rw[getitemInPython_of_ne hT.not_modules]
 refine aa (wpAny_specialOf hT hl ?_)
 have fin:wpAny (aQ prog w) A (subscripted slice false o i) (λr s₃=>wpAny (aQ prog w) A (letTemporaryGo value o r>>=λ_=>pure r) Q E s₃) E s₂:=by
  rw[hs o i]
  exact wpAny_operating (bc h₂ (λr s₃ h₃=>aa (wpAny_letTemporaryGo (aA h₃))) λ_ _ x=>x)
 first
  |exact aA (aa fin)
  |exact aa (aA (aa fin))
  |exact aa fin
theorem we{X:Cx}{pins:List (Addr×Obj)}{σ:St}{H:Hp}{s:ai}{a:Addr}{y:V}{o:Option V}(I:Inv X pins σ H s)(g:Ew H a y o):s.TypeIs (.ref a) "dict" :=by
 rcases g with⟨kvs,k,e,_,_⟩|⟨kvs,k,b,e,_,_,_⟩
 ·obtain⟨_,_,vs,_,dd⟩:=oQ I.hok e
  exact dd.typeIs
 ·obtain⟨_,_,xs,_,dd⟩:=wb I.hok e
  exact dd.typeIs
noncomputable def Ly(td ty:TE):TE:=λσ H Q=>td σ H λx H1=>ty σ H1 λy H2=>∃a v,x= .ref a/\Ew H2 a y (some v)/\Q v H2
section
variable{X:Cx}{o i:Expr}{pos:Pos}{td ty:TE}
theorem Fo(hu:X.A.units+1<gZ)(ho:PE X o td)(hi:PE X i ty)(hs:K9 i):PE X (.Subscript o i pos) (Ly td ty):=by
 intro pins s σ H Q I h
 refine EJ PySem.F.slot_dict_getitem.lookup hs (dZ (ho pins s σ H _ I h) λu s1 ⟨x,H1,I1,rx,q1⟩=>dZ (hi pins s1 σ H1 _ I1 q1) λiv s2 ⟨y,H2,I2,ry,a,v,ex,g,q2⟩=> ?_)
 subst ex
 obtain rfl:u=aB a:=rx
 exact⟨we I2 g,A3 hu I2 g ry λw' s3 I3 rw'=>⟨v,H2,I3,rw',q2⟩⟩
end
theorem wd{P:aI}{w:aY}{H:Hp}(h:Heap)(hb:eY<h.objs.size):ObjOk P w H (h.push {cls:= .type "dict",data:= .dict #[]}) h.objs.size (.dK []):=
 ⟨bK _,beq_eq_false_iff_ne.mpr (aG (aU hb)),[],.nil,Heap.DictOf.new h⟩
noncomputable def Ih:TE:=λ_ H Q=>∀p,H p=none->Q (.ref p) (upd H p (.dK []))
section
variable{X:Cx}{pos:Pos}
theorem Cq:PE X (.Dict [] [] pos) Ih:=λpins s σ H Q I h=>
 wpAny_Dict_empty ⟨.ref s.heap.objs.size,_,I.laid (a:=s.heap.objs.size) (o:= .dK []) (t':=s.toks) (λ_ _ q=>ak _ q) (av _) (wd s.heap I.big),rfl,h _ (I.hok.fresh (av _))⟩
end
noncomputable def wW:List (TE×TE)->St->Hp->(List (V×V)->Hp->Prop)->Prop
 |[],_,H,Q=>Q [] H
 |(tk,tv)::r,σ,H,Q=>tk σ H λx H1=>tv σ H1 λy H2=>wW r σ H2 λps H3=>Q ((x,y)::ps) H3
noncomputable abbrev VV:List (V×V)->List (ae×ae)->Prop:=Paired λp q=>RelV p.1 q.1/\RelV p.2 q.2
noncomputable def NY(X:Cx)(pos:Pos)(keys:List (Option Expr))(values:List Expr)(bo:List (TE×TE)):Prop:=
 ∀(pins:List (Addr×Obj)) (s:ai) (σ:St) (H:Hp) (Q:List (V×V)->Hp->Prop),Inv X pins σ H s->wW bo σ H Q->
  wpAny (aQ X.prog X.w) X.A (evalPairs (pairTrees keys values X.env pos)) (λvs s'=>∃ps H',Inv X pins σ H' s'/\VV ps vs/\Q ps H') X.xe s
theorem Fa{X:Cx}{pos:Pos}:NY X pos [] [] []:=λpins s σ H Q I h=>pairTrees_nil_walk ⟨[],H,I,.nil,h⟩
theorem Cf{X:Cx}{pos:Pos}{k v:Expr}{ks:List (Option Expr)}{vs:List Expr}{tk tv:TE}{bo:List (TE×TE)}(hk:PE X k tk)(hv:PE X v tv)(hr:NY X pos ks vs bo):
  NY X pos (some k::ks) (v::vs) ((tk,tv)::bo):=λpins s σ H Q I h=>
 pairTrees_cons_walk (dZ (hk pins s σ H _ I h) λu s1 ⟨x,H1,I1,rx,q1⟩=>dZ (hv pins s1 σ H1 _ I1 q1) λw2 s2 ⟨y,H2,I2,ry,q2⟩=>
  dZ (hr pins s2 σ H2 _ I2 q2) λws s3 ⟨ps,H3,I3,rel,q3⟩=>⟨(x,y)::ps,H3,I3,.cons ⟨rx,ry⟩ rel,q3⟩)
noncomputable def jy(kvs more:List (Key×V)):List (Key×V):=more.foldl (λacc kv=>jQ acc kv.1 kv.2) kvs
theorem KV.merge:∀{more:List (Key×V)} {rs:List (Key×ae)} {kvs:List (Key×V)} {vs:List (Key×ae)},KV more rs->KV kvs vs->KV (jy kvs more) (merged vs rs):=by
 intro more rs kvs vs r
 unfold KV at r
 induction r generalizing kvs vs with
 |nil=>intro q;exact q
 | @cons p q ps qs h t ih=>
  intro r0
  have e:KV (jQ kvs p.1 p.2) (stored vs q.1 q.2):=by
   have:=r0.put p.1 h.2
   rw[<-h.1];exact this
  exact ih e
theorem i0:∀(more kvs:List (Key×V)),(jy kvs more).length<=kvs.length+more.length
 |[],kvs=>by show kvs.length<=kvs.length+0;ac_nf
 |p::r,kvs=>by
  have h1:=i0 r (jQ kvs p.1 p.2)
  have h2:=kl kvs p.1 p.2
  show(jy (jQ kvs p.1 p.2) r).length<=_
  rw[aT];ac_nf
theorem re{P:aI}{w:aY}:∀{kvs:List (Key×V)} {ws:List (ae×ae)},VV (kvs.map λkv=>(kV kv.1,kv.2)) ws->∃rs,Carries (mixKind P w) ws rs/\KV kvs rs
 |[],_,r=>by rw[kQ]at r;cases r;exact⟨[],cz,.nil⟩
 |p::kvs,_,r=>by
  rw[aE]at r
  cases r with
  | @cons a b as bs h t=>
   obtain⟨rs,c,q⟩:=re (P:=P) (w:=w) t
   obtain⟨b1,b2⟩:=b
   exact⟨(p.1,b2)::rs,⟨vN h.1,rfl,c⟩,.cons ⟨rfl,h.2⟩ q⟩
noncomputable def Lw(bo:List (TE×TE)):TE:=λσ H Q=>∀p,H p=none->wW bo σ (upd H p (.dK [])) λps H2=>H2 p=some (.dK [])/\∃kvs:List (Key×V),ps=kvs.map (λkv=>(kV kv.1,kv.2))/\kvs.length<=15/\Q (.ref p) (upd H2 p (.dK (jy [] kvs)))
theorem Fn{X:Cx}{pos:Pos}{keys:List (Option Expr)}{values:List Expr}{bo:List (TE×TE)}(h:NY X pos keys values bo)(hall:keys.all (·.isSome)=true)(hl:keys.length=values.length)(h0:keys≠[])
  (h15:keys.length<=15):PE X (.Dict keys values pos) (Lw bo):=by
 intro pins s σ H Q I q
 have hn:=I.hok.fresh (av s.heap.objs.size)
 have I1:=I.laid (a:=s.heap.objs.size) (o:= .dK []) (h':=s.heap.push {cls:= .type "dict",data:= .dict #[]}) (t':=s.toks) (λ_ _ q=>ak _ q) (av _) (wd s.heap I.big)
 refine wpAny_Dict_walk (knd:=mixKind X.prog X.w) hall hl h0 h15 (dZ (h pins _ σ _ _ I1 (q _ hn)) λws s2 hPl=> ?_)
 obtain⟨ps,H2,I2,rel,e,kvs,ep,lk,q2⟩:=hPl
 subst ep
 obtain⟨rs,c,rk⟩:=re (P:=X.prog) (w:=X.w) rel
 obtain⟨z,hd,vs0,r0,dd⟩:=DY I2.hok e
 cases r0
 refine⟨rs,c,dd,λh' dd' hs=>⟨.ref s.heap.objs.size,_,?_,rfl,q2⟩⟩
 have hz:(jy [] kvs).length<=aK:=by
  have h1:=i0 kvs []
  rw[List.length_nil]at h1
  rw[gA];ac_nf
 have he:∃q,h'.get? s.heap.objs.size=some q:=let⟨q,_,_,hq,_⟩:=dd';⟨q,hq⟩
 exact mT I2 (by rw[e];exact cz) hs he (uo hz hd (rk.merge .nil) dd')
structure M1(X:Cx)(o:Expr)(m:Str)(apos:Pos)(e:Expr)(cpos:Pos):Prop where
 base:cg o m X.env (eval o X.env)=eval o X.env
 few:((bB cpos (aq [e] X.env)).all (λx=> !x.1)&&(gB cpos (dO [] X.env)).all (λx=>x.1.isSome)
  &&decide (([e]:List Expr).length+([]:List fz).length+(if([]:List fz).isEmpty then 0 else 1)<30))=true
 line:(apos.endLine==cpos.line)=true
 trees:bB cpos (aq [e] X.env)=[(false,eval e X.env)]
structure M2(X:Cx)(o:Expr)(m:Str)(apos:Pos)(e f:Expr)(cpos:Pos):Prop where
 base:cg o m X.env (eval o X.env)=eval o X.env
 few:((bB cpos (aq [e,f] X.env)).all (λx=> !x.1)&&(gB cpos (dO [] X.env)).all (λx=>x.1.isSome)
  &&decide (([e,f]:List Expr).length+([]:List fz).length+(if([]:List fz).isEmpty then 0 else 1)<30))=true
 line:(apos.endLine==cpos.line)=true
 trees:bB cpos (aq [e,f] X.env)=[(false,eval e X.env),(false,eval f X.env)]
noncomputable def O5(H:Hp)(a:Addr):Prop:=(∃kvs,Rd H a (.dK kvs))\/∃kvs,Rd H a (.dT kvs)
theorem DF{X:Cx}{pins:List (Addr×Obj)}{σ:St}{H:Hp}{s:ai}{a:Addr}(I:Inv X pins σ H s)(d:O5 H a):
  s.TypeIs (.ref a) "dict" /\(∀b,aB a= .ref b->∃ob,s.heap.get? b=some ob/\ob.dict=none)/\(a==eY)=false:=by
 rcases d with⟨kvs,e⟩|⟨kvs,e⟩
 ·obtain⟨_,hd,vs,_,dd⟩:=oQ I.hok e
  refine⟨dd.typeIs,λb q=> ?_,hd⟩
  cases q
  obtain⟨ob,_,_,h1,h2,_⟩:=dd
  exact⟨ob,h1,h2.2.1⟩
 ·obtain⟨_,hd,xs,_,dd⟩:=wb I.hok e
  refine⟨dd.typeIs,λb q=> ?_,hd⟩
  cases q
  obtain⟨ob,_,_,h1,h2,_⟩:=dd
  exact⟨ob,h1,h2.2.1⟩
section
variable{X:Cx}{pins:List (Addr×Obj)}{σ:St}{H:Hp}{s:ai}{a:Addr}{y d:V}{u r:ae}{o:Option V}{A:Around}{E:ae->ai->Prop}
theorem KH{Q:ae->ai->Prop}(hu:A.units+1<gZ)(I:Inv X pins σ H s)(g:Ew H a y o)(ry:RelV y u)(rd:RelV d r)(h:∀w' s',Inv X pins σ H s'->RelV (o.getD d) w'->Q w' s'):
  wpAny (aQ X.prog X.w) A (call (.builtin "dict.get") [.ref a,u,r]) Q E s:=by
 rcases g with⟨kvs,k,e,ey,l⟩|⟨kvs,k,b,e,ey,eb,l⟩
 ·subst ey
  obtain⟨z,hd,vs,rel,dd⟩:=oQ I.hok e
  refine call_meetsIn PySem.F.slot_dict_get dd.typeIs PySem.F.entry_dict_get (PySem.F.args_dict_get_3 _ _ _) (meets_dict_get_default (mixKind X.prog X.w) a (vN ry) hd r) ⟨_,dd.mapOf,h _ _ (I.tok _) ?_⟩
  rw[l]
  exact(rel.val k).getD rd
 ·subst ey
  cases (show u=aB b from ry)
  obtain⟨z,hd,xs,rel,dd⟩:=wb I.hok e
  refine call_meetsIn PySem.F.slot_dict_get dd.typeIs PySem.F.entry_dict_get (PySem.F.args_dict_get_3 _ _ _) (meetsH_dict_get_default (tupleKind (mixKind X.prog X.w)) a b hd r) ⟨rE hu,k,xs,tW I.hok eb,dd,h _ _ (I.tok _) ?_⟩
  rw[l]
  exact(rel.val k).getD rd
end
noncomputable def Ii(td ty tx:TE):TE:=λσ H Q=>td σ H λx H1=>∃a,x= .ref a/\O5 H1 a/\ty σ H1 λy H2=>tx σ H2 λz H3=>∃o,Ew H3 a y o/\Q (o.getD z) H3
section
variable{X:Cx}{o e f:Expr}{apos cpos:Pos}{td ty tx:TE}
theorem Cr(hu:X.A.units+1<gZ)(ho:PE X o td)(he:PE X e ty)(hf:PE X f tx)(m:M2 X o "get" apos e f cpos):PE X (.Call (.Attribute o "get" apos) [e,f] [] cpos) (Ii td ty tx):=by
 intro pins s σ H Q I h
 refine wpAny_Call_method m.base m.few m.line PySem.F.plainAttrs_dict PySem.F.slot_dict_get PySem.F.type_dict_get (dZ (ho pins s σ H _ I h) λu s1 hPl=> ?_)
 obtain⟨x,H1,I1,rx,a,ex,d,q1⟩:=hPl
 subst ex
 obtain rfl:u=aB a:=rx
 obtain⟨t1,t2,_⟩:=DF I1 d
 refine⟨t1,t2,?_⟩
 rw[m.trees]
 refine hJ rfl (lU (i9 (dZ (he pins s1 σ H1 _ I1 q1) λiv s2 ⟨y,H2,I2,ry,q2⟩=>
  i9 (dZ (hf pins s2 σ H2 _ I2 q2) λfv s3 ⟨z,H3,I3,rz,ov,g,q3⟩=>pj ?_))))
 exact KH hu I3 g ry rz λw' s4 I4 rw'=>⟨_,H3,I4,rw',q3⟩
end
section
end
section
end
end L2
namespace L2
open PySem
section
end
section
variable{κ:Type}[DecidableEq κ]
end
end L2
namespace L3
open PySem L2
inductive PV where
 |non|bl (b:Bool)|int (i:Int)|str (x:Str)|tup (xs:List PV)|ref (a:Addr)|ty (n:String)|ro (xs:List PV)
inductive MO where
 |lst (xs:List PV)|rl (xs:List PV)|dK (kvs:List (Key×PV))|rng (lo hi:Int)|ins (C dx:Addr) (fs:List (Str×PV))|exc (C:Addr)|rd (kvs:List (Key×PV))
noncomputable abbrev Gp:=Addr->Option MO
noncomputable def up(G:Gp)(a:Addr)(o:MO):Gp:=λb=>if b=a then some o else G b
theorem ao{G:Gp}{a:Addr}{o:MO}:up G a o a=some o:=by unfold up;rw[if_pos rfl]
theorem aL{G:Gp}{a b:Addr}{o:MO}(h:b≠a):up G a o b=G b:=by unfold up;rw[if_neg h]
theorem fO{G:Gp}{a:Addr}{o u:MO}:up (up G a o) a u=up G a u:=by
 funext b;unfold up;split<;>rfl
theorem yk{G:Gp}{a:Addr}{o:MO}(h:G a=some o):up G a o=G:=by
 funext b;unfold up;split
 ·rename_i e;rw[e,h]
 ·rfl
noncomputable def FzL(K:PySem.W.Frag)(H:Hp)(a:Addr)(xs:List V):Prop:=
 (∃o,H a=some (.frz o (.lst xs)))\/∃(o:Obj) (its:Array ae) (n:Nat),K.lookup a=some o/\o.cls= .type "list" /\o.dict=none/\o.data= .seq its n/\its.size<=aK/\Vals xs its.toList
theorem FzL.sq{K:PySem.W.Frag}{H:Hp}{a:Addr}{xs:List V}(h:FzL K H a xs):SqL K H a xs:=by
 rcases h with⟨o,h⟩|h
 ·exact .inl (.inr ⟨o,h⟩)
 ·exact .inr h
mutual
noncomputable def Dv(K:PySem.W.Frag)(H:Hp):PV->V->Prop
 | .non,v=>v= .non
 | .bl b,v=>v= .bl b
 | .int i,v=>v= .int i
 | .str x,v=>v= .str x
 | .tup ps,v=>∃a vs,v= .ref a/\SqT K H a vs/\Dvs K H ps vs
 | .ref a,v=>v= .ref a
 | .ty n,v=>v= .ty n
 | .ro ps,v=>∃a vs,v= .ref a/\FzL K H a vs/\Dvs K H ps vs
noncomputable def Dvs(K:PySem.W.Frag)(H:Hp):List PV->List V->Prop
 |[],vs=>vs=[]
 |p::ps,vs=>∃v r,vs=v::r/\Dv K H p v/\Dvs K H ps r
end
noncomputable def Keep(K:PySem.W.Frag)(H H':Hp):Prop:=(∀a xs,SqT K H a xs->SqT K H' a xs)/\∀a o u,H a=some (.frz o u)->H' a=some (.frz o u)
section
variable{K:PySem.W.Frag}{H H' H1 H2:Hp}
theorem Keep.refl:Keep K H H:=⟨λ_ _ h=>h,λ_ _ _ h=>h⟩
theorem Keep.trans(a:Keep K H H1)(b:Keep K H1 H2):Keep K H H2:=⟨λc xs h=>b.1 c xs (a.1 c xs h),λc o u h=>b.2 c o u (a.2 c o u h)⟩
theorem mI{p:Addr}{o:HO}(h:∀xs,¬Rd H p (.tup xs))(hf:∀o u,H p≠some (.frz o u)):Keep K H (upd H p o):=⟨λa xs q=>by
 rcases q with q|q
 ·have ne:a≠p:=λz=>by subst z;exact h xs q
  refine .inl ?_
  rcases q with q|⟨o',q⟩
  ·exact .inl (by rw[br ne];exact q)
  ·exact .inr ⟨o',by rw[br ne];exact q⟩
 ·exact .inr q,λa o' u q=>by
 have ne:a≠p:=λz=>by subst z;exact hf o' u q
 rw[br ne];exact q⟩
theorem FzL.keep{a:Addr}{xs:List V}(k:Keep K H H')(h:FzL K H a xs):FzL K H' a xs:=by
 rcases h with⟨o,h⟩|h
 ·exact .inl ⟨o,k.2 _ _ _ h⟩
 ·exact .inr h
theorem bE{p:Addr}{o:HO}(h:H p=none):Keep K H (upd H p o):=mI (λxs q=>by
 rcases q with q|⟨o',q⟩<;>(rw[h]at q;cases q)) λo u q=>by rw[h]at q;cases q
theorem fH{p:Addr}{o:HO}{ys:List V}(h:H p=some (.lst ys)):Keep K H (upd H p o):=mI (λxs q=>by
 rcases q with q|⟨o',q⟩<;>(rw[h]at q;cases q)) λo u q=>by rw[h]at q;cases q
theorem kF{p:Addr}{o:HO}{ys:List (Key×V)}(h:H p=some (.dK ys)):Keep K H (upd H p o):=mI (λxs q=>by
 rcases q with q|⟨o',q⟩<;>(rw[h]at q;cases q)) λo u q=>by rw[h]at q;cases q
mutual
theorem Dv.keep(k:Keep K H H'):∀(p:PV) {v:V},Dv K H p v->Dv K H' p v
 | .non,_,h=>h
 | .bl _,_,h=>h
 | .int _,_,h=>h
 | .str _,_,h=>h
 | .tup ps,_,h=>by
  obtain⟨a,vs,e,q,r⟩:=h
  exact⟨a,vs,e,k.1 a vs q,Dvs.keep k ps r⟩
 | .ref _,_,h=>h
 | .ty _,_,h=>h
 | .ro ps,_,h=>by
  obtain⟨a,vs,e,q,r⟩:=h
  exact⟨a,vs,e,q.keep k,Dvs.keep k ps r⟩
theorem Dvs.keep(k:Keep K H H'):∀(ps:List PV) {vs:List V},Dvs K H ps vs->Dvs K H' ps vs
 |[],_,h=>h
 |p::ps,_,h=>by
  obtain⟨v,r,e,q,z⟩:=h
  exact⟨v,r,e,Dv.keep k p q,Dvs.keep k ps z⟩
end
theorem Dvs.length:∀{ps:List PV} {vs:List V},Dvs K H ps vs->vs.length=ps.length
 |[],_,h=>by rw[show _=[]from h];rfl
 |p::ps,_,h=>by
  obtain⟨v,r,rfl,_,z⟩:=h
  rw[aT,aT,Dvs.length z]
theorem Dvs.get:∀{ps:List PV} {vs:List V} {i:Nat} {v:V},Dvs K H ps vs->vs[i]? =some v->∃p,ps[i]? =some p/\Dv K H p v
 |[],_,i,v,h,e=>by rw[show _=[]from h]at e;simp at e
 |p::ps,_,0,v,h,e=>by
  obtain⟨v',r,rfl,q,z⟩:=h
  have:v'=v:=by simpa using e
  subst this
  exact⟨p,rfl,q⟩
 |p::ps,_,i+1,v,h,e=>by
  obtain⟨v',r,rfl,q,z⟩:=h
  obtain⟨p',e1,q1⟩:=Dvs.get (i:=i) z (by simpa using e)
  exact⟨p',by simpa using e1,q1⟩
theorem Dvs.at:∀{ps:List PV} {vs:List V} {i:Nat} {p:PV},Dvs K H ps vs->ps[i]? =some p->∃v,vs[i]? =some v/\Dv K H p v:=fun{ps vs i p} h e=>by
 have hl:=h.length
 have hi:i<vs.length:=by rw[hl];exact(am.mp e).1
 obtain⟨p',e',q⟩:=h.get (al hi)
 rw[e]at e';cases e'
 exact⟨_,al hi,q⟩
theorem Dvs.append:∀{ps qs:List PV} {vs us:List V},Dvs K H ps vs->Dvs K H qs us->Dvs K H (ps++qs) (vs++us)
 |[],_,_,_,h,g=>by rw[show _=[]from h];exact g
 |p::ps,_,_,_,h,g=>by
  obtain⟨v,r,rfl,q,z⟩:=h
  exact⟨v,r++_,rfl,q,Dvs.append z g⟩
theorem Dvs.nil:Dvs K H [] []:=rfl
theorem Dvs.cons{p:PV}{ps:List PV}{v:V}{vs:List V}(a:Dv K H p v)(b:Dvs K H ps vs):Dvs K H (p::ps) (v::vs):=⟨v,vs,rfl,a,b⟩
theorem Dvs.take:∀{ps:List PV} {vs:List V} (n:Nat),Dvs K H ps vs->Dvs K H (ps.take n) (vs.take n)
 |_,_,0,_=>rfl
 |[],_,n+1,h=>by rw[show _=[]from h];rfl
 |p::ps,_,n+1,h=>by
  obtain⟨v,r,rfl,q,z⟩:=h
  exact⟨v,_,rfl,q,Dvs.take n z⟩
theorem Dvs.drop:∀{ps:List PV} {vs:List V} (n:Nat),Dvs K H ps vs->Dvs K H (ps.drop n) (vs.drop n)
 |_,_,0,h=>h
 |[],_,n+1,h=>by rw[show _=[]from h];rfl
 |p::ps,_,n+1,h=>by
  obtain⟨v,r,rfl,q,z⟩:=h
  exact Dvs.drop n z
theorem Dvs.reverse:∀{ps:List PV} {vs:List V},Dvs K H ps vs->Dvs K H ps.reverse vs.reverse
 |[],_,h=>by rw[show _=[]from h];rfl
 |p::ps,_,h=>by
  obtain⟨v,r,rfl,q,z⟩:=h
  rw[eK,eK]
  exact(Dvs.reverse z).append (.cons q .nil)
theorem Dvs.set{p:PV}{v:V}(a:Dv K H p v):∀{ps:List PV} {vs:List V} (i:Nat),Dvs K H ps vs->Dvs K H (ps.set i p) (vs.set i v)
 |[],_,_,h=>by rw[show _=[]from h];rfl
 |q::ps,_,0,h=>by
  obtain⟨v',r,rfl,_,z⟩:=h
  exact⟨v,r,rfl,a,z⟩
 |q::ps,_,i+1,h=>by
  obtain⟨v',r,rfl,b,z⟩:=h
  exact⟨v',_,rfl,b,Dvs.set a i z⟩
end
noncomputable def DKv(K:PySem.W.Frag)(H:Hp):List (Key×PV)->List (Key×V)->Prop
 |[],vs=>vs=[]
 |(k,p)::ps,vs=>∃v r,vs=(k,v)::r/\Dv K H p v/\DKv K H ps r
noncomputable def DFv(K:PySem.W.Frag)(H:Hp):List (Str×PV)->List (Str×V)->Prop
 |[],vs=>vs=[]
 |(k,p)::ps,vs=>∃v r,vs=(k,v)::r/\Dv K H p v/\DFv K H ps r
noncomputable def RepO(K:PySem.W.Frag)(H:Hp)(a:Addr):MO->Prop
 | .lst ps=>∃vs,H a=some (.lst vs)/\Dvs K H ps vs
 | .rl ps=>∃vs,Rd H a (.lst vs)/\Dvs K H ps vs
 | .dK kvs=>∃vs,H a=some (.dK vs)/\DKv K H kvs vs
 | .rng lo hi=>H a=some (.rng lo hi)
 | .ins C dx fs=>∃vs,H a=some (.ins C dx vs)/\DFv K H fs vs
 | .exc C=>H a=some (vZ a C)
 | .rd kvs=>∃vs,Rd H a (.dK vs)/\DKv K H kvs vs
noncomputable def Rep(K:PySem.W.Frag)(H:Hp)(G:Gp):Prop:=∀a o,G a=some o->RepO K H a o
section
variable{K:PySem.W.Frag}{H H':Hp}{G G':Gp}{p:Addr}
theorem DKv.keep(k:Keep K H H'):∀(ps:List (Key×PV)) {vs:List (Key×V)},DKv K H ps vs->DKv K H' ps vs
 |[],_,h=>h
 |(x,p)::ps,_,h=>by
  obtain⟨v,r,e,q,z⟩:=h
  exact⟨v,r,e,Dv.keep k p q,DKv.keep k ps z⟩
theorem DFv.keep(k:Keep K H H'):∀(ps:List (Str×PV)) {vs:List (Str×V)},DFv K H ps vs->DFv K H' ps vs
 |[],_,h=>h
 |(x,p)::ps,_,h=>by
  obtain⟨v,r,e,q,z⟩:=h
  exact⟨v,r,e,Dv.keep k p q,DFv.keep k ps z⟩
theorem RepO.some{o:MO}(h:RepO K H p o):∃u,H p=some u:=by
 cases o with
 |lst ps=>obtain⟨vs,e,_⟩:=h;exact⟨_,e⟩
 |rl ps=>
  obtain⟨vs,e,_⟩:=h
  rcases e with e|⟨o,e⟩
  ·exact⟨_,e⟩
  ·exact⟨_,e⟩
 |dK ps=>obtain⟨vs,e,_⟩:=h;exact⟨_,e⟩
 |rng lo hi=>exact⟨_,h⟩
 |ins C dx fs=>obtain⟨vs,e,_⟩:=h;exact⟨_,e⟩
 |exc C=>exact⟨_,h⟩
 |rd ps=>
  obtain⟨vs,e,_⟩:=h
  rcases e with e|⟨o,e⟩
  ·exact⟨_,e⟩
  ·exact⟨_,e⟩
theorem Rep.none(r:Rep K H G)(h:H p=none):G p=none:=by
 cases e:G p with
 |none=>rfl
 |some o=>
  obtain⟨u,z⟩:=(r p o e).some
  rw[h]at z;cases z
theorem RepO.upd{a:Addr}{o:MO}{ho:HO}(k:Keep K H (upd H p ho))(ne:a≠p)(h:RepO K H a o):RepO K (L2.upd H p ho) a o:=by
 cases o with
 |lst ps=>obtain⟨vs,e,d⟩:=h;exact⟨vs,by rw[br ne];exact e,d.keep k⟩
 |rl ps=>
  obtain⟨vs,e,d⟩:=h
  refine⟨vs,?_,d.keep k⟩
  rcases e with e|⟨o,e⟩
  ·exact .inl (by rw[br ne];exact e)
  ·exact .inr ⟨o,by rw[br ne];exact e⟩
 |dK ps=>obtain⟨vs,e,d⟩:=h;exact⟨vs,by rw[br ne];exact e,d.keep k⟩
 |rng lo hi=>show L2.upd H p ho a=_;rw[br ne];exact h
 |ins C dx fs=>obtain⟨vs,e,d⟩:=h;exact⟨vs,by rw[br ne];exact e,DFv.keep k _ d⟩
 |exc C=>show L2.upd H p ho a=_;rw[br ne];exact h
 |rd ps=>
  obtain⟨vs,e,d⟩:=h
  refine⟨vs,?_,d.keep k⟩
  rcases e with e|⟨o,e⟩
  ·exact .inl (by rw[br ne];exact e)
  ·exact .inr ⟨o,by rw[br ne];exact e⟩
theorem Rep.upd{ho:HO}(r:Rep K H G)(k:Keep K H (upd H p ho))(hG:∀a o,G' a=some o->a≠p->G a=some o)(hp:∀o,G' p=some o->RepO K (L2.upd H p ho) p o):Rep K (L2.upd H p ho) G':=λa o e=>by
 by_cases hb:a=p
 ·subst hb;exact hp o e
 ·exact(r a o (hG a o e hb)).upd k hb
theorem Rep.tup{vs:List V}(r:Rep K H G)(h:H p=Option.none):Rep K (L2.upd H p (.tup vs)) G:=r.upd (bE h) (λ_ _ e _=>e) λo e=>by rw[r.none h]at e;cases e
theorem Rep.new{vs:List V}{ps:List PV}(r:Rep K H G)(h:H p=Option.none)(d:Dvs K H ps vs):Rep K (L2.upd H p (.lst vs)) (up G p (.lst ps)):=by
 refine r.upd (bE h) (λa o e ne=>by rw[aL ne]at e;exact e) λo e=> ?_
 rw[ao]at e;cases e
 exact⟨vs,cr,d.keep (bE h)⟩
theorem Rep.put{vs vs0:List V}{ps:List PV}(r:Rep K H G)(h:H p=jp (.lst vs0))(d:Dvs K H ps vs):Rep K (L2.upd H p (.lst vs)) (up G p (.lst ps)):=by
 refine r.upd (fH h) (λa o e ne=>by rw[aL ne]at e;exact e) λo e=> ?_
 rw[ao]at e;cases e
 exact⟨vs,cr,d.keep (fH h)⟩
theorem Rep.sub(r:Rep K H G)(h:∀a o,G' a=jp o->G a=jp o):Rep K H G':=λa o e=>r a o (h a o e)
theorem Rep.lst{ps:List PV}{a:Addr}(r:Rep K H G)(h:G a=jp (.lst ps)):∃vs,H a=jp (.lst vs)/\Dvs K H ps vs:=r a _ h
end
noncomputable abbrev jo:=List (Option PV)
noncomputable abbrev K2:=PV->Gp->Prop
noncomputable abbrev E2:=jo->Gp->K2->Prop
noncomputable abbrev T2:=jo->Gp->(Bool->Gp->Prop)->Prop
noncomputable abbrev A2:=jo->Gp->(List PV->Gp->Prop)->Prop
structure D2 where
 nx:jo->Gp->Prop
 rt:K2
 bk:jo->Gp->Prop:=λ_ _=>False
 ct:jo->Gp->Prop:=λ_ _=>False
noncomputable abbrev S2:=D2->jo->Gp->Prop
@[reducible] noncomputable def gt:jo->Nat->Option PV
 |[],_=>none
 |x::_,0=>x
 |_::r,n+1=>gt r n
@[reducible] noncomputable def st:jo->Nat->Option PV->jo
 |[],_,_=>[]
 |_::r,0,v=>v::r
 |x::r,n+1,v=>x::st r n v
theorem DK:∀(τ:jo) (i:Nat),gt τ i=(τ[i]?).getD none
 |[],i=>by simp[gt]
 |x::_,0=>by simp[gt]
 |_::r,n+1=>by simp[gt,DK r n]
theorem zD{τ:jo}{i:Nat}{p:PV}(h:gt τ i=some p):τ[i]? =some (some p):=by
 rw[DK]at h
 cases e:τ[i]? with
 |none=>rw[e]at h;cases h
 |some z=>rw[e]at h;exact congrArg some h
theorem wY:∀(τ:jo) (i:Nat) (v:Option PV),st τ i v=τ.set i v
 |[],_,_=>rfl
 |_::_,0,_=>rfl
 |x::r,n+1,v=>by simp[st,wY r n v]
noncomputable def RSt(K:PySem.W.Frag)(H:Hp)(σ:St)(τ:jo):Prop:=τ.length=σ.length/\∀(i:Nat) p,τ[i]? =some (some p)->∃v,σ[i]? =some (some v)/\Dv K H p v
theorem RSt.keep{K:PySem.W.Frag}{H H':Hp}{σ:St}{τ:jo}(r:RSt K H σ τ)(k:Keep K H H'):RSt K H' σ τ:=⟨r.1,λi p e=>let⟨v,a,b⟩:=r.2 i p e;⟨v,a,b.keep k⟩⟩
theorem RSt.set0{K:PySem.W.Frag}{H:Hp}{σ:St}{τ:jo}{p:PV}{v:V}(r:RSt K H σ τ)(d:Dv K H p v)(i:Nat):RSt K H (σ.set i (some v)) (τ.set i (some p)):=by
 refine⟨by simp[r.1],λj q e=> ?_⟩
 by_cases hj:i=j
 ·subst hj
  have hi:i<τ.length:=by
   have:=(am.mp e).1
   simpa using this
  rw[cE hi]at e
  cases e
  exact⟨v,by rw[cE (by rw[<-r.1];exact hi)],d⟩
 ·rw[cf hj]at e⊢
  exact r.2 j q e
theorem RSt.set{K:PySem.W.Frag}{H:Hp}{σ:St}{τ:jo}{p:PV}{v:V}(r:RSt K H σ τ)(d:Dv K H p v)(i:Nat):RSt K H (σ.set i (some v)) (st τ i (some p)):=by
 rw[wY];exact r.set0 d i
noncomputable def Cl(K:PySem.W.Frag)(H:Hp)(Q2:K2)(Q:VK):Prop:=∀p G v H',Q2 p G->Dv K H' p v->Rep K H' G->Keep K H H'->Q v H'
noncomputable def ClT(K:PySem.W.Frag)(H:Hp)(Q2:Bool->Gp->Prop)(Q:Bool->Hp->Prop):Prop:=∀b G H',Q2 b G->Rep K H' G->Keep K H H'->Q b H'
noncomputable def ClS(K:PySem.W.Frag)(H:Hp)(Q2:jo->Gp->Prop)(Q:St->Hp->Prop):Prop:=∀τ G σ H',Q2 τ G->RSt K H' σ τ->Rep K H' G->Keep K H H'->Q σ H'
theorem Cl.keep{K:PySem.W.Frag}{H H':Hp}{Q2:K2}{Q:VK}(c:Cl K H Q2 Q)(k:Keep K H H'):Cl K H' Q2 Q:=λp G v H2 q d r k2=>c p G v H2 q d r (k.trans k2)
theorem ClT.keep{K:PySem.W.Frag}{H H':Hp}{Q2:Bool->Gp->Prop}{Q:Bool->Hp->Prop}(c:ClT K H Q2 Q)(k:Keep K H H'):ClT K H' Q2 Q:=λp G H2 q r k2=>c p G H2 q r (k.trans k2)
theorem ClS.keep{K:PySem.W.Frag}{H H':Hp}{Q2:jo->Gp->Prop}{Q:St->Hp->Prop}(c:ClS K H Q2 Q)(k:Keep K H H'):ClS K H' Q2 Q:=λp G v H2 q d r k2=>c p G v H2 q d r (k.trans k2)
noncomputable def kX(K:PySem.W.Frag)(t:E2):TE:=λσ H Q=>∃τ G Q2,RSt K H σ τ/\Rep K H G/\t τ G Q2/\Cl K H Q2 Q
noncomputable def vH(K:PySem.W.Frag)(t:T2):TT:=λσ H Q=>∃τ G Q2,RSt K H σ τ/\Rep K H G/\t τ G Q2/\ClT K H Q2 Q
noncomputable def FJ(K:PySem.W.Frag)(t:A2):TA:=λσ H Q=>∃τ G Q2,RSt K H σ τ/\Rep K H G/\t τ G Q2/\∀ps G' vs H',Q2 ps G'->Dvs K H' ps vs->Rep K H' G'->Keep K H H'->Q vs H'
structure ClD(K:PySem.W.Frag)(H:Hp)(D2:D2)(D:Ends):Prop where
 nx:ClS K H D2.nx D.nx
 rt:Cl K H D2.rt D.rt
 bk:ClS K H D2.bk D.bk
 ct:ClS K H D2.ct D.ct
theorem ClD.keep{K:PySem.W.Frag}{H H':Hp}{Q2:L3.D2}{Q:Ends}(c:ClD K H Q2 Q)(k:Keep K H H'):ClD K H' Q2 Q:=⟨c.nx.keep k,c.rt.keep k,c.bk.keep k,c.ct.keep k⟩
noncomputable def Di(K:PySem.W.Frag)(t:S2):TS:=λD σ H=>∃τ G D2,RSt K H σ τ/\Rep K H G/\t D2 τ G/\ClD K H D2 D
structure JE(X:Cx)(e:Expr)(t:E2):Prop where
 h:PE X e (kX X.K t)
structure JT(X:Cx)(e:Expr)(t:T2):Prop where
 h:PT X e (vH X.K t)
structure JW(X:Cx)(e:Expr)(t:T2):Prop where
 h:PW X e (vH X.K t)
structure JA(X:Cx)(es:List Expr)(t:A2):Prop where
 h:PA X es (FJ X.K t)
structure JS(X:Cx)(st:Stmt)(t:S2):Prop where
 h:PS X st (Di X.K t)
structure JB(X:Cx)(st:List Stmt)(t:S2):Prop where
 h:PSs X st (Di X.K t)
section
variable{X:Cx}{e:Expr}
theorem JE.of{t:E2}{u:TE}(h:PE X e u)(w:∀σ H Q,kX X.K t σ H Q->u σ H Q):JE X e t:=⟨λpins s σ H Q I q=>h pins s σ H Q I (w σ H Q q)⟩
theorem JT.of{t:T2}{u:TT}(h:PT X e u)(w:∀σ H Q,vH X.K t σ H Q->u σ H Q):JT X e t:=⟨λpins s σ H Q I q=>h pins s σ H Q I (w σ H Q q)⟩
theorem JW.of{t:T2}{u:TT}(h:PW X e u)(w:∀σ H Q,vH X.K t σ H Q->u σ H Q):JW X e t:=⟨λwh pins s σ H Q I q=>h wh pins s σ H Q I (w σ H Q q)⟩
theorem JA.of{es:List Expr}{t:A2}{u:TA}(h:PA X es u)(w:∀σ H Q,FJ X.K t σ H Q->u σ H Q):JA X es t:=⟨λpos pins s σ H Q I q=>h pos pins s σ H Q I (w σ H Q q)⟩
theorem JS.of{st:Stmt}{t:S2}{u:TS}(h:PS X st u)(w:∀D σ H,Di X.K t D σ H->u D σ H):JS X st t:=⟨λpins s σ H D I q=>h pins s σ H D I (w D σ H q)⟩
theorem JB.of{st:List Stmt}{t:S2}{u:TS}(h:PSs X st u)(w:∀D σ H,Di X.K t D σ H->u D σ H):JB X st t:=⟨λpins s σ H D I q=>h pins s σ H D I (w D σ H q)⟩
end
noncomputable def o8(b:Bool)(A B:Prop):Prop:=match b with
 |true=>A
 |false=>B
theorem iU{c:Bool}{A B:Prop}(e:c=true)(h:A):o8 c A B:=by subst e;exact h
theorem ji{c:Bool}{A B:Prop}(e:c=false)(h:B):o8 c A B:=by subst e;exact h
theorem Nc{c:Bool}{A B:Prop}(h:c=true->A)(h2:c=false->B):o8 c A B:=by cases c with|true=>exact h rfl|false=>exact h2 rfl
noncomputable abbrev eV(i:Nat):E2:=λτ G Q=>match gt τ i with
 |some p=>Q p G
 |none=>False
noncomputable abbrev eC(p:PV):E2:=λ_ G Q=>Q p G
noncomputable abbrev pe:A2:=λ_ G Q=>Q [] G
noncomputable abbrev dQ(t:E2)(u:A2):A2:=λτ G Q=>t τ G λp G1=>u τ G1 λps G2=>Q (p::ps) G2
noncomputable abbrev OS(t:A2):E2:=λτ G Q=>t τ G λps G1=>ps.length<=1000/\Q (.tup ps) G1
noncomputable abbrev KD(t:A2):E2:=λτ G Q=>t τ G λps G1=>ps.length<=1000/\∀p,G1 p=none->Q (.ref p) (up G1 p (.lst ps))
noncomputable abbrev B2:=PV->PV->Gp->K2->Prop
noncomputable def fG(K:PySem.W.Frag)(r:B2):R2:=λx y H Q=>∃p q G Q2,Dv K H p x/\Dv K H q y/\Rep K H G/\r p q G Q2/\Cl K H Q2 Q
noncomputable abbrev jU(r:B2)(ta tb:E2):E2:=λτ G Q=>ta τ G λx G1=>tb τ G1 λy G2=>r x y G2 Q
noncomputable abbrev U2:=PV->Gp->K2->Prop
noncomputable def Mh(K:PySem.W.Frag)(r:U2):V->Hp->VK->Prop:=λx H Q=>∃p G Q2,Dv K H p x/\Rep K H G/\r p G Q2/\Cl K H Q2 Q
noncomputable abbrev eUn(r:U2)(ta:E2):E2:=λτ G Q=>ta τ G λx G1=>r x G1 Q
noncomputable abbrev C2:=List PV->Gp->K2->Prop
noncomputable def pc(K:PySem.W.Frag)(r:C2):List V->Hp->VK->Prop:=λxs H Q=>∃ps G Q2,Dvs K H ps xs/\Rep K H G/\r ps G Q2/\Cl K H Q2 Q
noncomputable abbrev v8(r:C2)(t:A2):E2:=λτ G Q=>t τ G λps G1=>r ps G1 Q
noncomputable abbrev M2:=PV->List PV->Gp->K2->Prop
noncomputable def vI(K:PySem.W.Frag)(r:M2):V->List V->Hp->VK->Prop:=λx xs H Q=>∃p ps G Q2,Dv K H p x/\Dvs K H ps xs/\Rep K H G/\r p ps G Q2/\Cl K H Q2 Q
noncomputable abbrev wB(t:E2):T2:=λτ G Q=>t τ G λx G1=>match x with
 | .bl b=>Q b G1
 |_=>False
noncomputable abbrev tNo(t:T2):T2:=λτ G Q=>t τ G λb G1=>Q (!b) G1
noncomputable abbrev N8(t u:T2):T2:=λτ G Q=>t τ G λb G1=>o8 b (Q true G1) (u τ G1 Q)
noncomputable abbrev Hm(t u:T2):T2:=λτ G Q=>t τ G λb G1=>o8 b (u τ G1 Q) (Q false G1)
noncomputable abbrev eNo(t:E2):E2:=λτ G Q=>t τ G λx G1=>match x with
 | .bl b=>Q (.bl (!b)) G1
 |_=>False
noncomputable abbrev Nx(t u:E2):E2:=λτ G Q=>t τ G λx G1=>match x with
 | .bl b=>o8 b (u τ G1 Q) (Q (.bl false) G1)
 |_=>False
noncomputable abbrev OU(c:T2)(t u:E2):E2:=λτ G Q=>c τ G λb G1=>o8 b (t τ G1 Q) (u τ G1 Q)
section
variable{X:Cx}{a b c e:Expr}{es:List Expr}{ta tb:E2}{t:A2}{tA tB:T2}{pos p:Pos}{x:Str}
theorem jv(i:Nat)(hN:X.N[i]? =some x:=by rfl)(hv:NX X.env.scope x:=by first|exact io rfl|exact gQ (io rfl)|exact gQ (gQ rfl))(hd:(x==("__debug__" :Str))=false:=by decide)
  (hcd:(x==("__classdict__" :Str))=false:=by decide):JE X (.Name x pos) (eV i):= .of (IP hN hv hd hcd) λσ H Q ⟨τ,G,Q2,rs,rp,h,cl⟩=>by
 unfold eV at h
 split at h
 ·rename_i p e
  obtain⟨v,ev,d⟩:=rs.2 i p (zD e)
  exact⟨v,ev,cl _ _ _ _ h d rp .refl⟩
 ·exact h.elim
theorem JE.const{p:PV}{v:V}(h:PE X e (tC v))(d:∀H,Dv X.K H p v):JE X e (eC p):= .of h λσ H Q hPl=>by obtain⟨τ,G,Q2,rs,rp,q,cl⟩:=hPl;exact cl _ _ _ _ q (d H) rp .refl
theorem MV{i:Int}{j:Nat}:JE X (.Constant (.int i) j pos) (eC (.int i)):= .const Co λ_=>rfl
theorem OI{v:Bool}{j:Nat}:JE X (.Constant (.bool v) j pos) (eC (.bl v)):= .const LR λ_=>rfl
theorem MI{z:Str}{j:Nat}:JE X (.Constant (.str z) j pos) (eC (.str z)):= .const IR λ_=>rfl
theorem DA{v:V}{q:PV}{u:ae}(hm:X.mg x=some u)(r:RelV v u)(d:∀H,Dv X.K H q v)(hg:Gl X x:=by rfl)(hd:(x==("__debug__" :Str))=false:=by decide):JE X (.Name x pos) (eC q):= .const (Fl hg hm r hd) d
theorem Gh{T:String}(hm:X.mg x=none)(hv:bY x=some (.type T))(hg:Gl X x:=by rfl)(hn:x≠ "__name__" :=by decide)(hd:(x==("__debug__" :Str))=false:=by decide):JE X (.Name x pos) (eC (.ty T)):=
 .const (Fs (v:= .ty T) hg hm hv rfl hn hd) λ_=>rfl
theorem Kf:JA X [] pe:= .of IY λσ H Q hPl=>by obtain⟨τ,G,Q2,rs,rp,q,cl⟩:=hPl;exact cl _ _ _ _ q .nil rp .refl
theorem Gg(ha:JE X e ta)(hr:JA X es t)(hs:aq (e::es) X.env=(false,eval e X.env)::aq es X.env:=by rfl):JA X (e::es) (dQ ta t):= .of (Fu ha.h hr.h hs) λσ H Q hPl=>by
 obtain⟨τ,G,Q2,rs,rp,q,cl⟩:=hPl
 refine⟨τ,G,_,rs,rp,q,λp G1 v H1 q1 d1 r1 k1=> ?_⟩
 exact⟨τ,G1,_,rs.keep k1,r1,q1,λps G2 vs H2 q2 d2 r2 k2=>cl _ _ _ _ q2 (.cons (d1.keep k2) d2) r2 (k1.trans k2)⟩
theorem MH{x1:Nat}(h:JA X es t):JE X (.Tuple es x1 pos) (OS t):= .of (IQ h.h) λσ H Q hPl=>by
 obtain⟨τ,G,Q2,rs,rp,q,cl⟩:=hPl
 refine⟨τ,G,_,rs,rp,q,λps G1 vs H1 q1 d1 r1 k1=> ?_⟩
 obtain⟨hl,q1⟩:=q1
 refine⟨by rw[d1.length];exact aO hl (by decide),λa ha=> ?_⟩
 have kn:Keep X.K H1 (upd H1 a (.tup vs)):=bE ha
 exact cl _ _ _ _ q1 ⟨a,vs,rfl,.of cr,d1.keep kn⟩ (r1.tup ha) (k1.trans kn)
theorem MN(h:JA X es t):JE X (.List es pos) (KD t):= .of (IU h.h) λσ H Q hPl=>by
 obtain⟨τ,G,Q2,rs,rp,q,cl⟩:=hPl
 refine⟨τ,G,_,rs,rp,q,λps G1 vs H1 q1 d1 r1 k1=> ?_⟩
 obtain⟨hl,q1⟩:=q1
 refine⟨by rw[d1.length];exact aO hl (by decide),λa ha=> ?_⟩
 have kn:Keep X.K H1 (upd H1 a (.lst vs)):=bE ha
 exact cl _ _ _ _ (q1 a (r1.none ha)) rfl (r1.new ha d1) (k1.trans kn)
theorem tS{r:B2}{σ:St}{H:Hp}{Q:VK}(q:kX X.K (jU r ta tb) σ H Q):Lq (fG X.K r) (kX X.K ta) (kX X.K tb) σ H Q:=by
 obtain⟨τ,G,Q2,rs,rp,q,cl⟩:=q
 refine⟨τ,G,_,rs,rp,q,λp G1 v H1 q1 d1 r1 k1=>⟨τ,G1,_,rs.keep k1,r1,q1,λp2 G2 v2 H2 q2 d2 r2 k2=> ?_⟩⟩
 exact⟨p,p2,G2,Q2,d1.keep k2,d2,r2,q2,cl.keep (k1.trans k2)⟩
theorem ua{op:jX}{r:B2}(ho:ic X (cK op) (fG X.K r))(ha:JE X a ta)(hb:JE X b tb):JE X (.BinOp a op b pos) (jU r ta tb):= .of (LP ho ha.h hb.h) λσ H Q q=>tS q
theorem HF{op:CmpOp}{r:B2}(ho:ic X (bQ op) (fG X.K r))(ha:JE X a ta)(hb:JE X b tb)(hm:g6 op b=false):JE X (.Compare a [op] [b] pos) (jU r ta tb):= .of (Fq ho ha.h hb.h hm) λσ H Q q=>tS q
theorem tR{u:TE}(w:∀σ H Q,kX X.K ta σ H Q->u σ H Q){σ:St}{H:Hp}{Q:Bool->Hp->Prop}(q:vH X.K (wB ta) σ H Q):BH u σ H Q:=by
 obtain⟨τ,G,Q2,rs,rp,q,cl⟩:=q
 refine w _ _ _ ⟨τ,G,_,rs,rp,q,λp G1 v H1 q1 d1 r1 k1=> ?_⟩
 cases p with
 |bl b=>
  obtain rfl:v= .bl b:=d1
  exact⟨b,rfl,cl _ _ _ q1 r1 k1⟩
 |_=>exact bN q1
theorem jB{op:CmpOp}{r:B2}(ho:ic X (bQ op) (fG X.K r))(ha:JE X a ta)(hb:JE X b tb)(hm:g6 op b=false):JT X (.Compare a [op] [b] pos) (wB (jU r ta tb)):= .of (E3 ho ha.h hb.h hm) λσ H Q q=>tR (λ_ _ _ z=>tS z) q
theorem JM(h:JE X e ta)(he:∀whole,isTrue e X.env whole=(do let v <-whole;standAt e.pos;holding [v] (truthy v)):=by intro _;rfl):JT X e (wB ta):= .of (ID h.h he) λσ H Q q=>tR (λ_ _ _ z=>z) q
theorem JN(ha:JT X a tA):JT X (.UnaryOp .Not a pos) (tNo tA):= .of (IE ha.h) λσ H Q hPl=>by obtain⟨τ,G,Q2,rs,rp,q,cl⟩:=hPl;exact⟨τ,G,_,rs,rp,q,λb G1 H1 q1 r1 k1=>cl _ _ _ q1 r1 k1⟩
theorem JK(ha:JT X a tA):JW X (.BoolOp .Or [a] pos) tA:=⟨IB ha.h⟩
theorem FL(ha:JT X a tA):JW X (.BoolOp .And [a] pos) tA:=⟨E1 ha.h⟩
theorem Mo{rest:List Expr}(ha:JT X a tA)(hb:JW X (.BoolOp .Or (b::rest) pos) tB):JW X (.BoolOp .Or (a::b::rest) pos) (N8 tA tB):= .of (LM ha.h hb.h) λσ H Q hPl=>by
 obtain⟨τ,G,Q2,rs,rp,q,cl⟩:=hPl
 refine⟨τ,G,_,rs,rp,q,λb G1 H1 q1 r1 k1=> ?_⟩
 cases b with
 |true=>exact ub (cl _ _ _ q1 r1 k1)
 |false=>exact uc ⟨τ,G1,Q2,rs.keep k1,r1,q1,cl.keep k1⟩
theorem JL{rest:List Expr}(ha:JT X a tA)(hb:JW X (.BoolOp .And (b::rest) pos) tB):JW X (.BoolOp .And (a::b::rest) pos) (Hm tA tB):= .of (IC ha.h hb.h) λσ H Q hPl=>by
 obtain⟨τ,G,Q2,rs,rp,q,cl⟩:=hPl
 refine⟨τ,G,_,rs,rp,q,λb G1 H1 q1 r1 k1=> ?_⟩
 cases b with
 |true=>exact ub ⟨τ,G1,Q2,rs.keep k1,r1,q1,cl.keep k1⟩
 |false=>exact uc (cl _ _ _ q1 r1 k1)
theorem JW.jt(h:JW X e tA):JT X e tA:=⟨h.h.pt⟩
theorem ML(ha:JE X a ta):JE X (.UnaryOp .Not a pos) (eNo ta):= .of (IT ha.h) λσ H Q hPl=>by
 obtain⟨τ,G,Q2,rs,rp,q,cl⟩:=hPl
 refine⟨τ,G,_,rs,rp,q,λp G1 v H1 q1 d1 r1 k1=> ?_⟩
 cases p with
 |bl b=>
  obtain rfl:v= .bl b:=d1
  exact⟨b,rfl,cl _ _ _ _ q1 rfl r1 k1⟩
 |_=>exact bN q1
theorem MK{op:BoolOp}(h:JE X a ta):JE X (.BoolOp op [a] pos) ta:=⟨IS h.h⟩
theorem MZ{rest:List Expr}(ha:JE X a ta)(hb:JE X (.BoolOp .And (b::rest) pos) tb):JE X (.BoolOp .And (a::b::rest) pos) (Nx ta tb):= .of (IX ha.h hb.h) λσ H Q hPl=>by
 obtain⟨τ,G,Q2,rs,rp,q,cl⟩:=hPl
 refine⟨τ,G,_,rs,rp,q,λp G1 v H1 q1 d1 r1 k1=> ?_⟩
 cases p with
 |bl b=>
  obtain rfl:v= .bl b:=d1
  refine⟨b,rfl,?_⟩
  cases b with
  |true=>exact ub ⟨τ,G1,Q2,rs.keep k1,r1,q1,cl.keep k1⟩
  |false=>exact uc (cl _ _ _ _ q1 rfl r1 k1)
 |_=>exact bN q1
theorem MX(hc:JT X c tA)(ha:JE X a ta)(hb:JE X b tb):JE X (.IfExp c a b pos) (OU tA ta tb):= .of (Cp hc.h ha.h hb.h) λσ H Q hPl=>by
 obtain⟨τ,G,Q2,rs,rp,q,cl⟩:=hPl
 refine⟨τ,G,_,rs,rp,q,λb G1 H1 q1 r1 k1=> ?_⟩
 cases b with
 |true=>exact ub ⟨τ,G1,Q2,rs.keep k1,r1,q1,cl.keep k1⟩
 |false=>exact uc ⟨τ,G1,Q2,rs.keep k1,r1,q1,cl.keep k1⟩
theorem OG{op:UnaryOp}{r:U2}(ho:NJ X (unaryOp op) (Mh X.K r))(ha:JE X a ta):JE X (.UnaryOp op a pos) (eUn r ta):= .of (HA ho ha.h) λσ H Q hPl=>by
 obtain⟨τ,G,Q2,rs,rp,q,cl⟩:=hPl
 exact⟨τ,G,_,rs,rp,q,λp G1 v H1 q1 d1 r1 k1=>⟨p,G1,Q2,d1,r1,q1,cl.keep k1⟩⟩
theorem OH{r:B2}(hr:Lh X (fG X.K r))(ha:JE X a ta)(hb:JE X b tb)(hs:uB b):JE X (.Subscript a b pos) (jU r ta tb):= .of (LQ hr ha.h hb.h hs) λσ H Q q=>tS q
theorem Dg{r:C2}{σ:St}{H:Hp}{Q:VK}(q:kX X.K (v8 r t) σ H Q):Oe (pc X.K r) (FJ X.K t) σ H Q:=by
 obtain⟨τ,G,Q2,rs,rp,q,cl⟩:=q
 exact⟨τ,G,_,rs,rp,q,λps G1 vs H1 q1 d1 r1 k1=>⟨ps,G1,Q2,d1,r1,q1,cl.keep k1⟩⟩
theorem kG{id:String}{r:C2}(hc:gx X (.builtin id) (pc X.K r))(hm:X.mg x=none)(hv:bY x=some (.builtin id))(ha:JA X (e::es) t)(hg:Gl X x:=by rfl)(hn:x≠ "__name__" :=by decide)(hdb:(x==("__debug__" :Str))=false:=by decide)
  (he:aq (e::es) X.env=(false,eval e X.env)::aq es X.env:=by rfl) (hpl:(bB pos (aq es X.env)).any (·.1)=false:=by rfl):JE X (.Call (.Name x p) (e::es) [] pos) (v8 r t):= .of (Cu hc hg hm hv ha.h hn hdb he hpl) λσ H Q q=>Dg q
theorem qO{T:String}{r:C2}(hc:gx X (.type T) (pc X.K r))(hm:X.mg x=none)(hv:bY x=some (.type T))(ha:JA X (e::es) t)(hg:Gl X x:=by rfl)(hn:x≠ "__name__" :=by decide)(hdb:(x==("__debug__" :Str))=false:=by decide)
  (he:aq (e::es) X.env=(false,eval e X.env)::aq es X.env:=by rfl) (hpl:(bB pos (aq es X.env)).any (·.1)=false:=by rfl):JE X (.Call (.Name x p) (e::es) [] pos) (v8 r t):= .of (Ak hc hg hm hv ha.h hn hdb he hpl) λσ H Q q=>Dg q
end
noncomputable abbrev vi:S2:=λD τ G=>D.nx τ G
noncomputable abbrev EQ(t u:S2):S2:=λD τ G=>t {D with nx:=u D} τ G
noncomputable abbrev Ac(t:E2):S2:=λD τ G=>t τ G D.rt
noncomputable abbrev LH(t:E2):S2:=λD τ G=>t τ G λ_ G1=>D.nx τ G1
noncomputable abbrev NR(c:T2)(t u:S2):S2:=λD τ G=>c τ G λb G1=>o8 b (t D τ G1) (u D τ G1)
noncomputable abbrev EB:=PV->jo->Gp->(jo->Gp->Prop)->Prop
noncomputable def Mj(K:PySem.W.Frag)(g:EB):TG:=λv σ H Q=>∃p τ G Q2,Dv K H p v/\RSt K H σ τ/\Rep K H G/\g p τ G Q2/\ClS K H Q2 Q
structure JG(X:Cx)(tg:Expr)(g:EB):Prop where
 h:PG X tg (Mj X.K g)
theorem JG.of{X:Cx}{tg:Expr}{g:EB}{u:TG}(h:PG X tg u)(w:∀v σ H Q,Mj X.K g v σ H Q->u v σ H Q):JG X tg g:=⟨λpins s σ H v z Q I r q=>h pins s σ H v z Q I r (w v σ H Q q)⟩
noncomputable abbrev gN(i:Nat):EB:=λp τ G Q=>Q (st τ i (some p)) G
noncomputable abbrev OQ(i j:Nat):EB:=λp τ G Q=>match p with
 | .tup [x,y]=>Q (st (st τ i (some x)) j (some y)) G
 |_=>False
noncomputable abbrev ES(t:E2)(g:EB):S2:=λD τ G=>t τ G λp G1=>g p τ G1 D.nx
section
variable{X:Cx}{a b c e tg:Expr}{ta:E2}{tA:T2}{pos p:Pos}{x:Str}{st:Stmt}{rest sa sb:List Stmt}{u v:S2}{g:EB}
theorem F0{i:Nat}(hN:X.N.Nodup)(hi:X.N[i]? =some x)(hx:zS X.env.scope x)(hf:X.fn x=true\/X.env.scope.names.lookup x=some .local:=by first|exact .inl rfl|exact .inr rfl|assumption):JG X (.Name x pos) (gN i):=
 .of (kD hN hi hx hf) λv σ H Q hPl=>by obtain⟨p,τ,G,Q2,d,rs,rp,q,cl⟩:=hPl;exact cl _ _ _ _ q (rs.set d i) rp .refl
theorem Dt{i j:Nat}{y:Str}{p1 p2:Pos}{k:Nat}(hc:X.calm=true)(hN:X.N.Nodup)(hi:X.N[i]? =some x)(hx:zS X.env.scope x)(hj:X.N[j]? =some y)(hy:zS X.env.scope y)
  (hf:X.fn x=true\/X.env.scope.names.lookup x=some .local:=by first|exact .inl rfl|exact .inr rfl|assumption) (hf2:X.fn y=true\/X.env.scope.names.lookup y=some .local:=by first|exact .inl rfl|exact .inr rfl|assumption):
  JG X (.Tuple [.Name x p1,.Name y p2] k pos) (OQ i j):=
 .of (Ck (n:=2) hc (mD (kD hN hi hx hf) (mD (kD hN hj hy hf2) zd)) (by rfl) (by rfl)) λv σ H Q hPl=>by
  obtain⟨p,τ,G,Q2,d,rs,rp,q,cl⟩:=hPl
  unfold OQ at q
  split at q
  ·rename_i p1 p2
   obtain⟨a,vs,rfl,sq,dv⟩:=d
   obtain⟨v1,r1,rfl,d1,dv⟩:=dv
   obtain⟨v2,r2,rfl,d2,dv⟩:=dv
   obtain rfl:r2=[]:=dv
   exact⟨a,[v1,v2],rfl,sq,rfl,v1,[v2],rfl,v2,[],rfl,rfl,cl _ _ _ _ q ((rs.set d1 i).set d2 j) rp .refl⟩
  ·exact q.elim
theorem ot(he:JE X e ta)(hg:JG X tg g)(hs:swapsWithSole [tg] e pos.line X.env=pure false:=by rfl)(hw:swappedStores [tg] e X.env=pure none:=by rfl)
  (h1:(jW [tg] X.env).map (·.2)=[assign tg X.env]:=by rfl):JS X (.Assign [tg] e pos) (ES ta g):= .of (IK he.h hg.h hs hw h1) λD σ H ⟨τ,G,D2,rs,rp,q,cl⟩=>by
 exact⟨τ,G,_,rs,rp,q,λp G1 v H1 q1 d1 r1 k1=>⟨p,τ,G1,D2.nx,d1,rs.keep k1,r1,q1,cl.nx.keep k1⟩⟩
theorem JP{i:Nat}{pos':Pos}(he:JE X e ta)(hN:X.N.Nodup)(hi:X.N[i]? =some x)(hx:zS X.env.scope x)(hs:gC e (some (.Name x pos')) pos.line X.env=pure false:=by rfl)
  (hf:X.fn x=true\/X.env.scope.names.lookup x=some .local:=by first|exact .inl rfl|exact .inr rfl|assumption):JS X (.Assign [.Name x pos'] e pos) (ES ta (gN i)):= .of (IF hN hi hx he.h hs hf) λD σ H ⟨τ,G,D2,rs,rp,q,cl⟩=>by
 exact⟨τ,G,_,rs,rp,q,λp G1 v H1 q1 d1 r1 k1=>cl.nx _ _ _ _ q1 ((rs.keep k1).set d1 i) r1 k1⟩
theorem FO(he:JE X e ta)(hs:gC e none pos.line X.env=pure false:=by rfl):JS X (.Expr e pos) (LH ta):= .of (E7 he.h hs) λD σ H hPl=>by
 obtain⟨τ,G,D2,rs,rp,q,cl⟩:=hPl
 exact⟨τ,G,_,rs,rp,q,λp G1 v H1 q1 d1 r1 k1=>cl.nx _ _ _ _ q1 (rs.keep k1) r1 k1⟩
theorem JQ(he:JE X e ta):JS X (.Return (some e) pos) (Ac ta):= .of (IG he.h) λD σ H hPl=>by obtain⟨τ,G,D2,rs,rp,q,cl⟩:=hPl;exact⟨τ,G,_,rs,rp,q,cl.rt⟩
theorem Mw(hc:JT X c tA)(ha:JB X sa u)(hb:JB X sb v):JS X (.If c sa sb pos) (NR tA u v):= .of (LN hc.h ha.h hb.h) λD σ H hPl=>by
 obtain⟨τ,G,D2,rs,rp,q,cl⟩:=hPl
 refine⟨τ,G,_,rs,rp,q,λb G1 H1 q1 r1 k1=> ?_⟩
 cases b with
 |true=>exact ub ⟨τ,G1,D2,rs.keep k1,r1,q1,cl.keep k1⟩
 |false=>exact uc ⟨τ,G1,D2,rs.keep k1,r1,q1,cl.keep k1⟩
theorem FN:JS X (.Pass pos) vi:= .of E6 λD σ H hPl=>by obtain⟨τ,G,D2,rs,rp,q,cl⟩:=hPl;exact cl.nx _ _ _ _ q rs rp .refl
theorem Kb:JB X [] vi:= .of E5 λD σ H hPl=>by obtain⟨τ,G,D2,rs,rp,q,cl⟩:=hPl;exact cl.nx _ _ _ _ q rs rp .refl
theorem Ka(h:JS X st u):JB X [st] u:=⟨E4 h.h⟩
theorem Ge{s2:Stmt}(h:JS X st u)(h2:JB X (s2::rest) v):JB X (st::s2::rest) (EQ u v):= .of (B9 h.h h2.h) λD σ H hPl=>by
 obtain⟨τ,G,D2,rs,rp,q,cl⟩:=hPl
 refine⟨τ,G,{D2 with nx:=v D2},rs,rp,q,⟨λτ1 G1 σ1 H1 q1 rs1 r1 k1=> ?_,cl.rt,cl.bk,cl.ct⟩⟩
 exact⟨τ1,G1,D2,rs1,r1,q1,cl.keep k1⟩
end
noncomputable abbrev yc:=PV->PV->PV->Gp->(Gp->Prop)->Prop
noncomputable def tT(K:PySem.W.Frag)(r:yc):yb:=λo i v H Q=>∃po pi pv G Q2,Dv K H po o/\Dv K H pi i/\Dv K H pv v/\Rep K H G/\r po pi pv G Q2/\∀G' H',Q2 G'->Rep K H' G'->Keep K H H'->Q H'
noncomputable def BS:yc:=λo i v G Q=>match o,i with
 | .ref a,.int k=>match G a with
  |some (.lst ps)=>match xK ps.length k with
   |some j=>Q (up G a (.lst (ps.set j v)))
   |none=>False
  |_=>False
 |_,_=>False
noncomputable abbrev Nk(to ti:E2)(r:yc):EB:=λp τ G Q=>to τ G λo G1=>ti τ G1 λi G2=>r o i p G2 λG3=>Q τ G3
theorem PSet.of{X:Cx}{t u:yb}(h:PSet X u)(w:∀o i v H Q,t o i v H Q->u o i v H Q):PSet X t:=λpins s σ H o i v ov iv z Q I r1 r2 r3 q=>h pins s σ H o i v ov iv z Q I r1 r2 r3 (w _ _ _ _ _ q)
theorem Hq{X:Cx}:PSet X (tT X.K BS):=PSet.of BR λo i v H Q hPl=>by
 obtain⟨po,pi,pv,G,Q2,d1,d2,d3,rp,q,cl⟩:=hPl
 unfold BS at q
 split at q
 ·rename_i a k
  split at q
  ·rename_i ps e
   split at q
   ·rename_i j ej
    obtain rfl:o= .ref a:=d1
    obtain rfl:i= .int k:=d2
    obtain⟨vs,hv,dv⟩:=rp.lst e
    refine⟨a,vs,k,j,rfl,rfl,hv,by rw[dv.length];exact ej,cl _ _ q (rp.put hv (dv.set d3 j)) (fH hv)⟩
   ·exact q.elim
  ·exact q.elim
 ·exact q.elim
noncomputable abbrev NG(i:Nat)(t:E2)(r:B2):S2:=λD τ G=>match gt τ i with
 |some x=>t τ G λy G1=>r x y G1 λz G2=>D.nx (st τ i (some z)) G2
 |none=>False
noncomputable abbrev NF(to ti te:E2)(rg r:B2)(rs:yc):S2:=λD τ G=>to τ G λo G1=>ti τ G1 λi G2=>rg o i G2 λx G3=>te τ G3 λy G4=>r x y G4 λz G5=>rs o i z G5 λG6=>D.nx τ G6
section
variable{X:Cx}{o i e:Expr}{to ti te:E2}{pos:Pos}{x:Str}
theorem qM{r:yc}(ho:JE X o to)(hi:JE X i ti)(hs:PSet X (tT X.K r))
  (ha:∀v,assign (.Subscript o i pos) X.env v=(do
   let ov <-holding [v] (eval o X.env)
   let iv <-holding [v,ov] (eval i X.env)
   standAt pos
   holding [v,ov,iv] (setItem ov iv v)
   release [v,ov,iv] []):=by intro _;rfl):JG X (.Subscript o i pos) (Nk to ti r):= .of (IL ho.h hi.h hs ha) λv σ H Q ⟨p,τ,G,Q2,d,rs,rp,q,cl⟩=>by
 refine⟨τ,G,_,rs,rp,q,λp1 G1 v1 H1 q1 d1 r1 k1=>⟨τ,G1,_,rs.keep k1,r1,q1,λp2 G2 v2 H2 q2 d2 r2 k2=> ?_⟩⟩
 exact⟨p1,p2,p,G2,_,d1.keep k2,d2,d.keep (k1.trans k2),r2,q2,λG3 H3 q3 r3 k3=>cl _ _ _ _ q3 (rs.keep ((k1.trans k2).trans k3)) r3 ((k1.trans k2).trans k3)⟩
theorem oq{n:Nat}{op:jX}{r:B2}{pos':Pos}(ho:Lg X op (fG X.K r))(he:JE X e te)(hN:X.N.Nodup)(hi:X.N[n]? =some x)(hx:zS X.env.scope x)(hf:X.fn x=true\/X.env.scope.names.lookup x=some .local:=by first|exact .inl rfl|exact .inr rfl|assumption):
  JS X (.AugAssign (.Name x pos') op e pos) (NG n te r):= .of (IJ hN hi hx he.h ho hf) λD σ H ⟨τ,G,D2,rs,rp,q,cl⟩=>by
 unfold NG at q
 split at q
 ·rename_i p ep
  obtain⟨v,ev,d⟩:=rs.2 n p (zD ep)
  refine⟨v,ev,τ,G,_,rs,rp,q,λp1 G1 v1 H1 q1 d1 r1 k1=> ?_⟩
  exact⟨p,p1,G1,_,d.keep k1,d1,r1,q1,λp2 G2 v2 H2 q2 d2 r2 k2=>cl.nx _ _ _ _ q2 ((rs.keep (k1.trans k2)).set d2 n) r2 (k1.trans k2)⟩
 ·exact q.elim
theorem FQ{op:jX}{rg r:B2}{rst:yc}{tpos:Pos}(hg:K8 X (fG X.K rg))(hp:Lg X op (fG X.K r))(hs:PSet X (tT X.K rst))(ho:JE X o to)(hi:JE X i ti)(he:JE X e te)
  (ha:∀ov iv new,augStore i ov iv new=(do holding [new,ov,iv] (setItem ov iv new);release [new,ov,iv] [];pure .next):=by intros;rfl):JS X (.AugAssign (.Subscript o i tpos) op e pos) (NF to ti te rg r rst):= .of (E9 ho.h hi.h hg he.h hp hs ha) λD σ H ⟨τ,G,D2,rs,rp,q,cl⟩=>by
 refine⟨τ,G,_,rs,rp,q,λp1 G1 v1 H1 q1 d1 r1 k1=>⟨τ,G1,_,rs.keep k1,r1,q1,λp2 G2 v2 H2 q2 d2 r2 k2=>⟨p1,p2,G2,_,d1.keep k2,d2,r2,q2,λp3 G3 v3 H3 q3 d3 r3 k3=>
  ⟨τ,G3,_,rs.keep ((k1.trans k2).trans k3),r3,q3,λp4 G4 v4 H4 q4 d4 r4 k4=>⟨p3,p4,G4,_,d3.keep k4,d4,r4,q4,λp5 G5 v5 H5 q5 d5 r5 k5=>⟨p1,p2,p5,G5,_,d1.keep (((k2.trans k3).trans k4).trans k5),d2.keep ((k3.trans k4).trans k5),d5,r5,q5,λG6 H6 q6 r6 k6=> ?_⟩⟩⟩⟩⟩⟩
 have kk:Keep X.K H H6:=((((k1.trans k2).trans k3).trans k4).trans k5).trans k6
 exact cl.nx _ _ _ _ q6 (rs.keep kk) r6 kk
end
noncomputable abbrev im:=List PV->Gp->K2->Prop
noncomputable def Hn(K:PySem.W.Frag)(sp:im):Sp:=λvs H Q _=>∃ps G Q2,Dvs K H ps vs/\Rep K H G/\sp ps G Q2/\Cl K H Q2 Q
@[reducible] noncomputable def gW:List Str->List PV->jo
 |[],_=>[]
 |_::N,p::ps=>some p::gW N ps
 |_::N,[]=>none::gW N []
theorem qh:∀N:List Str,gW N []=aj N.length none
 |[]=>rfl
 |_::N=>by simp[gW,qh N,bf]
theorem r9:∀(N:List Str) (ps:List PV),ps.length<=N.length->gW N ps=ps.map some++aj (N.length-ps.length) none
 |[],[],_=>rfl
 |[],_::_,h=>by simp at h
 |_::N,p::ps,h=>by
  simp only[gW,aE,aT,iu]
  rw[r9 N ps (by simpa using h)]
  simp
 |n::N,[],_=>by rw[qh];simp
theorem nQ{K:PySem.W.Frag}{H:Hp}{N:List Str}{ps:List PV}{vs:List V}(d:Dvs K H ps vs)(hN:ps.length<=N.length):RSt K H (L2.start N vs) (gW N ps):=by
 have hl:=d.length
 rw[r9 N ps hN]
 refine⟨by unfold L2.start;simp[hl],λi p e=> ?_⟩
 unfold L2.start
 by_cases hi:i<ps.length
 ·rw[c9 (by simpa using hi),aF]at e
  rw[c9 (by simpa [hl]using hi),aF]
  cases q:ps[i]? with
  |none=>rw[q]at e;cases e
  |some p'=>
   rw[q]at e
   have:p'=p:=by simpa using e
   subst this
   obtain⟨v,ev,dv⟩:=d.at q
   exact⟨v,by rw[ev];rfl,dv⟩
 ·rw[bX (by simpa using Nat.le_of_not_lt hi),j5]at e
  split at e<;>cases e
noncomputable def GE(G0 G:Gp):Prop:=∀a o,G0 a=some o->G a=some o
theorem GE.refl{G:Gp}:GE G G:=λ_ _ h=>h
theorem GE.trans{G0 G1 G2:Gp}(a:GE G0 G1)(b:GE G1 G2):GE G0 G2:=λc o h=>b c o (a c o h)
theorem GE.new{G0 G:Gp}{a:Addr}{o:MO}(h:GE G0 G)(n:G a=none):GE G0 (up G a o):=λb u q=>by
 have:b≠a:=λz=>by subst z;rw[h _ _ q]at n;cases n
 rw[aL this];exact h b u q
noncomputable abbrev iz(P:aI)(w:aY)(K:PySem.W.Frag)(mg:Str->Option ae)(base:Heap)(k:Nat)(f:Addr)(fd:aW)(ps:List Str)(sp:im):Prop:=FnOk P w K mg base Hf k f fd ps (Hn K sp)
structure dC(P:aI)(w:aY)(K:PySem.W.Frag)(mg:Str->Option ae)(base:Heap)(k:Nat)(x:Str)(f:Addr)(fd:aW)(ps:List Str)(sp:im):Prop where
 ok:iz P w K mg base k f fd ps sp
 b:Binds K fd ps []
 kp:PySem.W.keepIn K (.ref f)=true
 m:mg x=some (.ref f)
section
variable{P:aI}{w:aY}{K:PySem.W.Frag}{mg:Str->Option ae}{base:Heap}
theorem jY{x qual:Str}{st:Stmt}{f:Addr}{fd:aW}{N ps:List Str}{k:Nat}{sp:im}(F:Fun K x qual st f fd)(S:bj N ps (aM st))(len:∀vs G Q,sp vs G Q->vs.length=ps.length)
  (hbody:∀(cdv:ae) (A:Around) (outer:List Env) (s:ai) (H:Hp) (E:XK) (as:List PV) (G:Gp) (Q:K2),Room k (A.deeper (j3 qual (aM st) s.heap.objs.size f cdv))->sp as G Q->
   ∃t,JB (gO Hf P w K mg base N qual (aM st) f cdv A outer s H E).nox (ib st) t/\t {nx:=λ_ G'=>∃G0,GE G0 G'/\Q .non G0,rt:=λp G'=>∃G0,GE G0 G'/\Q p G0} (gW N as) G):iz P w K mg base (k+1) f fd ps sp:=by
 refine F.ok S (λvs H Q E h=> ?_) (λcdv A outer s H vs Q E hr h=> ?_)
 ·obtain⟨as,G,Q2,d,_,h,_⟩:=h
  rw[d.length];exact len _ _ _ h
 obtain⟨as,G,Q2,d,rp,h,cl⟩:=h
 obtain⟨t,j,q⟩:=hbody cdv A outer s H E as G Q2 hr h
 refine⟨_,j.h,gW N as,G,_,nQ d (by rw[len _ _ _ h,<-S.pre,bb];ac_nf),rp,q,⟨λτ G' σ H' ⟨G0,e0,q1⟩ _ r1 k1=>cl _ _ _ _ q1 rfl (r1.sub e0) k1,λp G' v H' ⟨G0,e0,q1⟩ d1 r1 k1=>cl _ _ _ _ q1 d1 (r1.sub e0) k1,λ_ _ _ _ q1=>q1.elim,λ_ _ _ _ q1=>q1.elim⟩⟩
end
noncomputable abbrev v9(sp:im)(t:A2):E2:=λτ G Q=>t τ G λps G1=>sp ps G1 Q
section
variable{X:Cx}{e:Expr}{es:List Expr}{t:A2}{pos p:Pos}{x:Str}
theorem Dh{sp:im}{σ:L2.St}{H:Hp}{Q:VK}(q:kX X.K (v9 sp t) σ H Q):Hl (Hn X.K sp) [] E0 (FJ X.K t) σ H Q:=by
 obtain⟨τ,G,Q2,rs,rp,q,cl⟩:=q
 refine⟨τ,G,_,rs,rp,q,λps G1 vs H1 q1 d1 r1 k1=> ?_⟩
 show Hn X.K sp (vs++[]) H1 Q E0
 rw[bz]
 exact⟨ps,G1,Q2,d1,r1,q1,cl.keep k1⟩
theorem MY{k k':Nat}{f:Addr}{fd:aW}{ps:List Str}{sp:im}(C:dC X.prog X.w X.K X.mg X.base k x f fd ps sp)(hr:Room k' X.A)(hk:k<=k')(ha:JA X (e::es) t)(hg:Gl X x:=by rfl)
  (hdb:(x==("__debug__" :Str))=false:=by decide) (he:aq (e::es) X.env=(false,eval e X.env)::aq es X.env:=by rfl) (hpl:(bB pos (aq es X.env)).any (·.1)=false:=by rfl):
  JE X (.Call (.Name x p) (e::es) [] pos) (v9 sp t):= .of (ze (C.ok.mono hk) hr hg C.m C.kp C.b .nil zf ha.h hdb he hpl) λσ H Q q=>Dh q
end
noncomputable abbrev Is(c:T2)(tb:S2):S2:=λD τ G=>∃W:Nat->jo->Gp->Prop,(∃m,W m τ G)/\∀m τ G,W m τ G->
 c τ G λb G1=>o8 b (tb {D with nx:=λτ' G'=>∃m',m'<m/\W m' τ' G',ct:=λτ' G'=>∃m',m'<m/\W m' τ' G',bk:=D.nx} τ G1) (D.nx τ G1)
section
variable{X:Cx}{c:Expr}{body:List Stmt}{tc:T2}{tb:S2}{pos:Pos}
theorem vO(hp:PassesOwn (aQ X.prog X.w) X.A X.env X.xe)(hc:JT X c tc)(hb:JB X body tb):JS X (.While c body [] pos) (Is tc tb):= .of (Ca hp hc.h hb.h) λD σ H ⟨τ,G,D2,rs,rp,⟨W,⟨m0,w0⟩,turn⟩,cl⟩=>by
 refine⟨λm σ' H'=>∃τ' G',W m τ' G'/\RSt X.K H' σ' τ'/\Rep X.K H' G'/\Keep X.K H H',⟨m0,τ,G,w0,rs,rp,.refl⟩,?_⟩
 rintro m σ1 H1 ⟨τ1,G1,w1,rs1,rp1,k1⟩
 refine⟨τ1,G1,_,rs1,rp1,turn m τ1 G1 w1,λb G2 H2 q2 r2 k2=> ?_⟩
 cases b with
 |false=>exact uc (cl.nx _ _ _ _ q2 (rs1.keep k2) r2 (k1.trans k2))
 |true=>
  refine ub ⟨λσ' H'=>∃τ' G',(∃m',m'<m/\W m' τ' G')/\RSt X.K H' σ' τ'/\Rep X.K H' G'/\Keep X.K H H',λσ' H' ⟨τ',G',⟨m',hm,w'⟩,a,b,c⟩=>⟨m',hm,τ',G',w',a,b,c⟩,?_⟩
  have kk:=k1.trans k2
  exact⟨τ1,G2,_,rs1.keep k2,r2,q2,⟨λτ' G' σ' H' q' a b c=>⟨τ',G',q',a,b,kk.trans c⟩,cl.rt.keep kk,cl.nx.keep kk,λτ' G' σ' H' q' a b c=>⟨τ',G',q',a,b,kk.trans c⟩⟩⟩
end
noncomputable abbrev rC:=jo->Gp->(List PV->(Gp->Prop)->Gp->Prop)->Prop
noncomputable def wx(K:PySem.W.Frag)(H1:Hp)(J:It)(items:List PV)(c:Gp->Prop):Prop:=∀(i:Nat) H G,Keep K H1 H->Rep K H G->c G->
 (i<items.length->J.go i H)/\(i=items.length->J.stop i H)/\∀x H',i<items.length->J.yld i H x H'->∃p,items[i]? =some p/\Keep K H H'/\Rep K H' G/\Dv K H' p x
noncomputable def FI(K:PySem.W.Frag)(t:rC):TI:=λσ H R=>∃τ G R2,RSt K H σ τ/\Rep K H G/\t τ G R2/\∀items c G' J H',R2 items c G'->Rep K H' G'->Keep K H H'->wx K H' J items c->R J H'
structure JI(X:Cx)(tg iter:Expr)(t:rC):Prop where
 h:PI X tg iter (FI X.K t)
theorem JI.of{X:Cx}{tg iter:Expr}{t:rC}{u:TI}(h:PI X tg iter u)(w:∀σ H R,FI X.K t σ H R->u σ H R):JI X tg iter t:=⟨λpins s σ H R I q=>h pins s σ H R I (w σ H R q)⟩
noncomputable abbrev Iy(ti:rC)(g:EB)(tb:S2):S2:=λD τ G=>ti τ G λitems c G1=>∃W:Nat->jo->Gp->Prop,W 0 τ G1/\(∀i τ G,i<=items.length->W i τ G->c G)/\
 (∀i x τ G,items[i]? =some x->W i τ G->g x τ G λτ' G'=>tb {D with nx:=W (i+1),ct:=W (i+1),bk:=D.nx} τ' G')/\∀τ G,W items.length τ G->D.nx τ G
section
variable{X:Cx}{tg iter:Expr}{body:List Stmt}{ti:rC}{g:EB}{tb:S2}{pos:Pos}
theorem Dq(hp:PassesOwn (aQ X.prog X.w) X.A X.env X.xe)(hc:X.calm=true)(hi:JI X tg iter ti)(hg:JG X tg g)(hb:JB X body tb)
  (hs:∀x,dU iter X.env x=pure x:=by intro _;rfl):JS X (.For tg iter body [] pos) (Iy ti g tb):= .of (IH hp hc hi.h hg.h hb.h hs) λD σ H ⟨τ,G,D2,rs,rp,q,cl⟩=>by
 refine⟨τ,G,_,rs,rp,q,λitems c G1 J H1 q1 r1 k1 ok=> ?_⟩
 obtain⟨W,w0,hcW,turn,done⟩:=q1
 refine⟨λi m σ' H'=>m=items.length-i/\i<=items.length/\∃τ' G',W i τ' G'/\RSt X.K H' σ' τ'/\Rep X.K H' G'/\Keep X.K H1 H',⟨_,rfl,bK _,τ,G1,w0,rs.keep k1,r1,.refl⟩,?_⟩
 rintro i m σ2 H2 ⟨rfl,hi,τ2,G2,w2,rs2,rp2,k2⟩
 obtain⟨o1,o2,o3⟩:=ok i H2 G2 k2 rp2 (hcW i τ2 G2 hi w2)
 by_cases hlt:i<items.length
 ·refine .inr ⟨o1 hlt,λσ' H'=>i+1<=items.length/\∃τ' G',W (i+1) τ' G'/\RSt X.K H' σ' τ'/\Rep X.K H' G'/\Keep X.K H1 H',λσ' H' ⟨hl,z⟩=>⟨items.length-(i+1),by ac_nf,rfl,hl,z⟩,λx H3 y=> ?_⟩
  obtain⟨p,ep,k3,r3,d3⟩:=o3 x H3 hlt y
  have k13:=k2.trans k3
  refine⟨p,τ2,G2,_,d3,rs2.keep k3,r3,turn i p τ2 G2 ep w2,λτ4 G4 σ4 H4 q4 rs4 r4 k4=> ?_⟩
  have k14:=k13.trans k4
  have k04:=k1.trans k14
  exact⟨τ4,G4,_,rs4,r4,q4,⟨λτ' G' σ' H' q' a b c=>⟨hlt,τ',G',q',a,b,k14.trans c⟩,cl.rt.keep k04,cl.nx.keep k04,λτ' G' σ' H' q' a b c=>⟨hlt,τ',G',q',a,b,k14.trans c⟩⟩⟩
 ·have e:i=items.length:=by ac_nf
  subst e
  exact .inl ⟨o2 rfl,cl.nx _ _ _ _ (done τ2 G2 w2) rs2 rp2 (k1.trans k2)⟩
end
mutual
noncomputable def i3:PV->PV->Bool
 | .non,.non=>true
 | .bl a,.bl b=>a==b
 | .bl a,.int b=>(if a then 1 else 0)==b
 | .int a,.bl b=>a==(if b then 1 else 0)
 | .int a,.int b=>a==b
 | .str a,.str b=>a==b
 | .tup xs,.tup ys=>iQ xs ys
 |_,_=>false
noncomputable def iQ:List PV->List PV->Bool
 |[],[]=>true
 |x::xs,y::ys=>i3 x y&&iQ xs ys
 |_,_=>false
end
mutual
noncomputable def c7:Nat->PV->Bool
 |_,.non=>true
 |_,.bl _=>true
 |_,.int _=>true
 |_,.str _=>true
 |n+1,.tup xs=>dL n xs
 |_,_=>false
noncomputable def dL:Nat->List PV->Bool
 |_,[]=>true
 |n,x::xs=>c7 n x&&dL n xs
end
section
variable{X:Cx}{pins:List (Addr×Obj)}{σ:L2.St}{H:Hp}{s:ai}{K:PySem.W.Frag}
mutual
theorem vh(I:Inv X pins σ H s):∀(n m:Nat) (p q:PV) {v:V},Dv X.K H p v->Dv X.K H q v->c7 n p=true->c7 m q=true->i3 p q=true
 |n,m,.non,q,v,h1,h2,f1,f2=>by
  obtain rfl:v= .non:=h1
  cases q with
  |non=>rfl
  |tup qs=>obtain⟨a,vs,e,_⟩:=h2;cases e
  |ro qs=>cases m<;>cases f2
  |_=>first|cases (show _=_ from h2)|(cases m<;>cases f2)
 |n,m,.bl b,q,v,h1,h2,f1,f2=>by
  obtain rfl:v= .bl b:=h1
  cases q with
  |bl c=>cases (show V.bl b=V.bl c from h2);unfold i3;simp
  |tup qs=>obtain⟨a,vs,e,_⟩:=h2;cases e
  |ro qs=>cases m<;>cases f2
  |_=>first|cases (show _=_ from h2)|(cases m<;>cases f2)
 |n,m,.int b,q,v,h1,h2,f1,f2=>by
  obtain rfl:v= .int b:=h1
  cases q with
  |int c=>cases (show V.int b=V.int c from h2);unfold i3;simp
  |tup qs=>obtain⟨a,vs,e,_⟩:=h2;cases e
  |ro qs=>cases m<;>cases f2
  |_=>first|cases (show _=_ from h2)|(cases m<;>cases f2)
 |n,m,.str b,q,v,h1,h2,f1,f2=>by
  obtain rfl:v= .str b:=h1
  cases q with
  |str c=>cases (show V.str b=V.str c from h2);unfold i3;simp
  |tup qs=>obtain⟨a,vs,e,_⟩:=h2;cases e
  |ro qs=>cases m<;>cases f2
  |_=>first|cases (show _=_ from h2)|(cases m<;>cases f2)
 |n,m,.tup ps,q,v,h1,h2,f1,f2=>by
  obtain⟨a,vs,rfl,sq,d⟩:=h1
  cases q with
  |tup qs=>
   obtain⟨b,us,e,sq2,d2⟩:=h2
   cases e
   obtain rfl:=I.tuple_inj sq sq2
   cases n with
   |zero=>cases f1
   |succ n=>
    cases m with
    |zero=>cases f2
    |succ m=>
     unfold i3
     exact si I n m ps qs d d2 f1 f2
  |ref b=>cases m<;>cases f2
  |ty b=>cases m<;>cases f2
  |ro b=>cases m<;>cases f2
  |_=>cases (show _=_ from h2)
 |n,m,.ref a,q,v,h1,h2,f1,f2=>by cases n<;>cases f1
 |n,m,.ty a,q,v,h1,h2,f1,f2=>by cases n<;>cases f1
 |n,m,.ro a,q,v,h1,h2,f1,f2=>by cases n<;>cases f1
theorem si(I:Inv X pins σ H s):∀(n m:Nat) (ps qs:List PV) {vs:List V},Dvs X.K H ps vs->Dvs X.K H qs vs->dL n ps=true->dL m qs=true->iQ ps qs=true
 |n,m,[],qs,vs,h1,h2,f1,f2=>by
  obtain rfl:vs=[]:=h1
  cases qs with
  |nil=>rfl
  |cons q qs=>obtain⟨_,_,e,_⟩:=h2;cases e
 |n,m,p::ps,qs,vs,h1,h2,f1,f2=>by
  obtain⟨v,r,rfl,d,d'⟩:=h1
  cases qs with
  |nil=>cases (show _=_ from h2)
  |cons q qs=>
   obtain⟨_,_,e,d2,d2'⟩:=h2
   cases e
   unfold dL at f1 f2
   rw[aH]at f1 f2
   unfold iQ
   rw[vh I n m p q d d2 f1.1 f2.1,si I n m ps qs d' d2' f1.2 f2.2]
   rfl
end
noncomputable def wj(ps qs:List PV)(j:Nat):Bool:=match ps[j]?,qs[j]? with
 |some p,some q=>i3 p q
 |_,_=>true
theorem jG:∀(ps qs:List PV),ps.length=qs.length->(cV ps.length).all (wj ps qs)=iQ ps qs
 |[],[],_=>rfl
 |p::ps,q::qs,h=>by
  have ih:=jG ps qs (by simpa using h)
  unfold iQ
  rw[<-ih,aT,List.range_succ_eq_map,jO,List.all_map]
  rfl
 |[],_::_,h=>by simp at h
 |_::_,[],h=>by simp at h
theorem mQ:∀{ps qs:List PV},ps.length≠qs.length->iQ ps qs=false
 |[],[],h=>absurd rfl h
 |p::ps,q::qs,h=>by
  unfold iQ
  rw[mQ (ps:=ps) (qs:=qs) (λe=>h (by simp[e])),lY]
 |[],_::_,_=>rfl
 |_::_,[],_=>rfl
theorem qY(ps qs:List PV):((cV (min ps.length qs.length)).all (wj ps qs)&&ps.length==qs.length)=iQ ps qs:=by
 by_cases h:ps.length=qs.length
 ·rw[h,Nat.min_self,<-h,jG ps qs h];simp[h]
 ·rw[mQ h];simp[h]
noncomputable abbrev Eqd(A:Around)(s:ai)(v u:ae)(b:Bool):Prop:=SeqAt.EqAt A s v u b
mutual
theorem No(I:Inv X pins σ H s):∀(n m:Nat) (p q:PV) (A:Around) {x y:V} {v u:ae},Dv X.K H p x->RelV x v->Dv X.K H q y->RelV y u->c7 n p=true->c7 m q=true->A.units+n<gZ->Eqd A s v u (i3 p q)
 |n,m,.non,q,A,x,y,v,u,d1,r1,d2,r2,f1,f2,hu=>by
  obtain rfl:x= .non:=d1
  cases r1
  cases q with
  |non=>obtain rfl:y= .non:=d2;cases r2;exact SeqAt.EqAt.same _
  |bl b=>obtain rfl:y= .bl b:=d2;cases r2;exact SeqAt.EqAt.none_bool b
  |int b=>obtain rfl:y= .int b:=d2;obtain⟨t,rfl⟩:=r2;exact SeqAt.EqAt.none_int b t
  |str b=>obtain rfl:y= .str b:=d2;obtain⟨t,rfl⟩:=r2;exact SeqAt.EqAt.none_str b t
  |tup qs=>
   obtain⟨a,vs,rfl,sq,dd⟩:=d2
   cases r2
   obtain⟨its,rv,pl,_⟩:=I.tuple sq
   exact SeqAt.EqAt.none_tuple pl (by ac_nf)
  |ref b=>cases m<;>cases f2
  |ty b=>cases m<;>cases f2
  |ro b=>cases m<;>cases f2
 |n,m,.bl a,q,A,x,y,v,u,d1,r1,d2,r2,f1,f2,hu=>by
  obtain rfl:x= .bl a:=d1
  cases r1
  cases q with
  |non=>obtain rfl:y= .non:=d2;cases r2;exact SeqAt.EqAt.bool_none a
  |bl b=>obtain rfl:y= .bl b:=d2;cases r2;exact SeqAt.EqAt.bool_bool a b
  |int b=>obtain rfl:y= .int b:=d2;obtain⟨t,rfl⟩:=r2;exact SeqAt.EqAt.bool_int a b t
  |str b=>obtain rfl:y= .str b:=d2;obtain⟨t,rfl⟩:=r2;exact SeqAt.EqAt.bool_str a b t
  |tup qs=>
   obtain⟨l,vs,rfl,sq,dd⟩:=d2
   cases r2
   obtain⟨its,rv,pl,_⟩:=I.tuple sq
   exact SeqAt.EqAt.bool_tuple a pl (by ac_nf)
  |ref b=>cases m<;>cases f2
  |ty b=>cases m<;>cases f2
  |ro b=>cases m<;>cases f2
 |n,m,.int a,q,A,x,y,v,u,d1,r1,d2,r2,f1,f2,hu=>by
  obtain rfl:x= .int a:=d1
  obtain⟨t',rfl⟩:=r1
  cases q with
  |non=>obtain rfl:y= .non:=d2;cases r2;exact SeqAt.EqAt.int_none a t'
  |bl b=>obtain rfl:y= .bl b:=d2;cases r2;exact SeqAt.EqAt.int_bool a t' b
  |int b=>obtain rfl:y= .int b:=d2;obtain⟨t,rfl⟩:=r2;exact SeqAt.EqAt.int_int a t' b t
  |str b=>obtain rfl:y= .str b:=d2;obtain⟨t,rfl⟩:=r2;exact lw a t' b t
  |tup qs=>
   obtain⟨l,vs,rfl,sq,dd⟩:=d2
   cases r2
   obtain⟨its,rv,pl,_⟩:=I.tuple sq
   exact SeqAt.EqAt.int_tuple a t' pl (by ac_nf)
  |ref b=>cases m<;>cases f2
  |ty b=>cases m<;>cases f2
  |ro b=>cases m<;>cases f2
 |n,m,.str a,q,A,x,y,v,u,d1,r1,d2,r2,f1,f2,hu=>by
  obtain rfl:x= .str a:=d1
  obtain⟨t',rfl⟩:=r1
  cases q with
  |non=>obtain rfl:y= .non:=d2;cases r2;exact SeqAt.EqAt.str_none a t'
  |bl b=>obtain rfl:y= .bl b:=d2;cases r2;exact SeqAt.EqAt.str_bool a t' b
  |int b=>obtain rfl:y= .int b:=d2;obtain⟨t,rfl⟩:=r2;exact lv a t' b t
  |str b=>obtain rfl:y= .str b:=d2;obtain⟨t,rfl⟩:=r2;exact SeqAt.EqAt.str_str a t' b t
  |tup qs=>
   obtain⟨l,vs,rfl,sq,dd⟩:=d2
   cases r2
   obtain⟨its,rv,pl,_⟩:=I.tuple sq
   exact SeqAt.EqAt.str_tuple a t' pl (by ac_nf)
  |ref b=>cases m<;>cases f2
  |ty b=>cases m<;>cases f2
  |ro b=>cases m<;>cases f2
 |n,m,.tup ps,q,A,x,y,v,u,d1,r1,d2,r2,f1,f2,hu=>by
  have dd1:=d1
  obtain⟨l,vs,rfl,sq,d⟩:=d1
  cases r1
  obtain⟨its,rv,pl,_⟩:=I.tuple sq
  cases q with
  |non=>obtain rfl:y= .non:=d2;cases r2;exact SeqAt.EqAt.tuple_none pl (by ac_nf)
  |bl b=>obtain rfl:y= .bl b:=d2;cases r2;exact SeqAt.EqAt.tuple_bool b pl (by ac_nf)
  |int b=>obtain rfl:y= .int b:=d2;obtain⟨t,rfl⟩:=r2;exact SeqAt.EqAt.tuple_int b t pl (by ac_nf)
  |str b=>obtain rfl:y= .str b:=d2;obtain⟨t,rfl⟩:=r2;exact SeqAt.EqAt.tuple_str b t pl (by ac_nf)
  |tup qs=>
   have dd2:=d2
   obtain⟨l2,us,rfl,sq2,d2⟩:=d2
   cases r2
   obtain⟨its2,rv2,pl2,_⟩:=I.tuple sq2
   by_cases hll:l=l2
   ·subst hll
    rw[vh I n m (.tup ps) (.tup qs) dd1 dd2 f1 f2]
    exact SeqAt.EqAt.same _
   ·cases n with
    |zero=>cases f1
    |succ n=>
     cases m with
     |zero=>cases f2
     |succ m=>
      refine SeqAt.EqAt.of_refs hll ?_
      have z:=SeqAt.RcAt.tuples (A:=A) (e:=wj ps qs) pl pl2 (by ac_nf) λj h1 h2=>sB I n m ps qs A.in1 d rv d2 rv2 f1 f2 (by rw[PySem.Around.in1_units];ac_nf) j h1 h2
      rw[aw,aw,<-rv.length,<-rv2.length,d.length,d2.length,qY]at z
      unfold i3
      exact z
  |ref b=>cases m<;>cases f2
  |ty b=>cases m<;>cases f2
  |ro b=>cases m<;>cases f2
 |n,m,.ref a,q,A,x,y,v,u,d1,r1,d2,r2,f1,f2,hu=>by cases n<;>cases f1
 |n,m,.ty a,q,A,x,y,v,u,d1,r1,d2,r2,f1,f2,hu=>by cases n<;>cases f1
 |n,m,.ro a,q,A,x,y,v,u,d1,r1,d2,r2,f1,f2,hu=>by cases n<;>cases f1
theorem sB(I:Inv X pins σ H s):∀(n m:Nat) (ps qs:List PV) (A:Around) {xs ys:List V} {vs us:List ae},Dvs X.K H ps xs->Vals xs vs->Dvs X.K H qs ys->Vals ys us->dL n ps=true->dL m qs=true->A.units+n<gZ->
  ∀(j:Nat) (h1:j<vs.toArray.size) (h2:j<us.toArray.size),Eqd A s vs.toArray[j] us.toArray[j] (wj ps qs j)
 |n,m,[],qs,A,xs,ys,vs,us,d1,r1,d2,r2,f1,f2,hu,j,h1,h2=>by
  obtain rfl:xs=[]:=d1
  cases r1
  simp at h1
 |n,m,p::ps,qs,A,xs,ys,vs,us,d1,r1,d2,r2,f1,f2,hu,j,h1,h2=>by
  obtain⟨x,xr,rfl,dx,d1⟩:=d1
  cases r1 with
  |cons rx r1=>
   cases qs with
   |nil=>
    obtain rfl:ys=[]:=d2
    cases r2
    simp at h2
   |cons q qs=>
    obtain⟨y,yr,rfl,dy,d2⟩:=d2
    cases r2 with
    |cons ry r2=>
     unfold dL at f1 f2
     rw[aH]at f1 f2
     cases j with
     |zero=>exact No I n m p q A dx rx dy ry f1.1 f2.1 hu
     |succ j=>exact sB I n m ps qs A d1 r1 d2 r2 f1.2 f2.2 hu j (by simpa using h1) (by simpa using h2)
end
end
theorem big{n:Nat}(h:n<=16000000):n<=aK:=aO h (by rw[gA];decide)
theorem zL{n:Nat}(h:n<=16000000):n<aK:=gP h (by rw[gA];decide)
noncomputable def lk(G:Gp)(a:Addr):Option (List PV):=match G a with
 |some (.lst ps)=>some ps
 |some (.rl ps)=>some ps
 |_=>none
theorem fP{K:PySem.W.Frag}{H:Hp}{G:Gp}{a:Addr}{ps:List PV}(r:Rep K H G)(h:lk G a=some ps):∃vs,SqL K H a vs/\Dvs K H ps vs:=by
 unfold lk at h
 split at h
 ·rename_i qs e;cases h
  obtain⟨vs,e1,d⟩:=r a _ e
  exact⟨vs,.of e1,d⟩
 ·rename_i qs e;cases h
  obtain⟨vs,e1,d⟩:=r a _ e
  exact⟨vs,.inl e1,d⟩
 ·cases h
noncomputable def Np:B2:=λp q G Q=>match p,q with
 | .ref a,.ref b=>match lk G a,lk G b with
  |some ps,some qs=>dL 100 ps=true/\dL 100 qs=true/\Q (.bl (iQ ps qs)) G
  |_,_=>False
 | .ref _,_=>False
 |_,.ref _=>False
 |p,q=>c7 100 p=true/\c7 100 q=true/\Q (.bl (i3 p q)) G
noncomputable def Le:B2:=λp q G Q=>match p,q with
 | .ref a,.ref b=>match lk G a,lk G b with
  |some ps,some qs=>dL 100 ps=true/\dL 100 qs=true/\Q (.bl (!iQ ps qs)) G
  |_,_=>False
 | .ref _,_=>False
 |_,.ref _=>False
 |p,q=>c7 100 p=true/\c7 100 q=true/\Q (.bl (!i3 p q)) G
section
variable{X:Cx}{pins:List (Addr×Obj)}{σ:L2.St}{H:Hp}{s:ai}
theorem Ol(I:Inv X pins σ H s)(p q:PV)(A:Around){x y:V}{v u:ae}(d1:Dv X.K H p x)(r1:RelV x v)(d2:Dv X.K H q y)(r2:RelV y u)(f1:c7 100 p=true)(f2:c7 100 q=true)(hu:A.units+101<gZ):SeqAt.RcAt A s v u (i3 p q):=by
 have hu':A.units<gZ:=by ac_nf
 cases p with
 |ref a=>cases f1
 |ty a=>cases f1
 |ro a=>cases f1
 |tup ps=>
  obtain⟨l,xs,rfl,sq,dd⟩:=d1
  cases r1
  obtain⟨its,rv,pl,_⟩:=I.tuple sq
  cases q with
  |ref a=>cases f2
  |ty a=>cases f2
  |ro a=>cases f2
  |tup qs=>
   obtain⟨l2,ys,rfl,sq2,dd2⟩:=d2
   cases r2
   obtain⟨its2,rv2,pl2,_⟩:=I.tuple sq2
   have z:=SeqAt.RcAt.tuples (A:=A) (e:=wj ps qs) pl pl2 hu' λj h1 h2=>sB I 99 99 ps qs A.in1 dd rv dd2 rv2 f1 f2 (by rw[PySem.Around.in1_units];ac_nf) j h1 h2
   rw[aw,aw,<-rv.length,<-rv2.length,dd.length,dd2.length,qY]at z
   unfold i3
   exact z
  |non=>obtain rfl:y= .non:=d2;cases r2;exact SeqAt.RcAt.tuple_none pl hu'
  |bl b=>obtain rfl:y= .bl b:=d2;cases r2;exact SeqAt.RcAt.tuple_bool b pl hu'
  |int b=>obtain rfl:y= .int b:=d2;obtain⟨t,rfl⟩:=r2;exact SeqAt.RcAt.tuple_int b t pl hu'
  |str b=>obtain rfl:y= .str b:=d2;obtain⟨t,rfl⟩:=r2;exact SeqAt.RcAt.tuple_str b t pl hu'
 |non=>
  obtain rfl:x= .non:=d1
  cases r1
  cases q with
  |ref a=>cases f2
  |ty a=>cases f2
  |ro a=>cases f2
  |tup qs=>
   obtain⟨l2,ys,rfl,sq2,dd2⟩:=d2
   cases r2
   obtain⟨its2,rv2,pl2,_⟩:=I.tuple sq2
   exact SeqAt.RcAt.none_tuple pl2 hu'
  |non=>obtain rfl:y= .non:=d2;cases r2;exact SeqAt.RcAt.none_none
  |bl b=>obtain rfl:y= .bl b:=d2;cases r2;exact SeqAt.RcAt.none_bool b
  |int b=>obtain rfl:y= .int b:=d2;obtain⟨t,rfl⟩:=r2;exact SeqAt.RcAt.none_int b t
  |str b=>obtain rfl:y= .str b:=d2;obtain⟨t,rfl⟩:=r2;exact SeqAt.RcAt.none_str b t
 |bl a=>
  obtain rfl:x= .bl a:=d1
  cases r1
  cases q with
  |ref a=>cases f2
  |ty a=>cases f2
  |ro a=>cases f2
  |tup qs=>
   obtain⟨l2,ys,rfl,sq2,dd2⟩:=d2
   cases r2
   obtain⟨its2,rv2,pl2,_⟩:=I.tuple sq2
   exact SeqAt.RcAt.bool_tuple a pl2 hu'
  |non=>obtain rfl:y= .non:=d2;cases r2;exact SeqAt.RcAt.bool_none a
  |bl b=>obtain rfl:y= .bl b:=d2;cases r2;exact SeqAt.RcAt.bool_bool a b
  |int b=>obtain rfl:y= .int b:=d2;obtain⟨t,rfl⟩:=r2;exact SeqAt.RcAt.bool_int a b t
  |str b=>obtain rfl:y= .str b:=d2;obtain⟨t,rfl⟩:=r2;exact SeqAt.RcAt.bool_str a b t
 |int a=>
  obtain rfl:x= .int a:=d1
  obtain⟨t',rfl⟩:=r1
  cases q with
  |ref a=>cases f2
  |ty a=>cases f2
  |ro a=>cases f2
  |tup qs=>
   obtain⟨l2,ys,rfl,sq2,dd2⟩:=d2
   cases r2
   obtain⟨its2,rv2,pl2,_⟩:=I.tuple sq2
   exact SeqAt.RcAt.int_tuple a t' pl2 hu'
  |non=>obtain rfl:y= .non:=d2;cases r2;exact SeqAt.RcAt.int_none a t'
  |bl b=>obtain rfl:y= .bl b:=d2;cases r2;exact SeqAt.RcAt.int_bool a t' b
  |int b=>obtain rfl:y= .int b:=d2;obtain⟨t,rfl⟩:=r2;exact SeqAt.RcAt.int_int a t' b t
  |str b=>obtain rfl:y= .str b:=d2;obtain⟨t,rfl⟩:=r2;exact SeqAt.RcAt.int_str a t' b t
 |str a=>
  obtain rfl:x= .str a:=d1
  obtain⟨t',rfl⟩:=r1
  cases q with
  |ref a=>cases f2
  |ty a=>cases f2
  |ro a=>cases f2
  |tup qs=>
   obtain⟨l2,ys,rfl,sq2,dd2⟩:=d2
   cases r2
   obtain⟨its2,rv2,pl2,_⟩:=I.tuple sq2
   exact SeqAt.RcAt.str_tuple a t' pl2 hu'
  |non=>obtain rfl:y= .non:=d2;cases r2;exact SeqAt.RcAt.str_none a t'
  |bl b=>obtain rfl:y= .bl b:=d2;cases r2;exact SeqAt.RcAt.str_bool a t' b
  |int b=>obtain rfl:y= .int b:=d2;obtain⟨t,rfl⟩:=r2;exact SeqAt.RcAt.str_int a t' b t
  |str b=>obtain rfl:y= .str b:=d2;obtain⟨t,rfl⟩:=r2;exact SeqAt.RcAt.str_str a t' b t
theorem IA(I:Inv X pins σ H s)(p q:PV)(A:Around){x y:V}{v u:ae}(d1:Dv X.K H p x)(r1:RelV x v)(d2:Dv X.K H q y)(r2:RelV y u)(f1:c7 100 p=true)(f2:c7 100 q=true)(hu:A.units+101<gZ):SeqAt.RcNeAt A s v u (!i3 p q):=by
 have hu':A.units<gZ:=by ac_nf
 cases p with
 |ref a=>cases f1
 |ty a=>cases f1
 |ro a=>cases f1
 |tup ps=>
  obtain⟨l,xs,rfl,sq,dd⟩:=d1
  cases r1
  obtain⟨its,rv,pl,_⟩:=I.tuple sq
  cases q with
  |ref a=>cases f2
  |ty a=>cases f2
  |ro a=>cases f2
  |tup qs=>
   obtain⟨l2,ys,rfl,sq2,dd2⟩:=d2
   cases r2
   obtain⟨its2,rv2,pl2,_⟩:=I.tuple sq2
   have z:=SeqAt.RcNeAt.tuples (A:=A) (e:=wj ps qs) pl pl2 hu' λj h1 h2=>sB I 99 99 ps qs A.in1 dd rv dd2 rv2 f1 f2 (by rw[PySem.Around.in1_units];ac_nf) j h1 h2
   rw[aw,aw,<-rv.length,<-rv2.length,dd.length,dd2.length,qY]at z
   unfold i3
   exact z
  |non=>obtain rfl:y= .non:=d2;cases r2;exact SeqAt.RcNeAt.tuple_none pl hu'
  |bl b=>obtain rfl:y= .bl b:=d2;cases r2;exact SeqAt.RcNeAt.tuple_bool b pl hu'
  |int b=>obtain rfl:y= .int b:=d2;obtain⟨t,rfl⟩:=r2;exact SeqAt.RcNeAt.tuple_int b t pl hu'
  |str b=>obtain rfl:y= .str b:=d2;obtain⟨t,rfl⟩:=r2;exact SeqAt.RcNeAt.tuple_str b t pl hu'
 |non=>
  obtain rfl:x= .non:=d1
  cases r1
  cases q with
  |ref a=>cases f2
  |ty a=>cases f2
  |ro a=>cases f2
  |tup qs=>
   obtain⟨l2,ys,rfl,sq2,dd2⟩:=d2
   cases r2
   obtain⟨its2,rv2,pl2,_⟩:=I.tuple sq2
   exact SeqAt.RcNeAt.none_tuple pl2 hu'
  |non=>obtain rfl:y= .non:=d2;cases r2;exact SeqAt.RcNeAt.none_none
  |bl b=>obtain rfl:y= .bl b:=d2;cases r2;exact SeqAt.RcNeAt.none_bool b
  |int b=>obtain rfl:y= .int b:=d2;obtain⟨t,rfl⟩:=r2;exact SeqAt.RcNeAt.none_int b t
  |str b=>obtain rfl:y= .str b:=d2;obtain⟨t,rfl⟩:=r2;exact SeqAt.RcNeAt.none_str b t
 |bl a=>
  obtain rfl:x= .bl a:=d1
  cases r1
  cases q with
  |ref a=>cases f2
  |ty a=>cases f2
  |ro a=>cases f2
  |tup qs=>
   obtain⟨l2,ys,rfl,sq2,dd2⟩:=d2
   cases r2
   obtain⟨its2,rv2,pl2,_⟩:=I.tuple sq2
   exact SeqAt.RcNeAt.bool_tuple a pl2 hu'
  |non=>obtain rfl:y= .non:=d2;cases r2;exact SeqAt.RcNeAt.bool_none a
  |bl b=>obtain rfl:y= .bl b:=d2;cases r2;exact SeqAt.RcNeAt.bool_bool a b
  |int b=>obtain rfl:y= .int b:=d2;obtain⟨t,rfl⟩:=r2;exact SeqAt.RcNeAt.bool_int a b t
  |str b=>obtain rfl:y= .str b:=d2;obtain⟨t,rfl⟩:=r2;exact SeqAt.RcNeAt.bool_str a b t
 |int a=>
  obtain rfl:x= .int a:=d1
  obtain⟨t',rfl⟩:=r1
  cases q with
  |ref a=>cases f2
  |ty a=>cases f2
  |ro a=>cases f2
  |tup qs=>
   obtain⟨l2,ys,rfl,sq2,dd2⟩:=d2
   cases r2
   obtain⟨its2,rv2,pl2,_⟩:=I.tuple sq2
   exact SeqAt.RcNeAt.int_tuple a t' pl2 hu'
  |non=>obtain rfl:y= .non:=d2;cases r2;exact SeqAt.RcNeAt.int_none a t'
  |bl b=>obtain rfl:y= .bl b:=d2;cases r2;exact SeqAt.RcNeAt.int_bool a t' b
  |int b=>obtain rfl:y= .int b:=d2;obtain⟨t,rfl⟩:=r2;exact SeqAt.RcNeAt.int_int a t' b t
  |str b=>obtain rfl:y= .str b:=d2;obtain⟨t,rfl⟩:=r2;exact SeqAt.RcNeAt.int_str a t' b t
 |str a=>
  obtain rfl:x= .str a:=d1
  obtain⟨t',rfl⟩:=r1
  cases q with
  |ref a=>cases f2
  |ty a=>cases f2
  |ro a=>cases f2
  |tup qs=>
   obtain⟨l2,ys,rfl,sq2,dd2⟩:=d2
   cases r2
   obtain⟨its2,rv2,pl2,_⟩:=I.tuple sq2
   exact SeqAt.RcNeAt.str_tuple a t' pl2 hu'
  |non=>obtain rfl:y= .non:=d2;cases r2;exact SeqAt.RcNeAt.str_none a t'
  |bl b=>obtain rfl:y= .bl b:=d2;cases r2;exact SeqAt.RcNeAt.str_bool a t' b
  |int b=>obtain rfl:y= .int b:=d2;obtain⟨t,rfl⟩:=r2;exact SeqAt.RcNeAt.str_int a t' b t
  |str b=>obtain rfl:y= .str b:=d2;obtain⟨t,rfl⟩:=r2;exact SeqAt.RcNeAt.str_str a t' b t
theorem Cw(hu:X.A.units+200<gZ):ic X (bQ .Eq) (fG X.K Np):=by
 intro pins s σ H x y v u Q I rx ry h
 obtain⟨p,q,G,Q2,d1,d2,rp,h,cl⟩:=h
 have fin:∀(f1:c7 100 p=true) (f2:c7 100 q=true),Q2 (.bl (i3 p q)) G->wpAny (aQ X.prog X.w) X.A (bQ .Eq v u) (EP X pins σ Q) X.xe s:=λf1 f2 hq=>
  Ol I p q X.A d1 rx d2 ry f1 f2 (by ac_nf) X.prog X.w X.xe _ ⟨.bl _,H,I,rfl,cl _ _ _ _ hq rfl rp .refl⟩
 unfold Np at h
 split at h
 ·rename_i a b
  split at h
  ·rename_i ps qs e1 e2
   obtain⟨f1,f2,hq⟩:=h
   obtain rfl:x= .ref a:=d1
   obtain rfl:y= .ref b:=d2
   cases rx
   cases ry
   obtain⟨xs,sa,da⟩:=fP rp e1
   obtain⟨ys,sb,db⟩:=fP rp e2
   obtain⟨us,r,pl,_⟩:=I.list sa
   obtain⟨ws,r',pl',_⟩:=I.list sb
   have l1:=r.length
   have l2:=r'.length
   have l3:=da.length
   have l4:=db.length
   by_cases hl:ps.length=qs.length
   ·refine SeqAt.eq_listAt (e:=wj ps qs) pl.isList pl'.isList (by simp;ac_nf) (by ac_nf) (λj h1 h2=>sB I 100 100 ps qs X.A.in1 da r db r' f1 f2 (by rw[PySem.Around.in1_units];ac_nf) j h1 h2) ⟨.bl (iQ ps qs),H,I,?_,cl _ _ _ _ hq rfl rp .refl⟩
    rw[aw,<-l1,l3,jG ps qs hl]
    rfl
   ·refine SeqAt.eq_list_lengthsAt pl.isList pl'.isList (by simp;ac_nf) (by ac_nf) ⟨.bl (iQ ps qs),H,I,?_,cl _ _ _ _ hq rfl rp .refl⟩
    rw[mQ hl]
    rfl
  ·exact h.elim
 ·exact h.elim
 ·exact h.elim
 ·obtain⟨f1,f2,hq⟩:=h
  exact fin f1 f2 hq
theorem Jc(hu:X.A.units+200<gZ):ic X (bQ .NotEq) (fG X.K Le):=by
 intro pins s σ H x y v u Q I rx ry h
 obtain⟨p,q,G,Q2,d1,d2,rp,h,cl⟩:=h
 have fin:∀(f1:c7 100 p=true) (f2:c7 100 q=true),Q2 (.bl (!i3 p q)) G->wpAny (aQ X.prog X.w) X.A (bQ .NotEq v u) (EP X pins σ Q) X.xe s:=λf1 f2 hq=>
  IA I p q X.A d1 rx d2 ry f1 f2 (by ac_nf) X.prog X.w X.xe _ ⟨.bl _,H,I,rfl,cl _ _ _ _ hq rfl rp .refl⟩
 unfold Le at h
 split at h
 ·rename_i a b
  split at h
  ·rename_i ps qs e1 e2
   obtain⟨f1,f2,hq⟩:=h
   obtain rfl:x= .ref a:=d1
   obtain rfl:y= .ref b:=d2
   cases rx
   cases ry
   obtain⟨xs,sa,da⟩:=fP rp e1
   obtain⟨ys,sb,db⟩:=fP rp e2
   obtain⟨us,r,pl,_⟩:=I.list sa
   obtain⟨ws,r',pl',_⟩:=I.list sb
   have l1:=r.length
   have l2:=r'.length
   have l3:=da.length
   have l4:=db.length
   by_cases hl:ps.length=qs.length
   ·refine SeqAt.RcNeAt.lists (e:=wj ps qs) pl.isList pl'.isList (by simp;ac_nf) (by ac_nf) (λj h1 h2=>sB I 100 100 ps qs X.A.in1 da r db r' f1 f2 (by rw[PySem.Around.in1_units];ac_nf) j h1 h2) _ _ _ _ ⟨.bl (!iQ ps qs),H,I,?_,cl _ _ _ _ hq rfl rp .refl⟩
    rw[aw,<-l1,l3,jG ps qs hl]
    rfl
   ·refine SeqAt.RcNeAt.lists_lengths pl.isList pl'.isList (by simp;ac_nf) (by ac_nf) _ _ _ _ ⟨.bl (!iQ ps qs),H,I,?_,cl _ _ _ _ hq rfl rp .refl⟩
    rw[mQ hl]
    rfl
  ·exact h.elim
 ·exact h.elim
 ·exact h.elim
 ·obtain⟨f1,f2,hq⟩:=h
  exact fin f1 f2 hq
end
theorem Kr{K:PySem.W.Frag}{H1:Hp}{a:Addr}{vs:List V}{ps:List PV}(sq:SqT K H1 a vs)(d:Dvs K H1 ps vs):wx K H1 (Itt K a) ps (λ_=>True):=λi H G k r _=>by
 have sq':=k.1 a vs sq
 have d':=d.keep k
 refine⟨λhi=> ?_,λhi=>⟨vs,sq',by rw[d.length];ac_nf⟩,λx H' hi y=> ?_⟩
 ·obtain⟨v,e,_⟩:=d'.at (al hi)
  exact⟨vs,v,sq',e⟩
 ·obtain⟨rfl,y⟩:=y
  obtain⟨p,e,dp⟩:=d'.get (y vs sq')
  exact⟨p,e,.refl,r,dp⟩
theorem DD{K:PySem.W.Frag}{H1:Hp}{a:Addr}{ps:List PV}:wx K H1 (O3 K a) ps (λG=>lk G a=some ps):=λi H G k r c=>by
 obtain⟨vs,sq',d'⟩:=fP r c
 refine⟨λhi=> ?_,λhi=>⟨vs,sq',by rw[d'.length];ac_nf⟩,λx H' hi y=> ?_⟩
 ·obtain⟨v,e,_⟩:=d'.at (al hi)
  exact⟨vs,v,sq',e⟩
 ·obtain⟨rfl,y⟩:=y
  obtain⟨p,e,dp⟩:=d'.get (y vs sq')
  exact⟨p,e,.refl,r,dp⟩
noncomputable def nY(z:Str):List PV:=z.cps.toList.map λc=> .str ⟨#[c]⟩
theorem Ks{K:PySem.W.Frag}{H1:Hp}(z:Str):wx K H1 (N0 z) (nY z) (λ_=>True):=λi H G k r _=>by
 have hl:(nY z).length=z.cps.size:=by unfold nY;simp
 refine⟨λhi=> ?_,λhi=> ?_,λx H' hi y=> ?_⟩
 ·show i<z.cps.size
  ac_nf
 ·show z.cps.size<=i
  ac_nf
 ·obtain⟨rfl,c,e,rfl⟩:=y
  refine⟨.str ⟨#[c]⟩,?_,.refl,r,rfl⟩
  unfold nY
  rw[aF]
  have:z.cps.toList[i]? =some c:=by simpa using e
  rw[this];rfl
noncomputable def ir(lo:Int)(n:Nat):List PV:=(cV n).map fun(i:Nat)=> .int (lo+i)
theorem DC{K:PySem.W.Frag}{H1:Hp}(lo:Int)(n:Nat):wx K H1 (NO lo n) (ir lo n) (λ_=>True):=λi H G k r _=>by
 have hl:(ir lo n).length=n:=by unfold ir;simp
 refine⟨λhi=> ?_,λhi=> ?_,λx H' hi y=> ?_⟩
 ·show i<n
  ac_nf
 ·show n<=i
  ac_nf
 ·obtain⟨rfl,rfl⟩:=y
  refine⟨.int (lo+i),?_,.refl,r,rfl⟩
  unfold ir
  rw[aF,cX (by ac_nf)]
  rfl
noncomputable abbrev OK(t:E2):rC:=λτ G R=>t τ G λp G1=>match p with
 | .tup ps=>R ps (λ_=>True) G1
 | .ref a=>match lk G1 a with
  |some ps=>R ps (λG=>lk G a=some ps) G1
  |none=>False
 | .str z=>R (nY z) (λ_=>True) G1
 |_=>False
noncomputable abbrev OM(t:A2):rC:=λτ G R=>t τ G λps G1=>match ps with
 |[.int j]=> -(2^62)<=j/\j<2^62/\R (ir 0 j.toNat) (λ_=>True) G1
 |_=>False
noncomputable abbrev OL(t:A2):rC:=λτ G R=>t τ G λps G1=>match ps with
 |[.int i,.int j]=>(-(2^62)<=i/\i<2^62/\-(2^62)<=j/\j<2^62)/\R (ir i (j-i).toNat) (λ_=>True) G1
 |_=>False
theorem EK{X:Cx}{pins:List (Addr×Obj)}{σ:L2.St}{H1:Hp}{s1:ai}{x:Str}{px:Pos}{z:Str}{v:ae}{R:It->Hp->Prop}(I1:Inv X pins σ H1 s1)(r1:RelV (.str z) v)(q:R (N0 z) H1):
  wpAny (aQ X.prog X.w) X.A (pyIter v) (O0 X pins σ (.Name x px) R) X.xe s1:=by
 obtain⟨t,rfl⟩:=r1
 cases ha:z.cps.all (· <128)
 ·refine PySem.wpAny_pyIter_wide ha ⟨s1.heap.objs.size,[s1.heap.objs.size],_,_,H1,rfl,I1.kept (t':=s1.toks) λb o e=>ak _ e,uG _ z t "str_iterator" (.inr rfl),⟨⟨_,aJ _ rfl,rfl,rfl⟩,bK _⟩,λb hb=> ?_,q⟩
  have e:b=s1.heap.objs.size:=by simpa using hb
  subst e
  exact I1.fpOk (av _) (I1.hok.fresh (av _))
 ·refine PySem.wpAny_pyIter_ascii ha ⟨s1.heap.objs.size,[s1.heap.objs.size],_,_,H1,rfl,I1.kept (t':=s1.toks) λb o e=>ak _ e,uG _ z t "str_ascii_iterator" (.inl rfl),⟨⟨_,aJ _ rfl,rfl,rfl⟩,bK _⟩,λb hb=> ?_,q⟩
  have e:b=s1.heap.objs.size:=by simpa using hb
  subst e
  exact I1.fpOk (av _) (I1.hok.fresh (av _))
section
variable{X:Cx}{l tg a b:Expr}{t:E2}{ta:A2}{x:Str}{px p pos:Pos}
theorem zu(hl:JE X l t):JI X (.Name x px) l (OK t):=⟨by
 intro pins s σ H R I h
 obtain⟨τ,G,R2,rs,rp,h,cl⟩:=h
 refine dZ (hl.h pins s σ H (λv H1=>∃p G1,Dv X.K H1 p v/\Rep X.K H1 G1/\Keep X.K H H1/\(match p with
  | .tup ps=>R2 ps (λ_=>True) G1
  | .ref a=>match lk G1 a with
   |some ps=>R2 ps (λG=>lk G a=some ps) G1
   |none=>False
  | .str z=>R2 (nY z) (λ_=>True) G1
  |_=>False)) I ⟨τ,G,_,rs,rp,h,λp G1 v H1 q d r k=>⟨p,G1,d,r,k,q⟩⟩) λv s1 ⟨y,H1,I1,r1,q,G1,d1,rp1,k1,q1⟩=> ?_
 cases q with
 |tup ps=>
  obtain⟨a,vs,rfl,sq,dv⟩:=d1
  cases r1
  obtain⟨its,rv,p,hz⟩:=I1.tuple sq
  refine wpAny_pyIter_tuple (show s1.heap.IsTuple a its.toArray from p) ?_
  refine⟨s1.heap.objs.size,[s1.heap.objs.size],_,_,H1,rfl,I1.kept (t':=s1.toks) λb o e=>ak _ e,wS a _,⟨_,aJ _ rfl,rfl,rfl⟩,λb hb=> ?_,cl _ _ _ _ _ q1 rp1 k1 (Kr sq dv)⟩
  have e:b=s1.heap.objs.size:=by simpa using hb
  subst e
  exact I1.fpOk (av _) (I1.hok.fresh (av _))
 |ref a=>
  obtain rfl:y= .ref a:=d1
  cases r1
  dsimp only at q1
  split at q1
  ·rename_i ps e
   obtain⟨vs,sq,dv⟩:=fP rp1 e
   obtain⟨its,rv,p,hz⟩:=I1.list sq
   refine sX p.isList ?_
   refine⟨s1.heap.objs.size,[s1.heap.objs.size],_,_,H1,rfl,I1.kept (t':=s1.toks) λb o e=>ak _ e,rV a _,⟨_,aJ _ rfl,rfl,rfl⟩,λb hb=> ?_,cl _ _ _ _ _ q1 rp1 k1 DD⟩
   have e:b=s1.heap.objs.size:=by simpa using hb
   subst e
   exact I1.fpOk (av _) (I1.hok.fresh (av _))
  ·exact q1.elim
 |str z=>
  obtain rfl:y= .str z:=d1
  exact EK I1 r1 (cl _ _ _ _ _ q1 rp1 k1 (Ks z))
 |non=>exact q1.elim
 |bl b=>exact q1.elim
 |int i=>exact q1.elim
 |ty n=>exact q1.elim
 |ro n=>exact q1.elim⟩
theorem AQ(hm:X.mg "range" =none)(ha:JA X [a] ta)(hg:Gl X "range" :=by rfl)(hs:aq [a] X.env=[(false,eval a X.env)]:=by rfl):JI X tg (.Call (.Name "range" p) [a] [] pos) (OM ta):= .of (Aj hg hm ha.h hs) λσ H R hPl=>by
 obtain⟨τ,G,R2,rs,rp,h,cl⟩:=hPl
 refine⟨τ,G,_,rs,rp,h,λps G1 vs H1 q d r k=> ?_⟩
 split at q
 ·rename_i j
  obtain⟨v,vr,rfl,d1,d⟩:=d
  obtain rfl:vr=[]:=d
  obtain rfl:v= .int j:=d1
  exact⟨j,rfl,q.1,q.2.1,cl _ _ _ _ _ q.2.2 r k (DC _ _)⟩
 ·exact q.elim
theorem AO(hm:X.mg "range" =none)(ha:JA X [a,b] ta)(hg:Gl X "range" :=by rfl)(hs:aq [a,b] X.env=[(false,eval a X.env),(false,eval b X.env)]:=by rfl)(hs2:aq [b] X.env=[(false,eval b X.env)]:=by rfl):JI X tg (.Call (.Name "range" p) [a,b] [] pos) (OL ta):= .of (Ai hg hm ha.h hs hs2) λσ H R hPl=>by
 obtain⟨τ,G,R2,rs,rp,h,cl⟩:=hPl
 refine⟨τ,G,_,rs,rp,h,λps G1 vs H1 q d r k=> ?_⟩
 split at q
 ·rename_i i j
  obtain⟨v,vr,rfl,d1,d⟩:=d
  obtain⟨v2,vr,rfl,d2,d⟩:=d
  obtain rfl:vr=[]:=d
  obtain rfl:v= .int i:=d1
  obtain rfl:v2= .int j:=d2
  exact⟨i,j,rfl,q.1,cl _ _ _ _ _ q.2 r k (DC _ _)⟩
 ·exact q.elim
end
section
end
@[reducible] noncomputable def nc:List (Option Nat)->jo->jo
 |[],_=>[]
 |some i::r,τ=>gt τ i::nc r τ
 |none::r,τ=>none::nc r τ
theorem uv:∀(ix:List (Option Nat)) (τ:jo),nc ix τ=ix.map λo=>match o with
  |some i=>(τ[i]?).getD none
  |none=>none
 |[],_=>rfl
 |some i::r,τ=>by simp only[nc,aE,DK,uv r τ]
 |none::r,τ=>by simp only[nc,aE,uv r τ]
theorem zJ{K:PySem.W.Frag}{H:Hp}{σ:L2.St}{τ:jo}(ix:List (Option Nat))(r:RSt K H σ τ):RSt K H (ky ix σ) (nc ix τ):=by
 rw[uv]
 refine⟨by unfold ky;simp,λi p e=> ?_⟩
 unfold ky
 rw[aF]at e⊢
 cases q:ix[i]? with
 |none=>rw[q]at e;cases e
 |some o=>
  cases o with
  |none=>rw[q]at e;cases e
  |some k=>
   rw[q]at e
   have e':some ((τ[k]?).getD none)=some (some p):=e
   have e2:=a8 e'
   cases q2:τ[k]? with
   |none=>rw[q2]at e2;cases e2
   |some z=>
    rw[q2]at e2
    have e3:z=some p:=e2
    subst e3
    obtain⟨v,ev,d⟩:=r.2 k p q2
    refine⟨v,?_,d⟩
    show some ((σ[k]?).getD none)=_
    rw[ev]
    rfl
noncomputable def OW(items:List PV)(c:Gp->Prop)(ix:List (Option Nat))(j:Nat)(τ:jo)(tf:T2)(te:E2)(Q:K2)(G1:Gp)(acc:Addr):Prop:=
 ∃W:Nat->List PV->Gp->Prop,W 0 [] (up G1 acc (.lst []))/\(∀i ys G,i<=items.length->W i ys G->c G/\G acc=some (.lst ys)/\ys.length<16000000)/\
  (∀i ys G x,items[i]? =some x->W i ys G->tf (st (nc ix τ) j (some x)) G λb G2=>o8 b (te (st (nc ix τ) j (some x)) G2 λy G3=>G3 acc=some (.lst ys)/\W (i+1) (ys++[y]) (up G3 acc (.lst (ys++[y])))) (W (i+1) ys G2))/\∀ys G,W items.length ys G->Q (.ref acc) G
noncomputable abbrev DX(ti:rC)(ix:List (Option Nat))(j:Nat)(tf:T2)(te:E2):E2:=λτ G Q=>ti τ G λitems c G1=>∀acc,G1 acc=none->OW items c ix j τ tf te Q G1 acc
structure JF(X:Cx)(ifs:List Expr)(t:T2):Prop where
 h:PF X ifs (vH X.K t)
noncomputable abbrev Lo:T2:=λ_ G Q=>Q true G
section
variable{X:Cx}{c:Expr}{tA:T2}
theorem JY:JF X [] Lo:=⟨λpins s σ H Q I ⟨τ,G,Q2,rs,rp,q,cl⟩=>IN pins s σ H Q I (cl _ _ _ q rp .refl)⟩
theorem JX(h:JT X c tA):JF X [c] tA:=⟨IM h.h⟩
theorem vG{ti:rC}{ix:List (Option Nat)}{j:Nat}{tf:T2}{te:E2}{σ:L2.St}{H:Hp}{Q:VK}(q:kX X.K (DX ti ix j tf te) σ H Q):BJ (FI X.K ti) ix j (vH X.K tf) (kX X.K te) σ H Q:=by
 obtain⟨τ,G,Q2,rs,rp,q,cl⟩:=q
 refine⟨τ,G,_,rs,rp,q,λitems c G1 J H1 q1 r1 k1 ok acc hacc=> ?_⟩
 obtain⟨W,w0,hW,turn,done⟩:=q1 acc (r1.none hacc)
 have kn:Keep X.K H1 (upd H1 acc (.lst [])):=bE hacc
 refine⟨λi m H'=>m=items.length-i/\i<=items.length/\∃ys G',W i ys G'/\Rep X.K H' G'/\Keep X.K H1 H',⟨_,rfl,bK _,[],_,w0,r1.new hacc .nil,kn⟩,?_⟩
 rintro i m H2 ⟨rfl,hi,ys,G2,w2,r2,k2⟩
 obtain⟨hc,hacc2,hys⟩:=hW i ys G2 hi w2
 obtain⟨o1,o2,o3⟩:=ok i H2 G2 k2 r2 hc
 by_cases hlt:i<items.length
 ·refine .inr ⟨o1 hlt,λx H3 y=> ?_⟩
  obtain⟨p,ep,k3,r3,d3⟩:=o3 x H3 hlt y
  have k13:=k2.trans k3
  have rs3:RSt X.K H3 ((ky ix σ).set j (some x)) (st (nc ix τ) j (some p)):=(zJ ix (rs.keep (k1.trans k13))).set d3 j
  refine⟨_,G2,_,rs3,r3,turn i ys G2 p ep w2,λb G4 H4 q4 r4 k4=> ?_⟩
  have k14:=k13.trans k4
  cases b with
  |false=>exact uc ⟨items.length-(i+1),by ac_nf,rfl,hlt,ys,G4,q4,r4,k14⟩
  |true=>
   refine ub ⟨_,G4,_,rs3.keep k4,r4,q4,λy G5 v H5 q5 d5 r5 k5=> ?_⟩
   obtain⟨ea,w5⟩:=q5
   obtain⟨vs,hv,dv⟩:=r5.lst ea
   refine⟨vs,hv,by rw[dv.length];exact zL (gh hys),items.length-(i+1),by ac_nf,rfl,hlt,ys++[y],_,w5,r5.put hv (dv.append (.cons d5 .nil)),(k14.trans k5).trans (fH hv)⟩
 ·have e:i=items.length:=by ac_nf
  subst e
  exact .inl ⟨o2 rfl,cl _ _ _ _ (done ys G2 w2) rfl r2 (k1.trans k2)⟩
theorem qN{scope:e8}{M:List Str}{ix:List (Option Nat)}{j:Nat}{x:Str}{elt iter:Expr}{px pos:Pos}{ifs:List Expr}{ti:rC}{tf:T2}{te:E2}(S:fq X.env.scope X.N scope M ix j x=true)(hc:X.calm=true)(hi:JI X (.Name x px) iter ti)
  (hb:∀C s H fp,JF (bW X M scope C s H fp) ifs tf/\JE (bW X M scope C s H fp) elt te) (hs:∀x,dU iter X.env x=pure x:=by intro _;rfl):
  JE X (.ListComp elt [⟨.Name x px,iter,ifs,0⟩] scope pos) (DX ti ix j tf te):= .of (Fp (D9 S) hc hi.h (λC s H fp=>⟨(hb C s H fp).1.h,(hb C s H fp).2.h⟩) hs) λσ H Q q=>vG q
theorem pI{scope:e8}{M:List Str}{ix:List (Option Nat)}{j n:Nat}{x y:Str}{elt iter:Expr}{px py pos spos:Pos}{ifs:List Expr}{ti:rC}{tf:T2}{te:E2}(hN:X.N.Nodup)(hi:X.N[n]? =some y)(hy:X.env.scope.names.lookup y=some .local)
  (S:fq X.env.scope X.N scope M ix j x=true) (hc:X.calm=true) (hit:JI X (.Name x px) iter ti)
  (hb:∀C s H fp,JF (bW X M scope C s H fp) ifs tf/\JE (bW X M scope C s H fp) elt te)
  (hsw:gC (.ListComp elt [⟨.Name x px,iter,ifs,0⟩] scope pos) (some (.Name y py)) spos.line X.env=pure true:=by rfl) (hs:∀x,dU iter X.env x=pure x:=by intro _;rfl):
  JS X (.Assign [.Name y py] (.ListComp elt [⟨.Name x px,iter,ifs,0⟩] scope pos) spos) (ES (DX ti ix j tf te) (gN n)):= .of (E8 hN hi hy (D9 S) hc hit.h (λC s H fp=>⟨(hb C s H fp).1.h,(hb C s H fp).2.h⟩) hsw hs) λD σ H ⟨τ,G,D2,rs,rp,q,cl⟩=>by
 exact vG (X:=X) ⟨τ,G,_,rs,rp,q,λp G1 v H1 q1 d1 r1 k1=>cl.nx _ _ _ _ q1 ((rs.keep k1).set d1 n) r1 k1⟩
theorem nj{items:List PV}{c:Gp->Prop}{ix:List (Option Nat)}{j:Nat}{τ:jo}{tf:T2}{te:E2}{Q:K2}{G1:Gp}{acc:Addr}(f:PV->Bool)(g:PV->PV)(hz:items.length<16000000)
  (hc:∀ys,c (up G1 acc (.lst ys))) (ht:∀x ys (R:Bool->Gp->Prop),x∈items->R (f x) (up G1 acc (.lst ys))->tf (st (nc ix τ) j (some x)) (up G1 acc (.lst ys)) R)
  (he:∀x ys (R:K2),x∈items->f x=true->R (g x) (up G1 acc (.lst ys))->te (st (nc ix τ) j (some x)) (up G1 acc (.lst ys)) R)
  (hq:Q (.ref acc) (up G1 acc (.lst ((items.filter f).map g)))):OW items c ix j τ tf te Q G1 acc:=by
 refine⟨λi ys G=>ys=((items.take i).filter f).map g/\G=up G1 acc (.lst ys),⟨by simp,rfl⟩,?_,?_,?_⟩
 ·rintro i ys G hi ⟨rfl,rfl⟩
  refine⟨hc _,ao,?_⟩
  rw[ap]
  exact gP (aO (List.length_filter_le _ _) (by rw[bb];ac_nf)) hz
 ·rintro i ys G x hx ⟨rfl,rfl⟩
  have hm:=ax hx
  have tk:items.take (i+1)=items.take i++[x]:=by rw[bZ,hx];rfl
  refine ht x _ _ hm ?_
  cases hf:f x with
  |true=>
   refine iU rfl ?_
   refine he x _ _ hm hf ⟨ao,?_,fO⟩
   rw[tk,List.filter_append,aS]
   simp[hf]
  |false=>
   refine ji rfl ⟨?_,rfl⟩
   rw[tk,List.filter_append]
   simp[hf]
 ·rintro ys G ⟨rfl,rfl⟩
  rw[bD]
  exact hq
end
noncomputable def ya:B2:=λp q G Q=>match p,q with
 | .int i,.int j=>Q (.int (i+j)) G
 | .str a,.str b=>a.length+b.length<=16000000/\Q (.str (a++b)) G
 | .tup xs,.tup ys=>xs≠[]/\xs.length+ys.length<=16000000/\Q (.tup (xs++ys)) G
 | .ref a,.ref b=>match lk G a,lk G b with
  |some ps,some qs=>ps.length+qs.length<=16000000/\∀c,G c=none->Q (.ref c) (up G c (.lst (ps++qs)))
  |_,_=>False
 | .ref a,.ro qs=>match lk G a with
  |some ps=>ps.length+qs.length<=16000000/\∀c,G c=none->Q (.ref c) (up G c (.lst (ps++qs)))
  |none=>False
 |_,_=>False
noncomputable abbrev i2(C:Int->Int->Prop)(g:Int->Int->PV):B2:=λp q G Q=>match p,q with
 | .int i,.int j=>C i j/\Q (g i j) G
 |_,_=>False
noncomputable abbrev KA(g:Int->Int->PV):B2:=λp q G Q=>match p,q with
 | .int i,.int j=>Q (g i j) G
 |_,_=>False
noncomputable abbrev Mg:B2:=λp q G Q=>match p,q with
 | .int i,.int j=>Q (.bl (decide (i<j))) G
 | .str a,.str b=>Q (.bl (decide (a.cps.toList<b.cps.toList))) G
 |_,_=>False
noncomputable abbrev Mm:B2:=λp q G Q=>match p,q with
 | .int i,.int j=>Q (.bl (decide (i<=j))) G
 | .str a,.str b=>Q (.bl (!(decide (b.cps.toList<a.cps.toList)))) G
 |_,_=>False
noncomputable abbrev gt2:B2:=KA λi j=> .bl (decide (j<i))
noncomputable abbrev kq:B2:=KA λi j=> .bl (decide (j<=i))
noncomputable abbrev uQ:B2:=KA λi j=> .int (i-j)
noncomputable abbrev Me:B2:=i2 (λ_ j=>0<j) λi j=> .int (i%j)
noncomputable abbrev zE:B2:=i2 HS λi j=> .int (i/j)
noncomputable abbrev LO:B2:=i2 Lc λi j=> .int (i^j.toNat)
noncomputable def Ax:B2:=λp q G Q=>match p,q with
 | .int i,.int j=>CMul i j/\Q (.int (i*j)) G
 | .ref a,.int k=>match G a with
  |some (.lst ps)=>(-(2^63)<=k/\k<2^63)/\ps.length*k.toNat<=16000000/\∀c,G c=none->Q (.ref c) (up G c (.lst (aj k.toNat ps).flatten))
  |_=>False
 |_,_=>False
section
variable{X:Cx}
theorem xO{f:ae->ae->Sem ae}{C:Int->Int->Prop}{g:Int->Int->V}{g':Int->Int->PV}(h:ic X f (rI C g))(hg:∀i j H,Dv X.K H (g' i j) (g i j)):ic X f (fG X.K (i2 C g')):=by
 intro pins s σ H x y v u Q I rx ry h'
 obtain⟨p,q,G,Q2,d1,d2,rp,q',cl⟩:=h'
 unfold i2 at q'
 split at q'
 ·rename_i i j
  obtain rfl:x= .int i:=d1
  obtain rfl:y= .int j:=d2
  exact h pins s σ H _ _ v u Q I rx ry ⟨i,j,rfl,rfl,q'.1,cl _ _ _ _ q'.2 (hg i j H) rp .refl⟩
 ·exact q'.elim
theorem ue{f:ae->ae->Sem ae}{g:Int->Int->V}{g':Int->Int->PV}(h:ic X f (EW g))(hg:∀i j H,Dv X.K H (g' i j) (g i j)):ic X f (fG X.K (KA g')):=by
 intro pins s σ H x y v u Q I rx ry h'
 obtain⟨p,q,G,Q2,d1,d2,rp,q',cl⟩:=h'
 unfold KA at q'
 split at q'
 ·rename_i i j
  obtain rfl:x= .int i:=d1
  obtain rfl:y= .int j:=d2
  exact h pins s σ H _ _ v u Q I rx ry ⟨i,j,rfl,rfl,cl _ _ _ _ q' (hg i j H) rp .refl⟩
 ·exact q'.elim
theorem L5:ic X (cK .Sub) (fG X.K uQ):=ue IZ λ_ _ _=>rfl
theorem L8:ic X (cK .Mod) (fG X.K Me):=xO Je λ_ _ _=>rfl
theorem Jr:ic X (cK .FloorDiv) (fG X.K zE):=xO Cv λ_ _ _=>rfl
theorem L6:ic X (cK .Pow) (fG X.K LO):=xO Jb λ_ _ _=>rfl
theorem Oz:ic X (bQ .Gt) (fG X.K gt2):=ue LW λ_ _ _=>rfl
theorem OA:ic X (bQ .GtE) (fG X.K kq):=ue LX λ_ _ _=>rfl
theorem Jq:ic X (bQ .Lt) (fG X.K Mg):=by
 intro pins s σ H x y v u Q I rx ry h
 obtain⟨p,q,G,Q2,d1,d2,rp,h,cl⟩:=h
 unfold Mg at h
 split at h
 ·rename_i i j
  obtain rfl:x= .int i:=d1
  obtain rfl:y= .int j:=d2
  exact LU pins s σ H _ _ v u Q I rx ry ⟨i,j,rfl,rfl,cl _ _ _ _ h rfl rp .refl⟩
 ·rename_i i j
  obtain rfl:x= .str i:=d1
  obtain rfl:y= .str j:=d2
  exact Al pins s σ H _ _ v u Q I rx ry ⟨i,j,rfl,rfl,cl _ _ _ _ h rfl rp .refl⟩
 ·exact h.elim
theorem L9:ic X (bQ .LtE) (fG X.K Mm):=by
 intro pins s σ H x y v u Q I rx ry h
 obtain⟨p,q,G,Q2,d1,d2,rp,h,cl⟩:=h
 unfold Mm at h
 split at h
 ·rename_i i j
  obtain rfl:x= .int i:=d1
  obtain rfl:y= .int j:=d2
  exact LV pins s σ H _ _ v u Q I rx ry ⟨i,j,rfl,rfl,cl _ _ _ _ h rfl rp .refl⟩
 ·rename_i i j
  obtain rfl:x= .str i:=d1
  obtain rfl:y= .str j:=d2
  exact Am pins s σ H _ _ v u Q I rx ry ⟨i,j,rfl,rfl,cl _ _ _ _ h rfl rp .refl⟩
 ·exact h.elim
theorem HC:ic X (cK .Add) (fG X.K ya):=by
 intro pins s σ H x y v u Q I rx ry h
 obtain⟨p,q,G,Q2,d1,d2,rp,h,cl⟩:=h
 unfold ya at h
 split at h
 ·rename_i i j
  obtain rfl:x= .int i:=d1
  obtain rfl:y= .int j:=d2
  exact Jf pins s σ H _ _ v u Q I rx ry ⟨i,j,rfl,rfl,cl _ _ _ _ h rfl rp .refl⟩
 ·rename_i i j
  obtain rfl:x= .str i:=d1
  obtain rfl:y= .str j:=d2
  exact xt pins s σ H _ _ v u Q I rx ry ⟨i,j,rfl,rfl,big h.1,cl _ _ _ _ h.2 rfl rp .refl⟩
 ·rename_i xs ys
  obtain⟨a,vs,rfl,sa,da⟩:=d1
  obtain⟨b,us,rfl,sb,db⟩:=d2
  obtain⟨ne,hl,hq⟩:=h
  have la:=da.length
  have lb:=db.length
  refine Fv pins s σ H _ _ v u Q I rx ry ⟨a,b,vs,us,rfl,rfl,sa,sb,?_,by rw[la,lb];exact big hl,λe=> ?_,λ_ c hc=> ?_⟩
  ·intro e;subst e
   exact ne (iE (by rw[<-la];rfl))
  ·subst e
   have ey:ys=[]:=iE (by rw[<-lb];rfl)
   subst ey
   rw[bz]at hq
   exact cl _ _ _ _ hq ⟨a,vs,rfl,sa,da⟩ rp .refl
  ·have kn:Keep X.K H (upd H c (.tup (vs++us))):=bE hc
   exact cl _ _ _ _ hq ⟨c,_,rfl,.of cr,(da.append db).keep kn⟩ (rp.tup hc) kn
 ·rename_i a b
  split at h
  ·rename_i ps qs e1 e2
   obtain⟨hl,hq⟩:=h
   obtain rfl:x= .ref a:=d1
   obtain rfl:y= .ref b:=d2
   obtain⟨vs,sa,da⟩:=fP rp e1
   obtain⟨us,sb,db⟩:=fP rp e2
   refine zg pins s σ H _ _ v u Q I rx ry ⟨a,b,vs,us,rfl,rfl,sa,sb,by rw[da.length,db.length];exact big hl,λc hc=> ?_⟩
   exact cl _ _ _ _ (hq c (rp.none hc)) rfl (rp.new hc (da.append db)) (bE hc)
  ·exact h.elim
 ·rename_i a qs
  split at h
  ·rename_i ps e1
   obtain⟨hl,hq⟩:=h
   obtain rfl:x= .ref a:=d1
   obtain⟨b,us,rfl,sb,db⟩:=d2
   obtain⟨vs,sa,da⟩:=fP rp e1
   refine zg pins s σ H _ _ v u Q I rx ry ⟨a,b,vs,us,rfl,rfl,sa,sb.sq,by rw[da.length,db.length];exact big hl,λc hc=> ?_⟩
   exact cl _ _ _ _ (hq c (rp.none hc)) rfl (rp.new hc (da.append db)) (bE hc)
  ·exact h.elim
 ·exact h.elim
theorem Dvs.rep{K:PySem.W.Frag}{H:Hp}{ps:List PV}{vs:List V}(d:Dvs K H ps vs):∀n,Dvs K H (aj n ps).flatten (aj n vs).flatten
 |0=>rfl
 |n+1=>by
  rw[bf,bf,cx,cx]
  exact d.append (Dvs.rep d n)
theorem L7:ic X (cK .Mult) (fG X.K Ax):=by
 intro pins s σ H x y v u Q I rx ry h
 obtain⟨p,q,G,Q2,d1,d2,rp,h,cl⟩:=h
 unfold Ax at h
 split at h
 ·rename_i i j
  obtain rfl:x= .int i:=d1
  obtain rfl:y= .int j:=d2
  exact Jd pins s σ H _ _ v u Q I rx ry ⟨i,j,rfl,rfl,h.1,cl _ _ _ _ h.2 rfl rp .refl⟩
 ·rename_i a k
  split at h
  ·rename_i ps e
   obtain⟨hk,hl,hq⟩:=h
   obtain rfl:x= .ref a:=d1
   obtain rfl:y= .int k:=d2
   obtain⟨vs,ha,da⟩:=rp.lst e
   refine Ja pins s σ H _ _ v u Q I rx ry ⟨a,k,vs,rfl,rfl,ha,hk.1,hk.2,by rw[da.length];exact big hl,λc hc=> ?_⟩
   exact cl _ _ _ _ (hq c (rp.none hc)) rfl (rp.new hc (da.rep _)) (bE hc)
  ·exact h.elim
 ·exact h.elim
end
noncomputable def kr:PV->Bool
 | .non=>true
 | .bl _=>true
 | .int _=>true
 | .str _=>true
 |_=>false
noncomputable def Kz(x:PV)(ps:List PV):Bool:=ps.any λy=>i3 y x
noncomputable def Na(neg:Bool):B2:=λp q G Q=>match q with
 | .tup ps=>kr p=true/\ps.all kr=true/\Q (.bl (if neg then !Kz p ps else Kz p ps)) G
 | .ref a=>match lk G a with
  |some ps=>kr p=true/\ps.all kr=true/\Q (.bl (if neg then !Kz p ps else Kz p ps)) G
  |none=>False
 | .str j=>match p with
  | .str i=>Q (.bl (if neg then !(!(fX j i 0 j.length 1).isEmpty)else !(fX j i 0 j.length 1).isEmpty)) G
  |_=>False
 |_=>False
section
variable{X:Cx}
theorem xP{K:PySem.W.Frag}{H:Hp}{p:PV}{v:V}(f:kr p=true)(d:Dv K H p v):lq v=true:=by
 cases p with
 |non=>obtain rfl:v= .non:=d;rfl
 |bl b=>obtain rfl:v= .bl b:=d;rfl
 |int b=>obtain rfl:v= .int b:=d;rfl
 |str b=>obtain rfl:v= .str b:=d;rfl
 |_=>cases f
theorem GG{K:PySem.W.Frag}{H:Hp}{p q:PV}{v u:V}(f1:kr p=true)(f2:kr q=true)(d1:Dv K H p v)(d2:Dv K H q u):GI v u=i3 p q:=by
 cases p with
 |non=>
  obtain rfl:v= .non:=d1
  cases q with
  |non=>obtain rfl:u= .non:=d2;rfl
  |bl b=>obtain rfl:u= .bl b:=d2;rfl
  |int b=>obtain rfl:u= .int b:=d2;rfl
  |str b=>obtain rfl:u= .str b:=d2;rfl
  |_=>cases f2
 |bl a=>
  obtain rfl:v= .bl a:=d1
  cases q with
  |non=>obtain rfl:u= .non:=d2;rfl
  |bl b=>obtain rfl:u= .bl b:=d2;rfl
  |int b=>obtain rfl:u= .int b:=d2;rfl
  |str b=>obtain rfl:u= .str b:=d2;rfl
  |_=>cases f2
 |int a=>
  obtain rfl:v= .int a:=d1
  cases q with
  |non=>obtain rfl:u= .non:=d2;rfl
  |bl b=>obtain rfl:u= .bl b:=d2;rfl
  |int b=>obtain rfl:u= .int b:=d2;rfl
  |str b=>obtain rfl:u= .str b:=d2;rfl
  |_=>cases f2
 |str a=>
  obtain rfl:v= .str a:=d1
  cases q with
  |non=>obtain rfl:u= .non:=d2;rfl
  |bl b=>obtain rfl:u= .bl b:=d2;rfl
  |int b=>obtain rfl:u= .int b:=d2;rfl
  |str b=>obtain rfl:u= .str b:=d2;rfl
  |_=>cases f2
 |_=>cases f1
theorem uh{K:PySem.W.Frag}{H:Hp}{x:PV}{xv:V}(fx:kr x=true)(dx:Dv K H x xv):∀{ps:List PV} {vs:List V},ps.all kr=true->Dvs K H ps vs->vs.all lq=true/\NU xv vs=Kz x ps
 |[],vs,_,d=>by rw[show vs=[]from d];exact⟨rfl,rfl⟩
 |p::ps,vs,f,d=>by
  obtain⟨v,r,rfl,d1,d2⟩:=d
  rw[jO,aH]at f
  obtain⟨h1,h2⟩:=uh fx dx f.2 d2
  refine⟨by rw[jO,xP f.1 d1,h1];rfl,?_⟩
  unfold NU Kz at h2⊢
  rw[dX,dX,GG f.1 fx d1 dx,h2]
theorem Oy:ic X (bQ .In) (fG X.K (Na false)):=by
 intro pins s σ H x y v u Q I rx ry h
 obtain⟨p,q,G,Q2,d1,d2,rp,h,cl⟩:=h
 unfold Na at h
 split at h
 ·rename_i ps
  obtain⟨f1,f2,hq⟩:=h
  obtain⟨b,us,rfl,sb,db⟩:=d2
  obtain⟨g1,g2⟩:=uh f1 d1 f2 db
  refine su pins s σ H _ _ v u Q I rx ry ⟨b,us,rfl,.inr sb,xP f1 d1,g1,?_⟩
  rw[g2]
  exact cl _ _ _ _ hq rfl rp .refl
 ·rename_i b
  split at h
  ·rename_i ps e
   obtain⟨f1,f2,hq⟩:=h
   obtain rfl:y= .ref b:=d2
   obtain⟨us,sb,db⟩:=fP rp e
   obtain⟨g1,g2⟩:=uh f1 d1 f2 db
   refine su pins s σ H _ _ v u Q I rx ry ⟨b,us,rfl,.inl sb,xP f1 d1,g1,?_⟩
   rw[g2]
   exact cl _ _ _ _ hq rfl rp .refl
  ·exact h.elim
 ·rename_i j
  split at h
  ·rename_i i
   obtain rfl:x= .str i:=d1
   obtain rfl:y= .str j:=d2
   exact An pins s σ H _ _ v u Q I rx ry ⟨i,j,rfl,rfl,cl _ _ _ _ h rfl rp .refl⟩
  ·exact h.elim
 ·exact h.elim
end
noncomputable def Gr:B2:=λp q G Q=>match p,q with
 | .tup ps,.int i=>match oV ps i with
  |some x=>Q x G
  |none=>False
 | .ref a,.int i=>match lk G a with
  |some ps=>match oV ps i with
   |some x=>Q x G
   |none=>False
  |none=>False
 | .str z,.int i=>z.length<=16000000/\match oV z.cps.toList i with
  |some c=>Q (.str ⟨#[c]⟩) G
  |none=>False
 |_,_=>False
theorem Ej{K:PySem.W.Frag}{H:Hp}{ps:List PV}{vs:List V}{i:Int}{p:PV}(d:Dvs K H ps vs)(h:oV ps i=some p):∃v,oV vs i=some v/\Dv K H p v:=by
 unfold oV at h⊢
 rw[d.length]
 cases e:xK ps.length i with
 |none=>rw[e]at h;cases h
 |some j=>
  rw[e]at h
  exact d.at h
theorem Lj{X:Cx}:Lh X (fG X.K Gr):=by
 intro va sl pins s σ H x y v u Q I rx ry h hs
 obtain⟨p,q,G,Q2,d1,d2,rp,h,cl⟩:=h
 unfold Gr at h
 split at h
 ·rename_i ps i
  split at h
  ·rename_i z e
   obtain⟨a,vs,rfl,sa,da⟩:=d1
   obtain rfl:y= .int i:=d2
   obtain⟨w,ew,dw⟩:=Ej da e
   exact Kp va sl pins s σ H _ _ v u Q I rx ry ⟨a,vs,i,w,rfl,rfl,sa,ew,cl _ _ _ _ h dw rp .refl⟩ hs
  ·exact h.elim
 ·rename_i a i
  split at h
  ·rename_i ps e0
   split at h
   ·rename_i z e
    obtain rfl:x= .ref a:=d1
    obtain rfl:y= .int i:=d2
    obtain⟨vs,sa,da⟩:=fP rp e0
    obtain⟨w,ew,dw⟩:=Ej da e
    exact Gn va sl pins s σ H _ _ v u Q I rx ry ⟨a,vs,i,w,rfl,rfl,sa,ew,cl _ _ _ _ h dw rp .refl⟩ hs
   ·exact h.elim
  ·exact h.elim
 ·rename_i z i
  obtain⟨hz,h⟩:=h
  split at h
  ·rename_i c e
   obtain rfl:x= .str z:=d1
   obtain rfl:y= .int i:=d2
   exact Kq va sl pins s σ H _ _ v u Q I rx ry ⟨z,i,c,rfl,rfl,big hz,e,cl _ _ _ _ h rfl rp .refl⟩ hs
  ·exact h.elim
 ·exact h.elim
noncomputable def jA:C2:=λps G Q=>match ps with
 |[.tup xs]=>Q (.int xs.length) G
 |[.ref a]=>match lk G a with
  |some xs=>Q (.int xs.length) G
  |none=>False
 |[.str z]=>z.length<=16000000/\Q (.int z.length) G
 |_=>False
theorem fk{K:PySem.W.Frag}{H:Hp}{p:PV}{vs:List V}(d:Dvs K H [p] vs):∃v,vs=[v]/\Dv K H p v:=by
 obtain⟨v,r,rfl,d1,d2⟩:=d
 obtain rfl:r=[]:=d2
 exact⟨v,rfl,d1⟩
theorem pA{K:PySem.W.Frag}{H:Hp}{p q:PV}{vs:List V}(d:Dvs K H [p,q] vs):∃v u,vs=[v,u]/\Dv K H p v/\Dv K H q u:=by
 obtain⟨v,r,rfl,d1,d2⟩:=d
 obtain⟨u,rfl,d3⟩:=fk d2
 exact⟨v,u,rfl,d1,d3⟩
section
variable{X:Cx}
theorem NC:gx X (.builtin "len") (pc X.K jA):=by
 intro pins s σ H xs us Q I rs h
 obtain⟨ps,G,Q2,d,rp,h,cl⟩:=h
 unfold jA at h
 split at h
 ·rename_i ys
  obtain⟨v,rfl,dv⟩:=fk d
  obtain⟨a,vs,rfl,sa,da⟩:=dv
  refine nh pins s σ H _ us Q I rs ⟨a,vs,rfl,.inr sa,?_⟩
  rw[da.length]
  exact cl _ _ _ _ h rfl rp .refl
 ·rename_i a
  split at h
  ·rename_i ys e
   obtain⟨v,rfl,dv⟩:=fk d
   obtain rfl:v= .ref a:=dv
   obtain⟨vs,sa,da⟩:=fP rp e
   refine nh pins s σ H _ us Q I rs ⟨a,vs,rfl,.inl sa,?_⟩
   rw[da.length]
   exact cl _ _ _ _ h rfl rp .refl
  ·exact h.elim
 ·rename_i z
  obtain⟨v,rfl,dv⟩:=fk d
  obtain rfl:v= .str z:=dv
  exact uw pins s σ H _ us Q I rs ⟨z,rfl,big h.1,cl _ _ _ _ h.2 rfl rp .refl⟩
 ·exact h.elim
noncomputable def Da:C2:=λps G Q=>match ps with
 |[.int i,.int j]=>Q (.int (if j>i then j else i)) G
 |_=>False
theorem KN(hc:X.calm=true):gx X (.builtin "max") (pc X.K Da):=by
 intro pins s σ H xs us Q I rs h
 obtain⟨ps,G,Q2,d,rp,h,cl⟩:=h
 unfold Da at h
 split at h
 ·rename_i i j
  obtain⟨v,u,rfl,dv,du⟩:=pA d
  obtain rfl:v= .int i:=dv
  obtain rfl:u= .int j:=du
  exact A8 hc pins s σ H _ us Q I rs ⟨i,j,rfl,cl _ _ _ _ h rfl rp .refl⟩
 ·exact h.elim
noncomputable def Dj:C2:=λps G Q=>match ps with
 |[.tup xs]=>∀c,G c=none->Q (.ref c) (up G c (.lst xs))
 |[.ref a]=>match G a with
  |some (.lst xs)=>∀c,G c=none->Q (.ref c) (up G c (.lst xs))
  |some (.rl xs)=>∀c,G c=none->Q (.ref c) (up G c (.lst xs))
  |some (.rng lo hi)=>(-(2^62)<=lo/\lo<2^62/\-(2^62)<=hi/\hi<2^62)/\(hi-lo).toNat<=16000000/\∀c,G c=none->Q (.ref c) (up G c (.lst (ir lo (hi-lo).toNat)))
  |_=>False
 |_=>False
theorem AU{lo:Int}:∀(n:Nat) {its:List ae},its.length=n->(∀i,i<n->∃t,its[i]? =some (dB (lo+(i:Nat)) t))->Vals ((cV n).map fun(i:Nat)=>V.int (lo+i)) its:=by
 intro n
 induction n with
 |zero=>intro its hl _;rw[iE hl];exact .nil
 |succ n ih=>
  intro its hl h
  have e:its=its.take n++[its[n]'(by ac_nf)]:=by
   have:=er n its
   rw[dj (by ac_nf),List.drop_of_length_le (by ac_nf)]at this
   exact this.symm
  obtain⟨t,ht⟩:=h n (by ac_nf)
  have ht':its[n]'(by ac_nf)= .int (lo+(n:Nat)) t:=by
   rw[al (by ac_nf)]at ht
   exact a8 ht
  rw[e,List.range_succ,aS]
  refine Vals.append (ih (by rw[bb];ac_nf) λi hi=> ?_) (.cons ⟨t,ht'⟩ .nil)
  obtain⟨t2,h2⟩:=h i (by ac_nf)
  refine⟨t2,?_⟩
  rw[oX]
  rw[if_pos hi]
  exact h2
theorem DG{K:PySem.W.Frag}{H:Hp}{lo:Int}:∀(l:List Nat),Dvs K H (l.map fun(i:Nat)=>PV.int (lo+i)) (l.map fun(i:Nat)=>V.int (lo+i))
 |[]=>rfl
 |i::l=>⟨_,_,rfl,rfl,DG l⟩
theorem KO(hc:X.calm=true):gx X (.type "list") (pc X.K Dj):=by
 intro pins s σ H xs us Q I rs h
 obtain⟨ps,G,Q2,d,rp,h,cl⟩:=h
 unfold Dj at h
 split at h
 ·rename_i ys
  obtain⟨v,rfl,dv⟩:=fk d
  obtain⟨a,vs,rfl,sa,da⟩:=dv
  exact jJ pins s σ H _ us Q I rs ⟨a,vs,rfl,.inr sa,λc hc=>cl _ _ _ _ (h c (rp.none hc)) rfl (rp.new hc da) (bE hc)⟩
 ·rename_i a
  obtain⟨v,rfl,dv⟩:=fk d
  obtain rfl:v= .ref a:=dv
  split at h
  ·rename_i ys e
   obtain⟨vs,sa,da⟩:=rp.lst e
   exact jJ pins s σ H _ us Q I rs ⟨a,vs,rfl,.inl (.of sa),λc hc=>cl _ _ _ _ (h c (rp.none hc)) rfl (rp.new hc da) (bE hc)⟩
  ·rename_i ys e
   obtain⟨vs,sa,da⟩:=rp a _ e
   exact jJ pins s σ H _ us Q I rs ⟨a,vs,rfl,.inl (.inl sa),λc hc=>cl _ _ _ _ (h c (rp.none hc)) rfl (rp.new hc da) (bE hc)⟩
  ·rename_i lo hi e
   obtain⟨⟨b1,b2,b3,b4⟩,hn,hq⟩:=h
   have hr:H a=some (.rng lo hi):=rp a _ e
   obtain⟨u,rfl,ru⟩:=rs.one
   cases ru
   obtain⟨t,u,v,hg⟩:=I.hok a _ hr
   have e2:eE lo hi 1=(((hi-lo).toNat:Nat):Int):=by
    show(if(1:Int)>0 then(if lo<hi then(hi-lo-1)/1+1 else 0)else _)=_
    rw[if_pos (by decide)]
    split<;>ac_nf
   refine call_list_range (n:=(hi-lo).toNat) (I.ok.hd hc) hg (small_one b1 b2 b3 b4) e2 (by ac_nf) λh' tk acc' c' hk hS hacc=> ?_
   have hfr:H s.heap.objs.size=none:=I.hok.fresh (av _)
   refine⟨.ref s.heap.objs.size,upd H s.heap.objs.size (.lst ((cV (hi-lo).toNat).map fun(i:Nat)=>V.int (lo+i))),I.laid (t':=tk) (λb o e=>hk b o e) (av _) ?_,rfl,cl _ _ _ _ (hq _ (rp.none hfr)) rfl (rp.new hfr (DG _)) (bE hfr)⟩
   have hz:acc'.size=(hi-lo).toNat:=hacc.1
   refine⟨by rw[ap,pP];exact big hn,acc'.toList,c',AU _ (by simpa using hz) λi hi'=> ?_,by simpa using hS⟩
   have hv:acc'[i]? =some (acc'[i]'(by ac_nf)):=by simp
   obtain⟨t,et⟩:=hacc.2 i _ hv
   refine⟨t,?_⟩
   have:acc'.toList[i]? =some (acc'[i]'(by ac_nf)):=by simp
   rw[this,et,Int.mul_one]
  ·exact h.elim
 ·exact h.elim
noncomputable def pZ:C2:=λps G Q=>match ps with
 |[.tup xs]=>Q (.tup xs) G
 |[.ref a]=>match lk G a with
  |some xs=>Q (.tup xs) G
  |none=>False
 |_=>False
theorem GU:gx X (.type "tuple") (pc X.K pZ):=by
 intro pins s σ H xs us Q I rs h
 obtain⟨ps,G,Q2,d,rp,h,cl⟩:=h
 unfold pZ at h
 split at h
 ·rename_i ys
  obtain⟨v,rfl,dv⟩:=fk d
  obtain⟨a,vs,rfl,sa,da⟩:=dv
  exact lu pins s σ H _ us Q I rs ⟨a,vs,rfl,.inr ⟨sa,cl _ _ _ _ h ⟨a,vs,rfl,sa,da⟩ rp .refl⟩⟩
 ·rename_i a
  obtain⟨v,rfl,dv⟩:=fk d
  obtain rfl:v= .ref a:=dv
  split at h
  ·rename_i ys e
   obtain⟨vs,sa,da⟩:=fP rp e
   refine lu pins s σ H _ us Q I rs ⟨a,vs,rfl,.inl ⟨sa,λc hc=> ?_⟩⟩
   have kn:Keep X.K H (upd H c (.tup vs)):=bE hc
   exact cl _ _ _ _ h ⟨c,vs,rfl,.of cr,da.keep kn⟩ (rp.tup hc) kn
  ·exact h.elim
 ·exact h.elim
noncomputable def lK:List PV->Option (List Int)
 |[]=>some []
 | .int b::r=>(lK r).map (b::·)
 |_=>none
theorem vU{K:PySem.W.Frag}{H:Hp}:∀{ps:List PV} {bs:List Int} {vs:List V},lK ps=some bs->Dvs K H ps vs->vs=bs.map V.int
 |[],bs,vs,h,d=>by cases h;exact d
 |p::ps,bs,vs,h,d=>by
  obtain⟨v,r,rfl,d1,d2⟩:=d
  cases p with
  |int b=>
   unfold lK at h
   cases e:lK ps with
   |none=>rw[e]at h;cases h
   |some cs=>
    rw[e]at h
    cases h
    obtain rfl:v= .int b:=d1
    rw[vU e d2]
    rfl
  |_=>cases h
theorem xM(ns:List Int):lK (ns.map PV.int)=some ns:=by
 induction ns with
 |nil=>rfl
 |cons n ns ih=>rw[aE];unfold lK;rw[ih];rfl
theorem zB{K:PySem.W.Frag}{H:Hp}:∀(l:List Int),Dvs K H (l.map PV.int) (l.map V.int)
 |[]=>rfl
 |i::l=>⟨_,_,rfl,rfl,zB l⟩
noncomputable def BM:C2:=λps G Q=>match ps with
 |[.ref a]=>match lk G a with
  |some xs=>match lK xs with
   |some ns=>Q (.int ns.sum) G
   |none=>False
  |none=>False
 |_=>False
theorem NB(hc:X.calm=true):gx X (.builtin "sum") (pc X.K BM):=by
 intro pins s σ H xs us Q I rs h
 obtain⟨ps,G,Q2,d,rp,h,cl⟩:=h
 unfold BM at h
 split at h
 ·rename_i a
  split at h
  ·rename_i ys e
   split at h
   ·rename_i ns eb
    obtain⟨v,rfl,dv⟩:=fk d
    obtain rfl:v= .ref a:=dv
    obtain⟨vs,sa,da⟩:=fP rp e
    obtain rfl:=vU eb da
    obtain⟨u,rfl,ru⟩:=rs.one
    cases ru
    obtain⟨its,r,pl,_⟩:=I.list sa
    have hi:=xN r
    obtain⟨zs,ez⟩:=hi.allInts.items
    refine sum_intListG (I.ok.hd hc) (xs:=zs) (by rw[<-ez];exact pl.isList) λh' tk t' hk=> ?_
    refine⟨.int ns.sum,H,I.kept (t':=tk) λb o e=>hk b o e,⟨t',?_⟩,cl _ _ _ _ h rfl rp .refl⟩
    have e1:numsOf its=ns:=hi.numsOf
    have e2:its.toArray.toList=its:=rfl
    rw[<-e2,ez,nums_intItems]at e1
    rw[preSum_eq,kO (by simp)]
    rw[<-e1]
   ·exact h.elim
  ·exact h.elim
 ·exact h.elim
end
noncomputable def ON(p:PV)(G:Gp):Prop:=match p with
 | .ref a=>∃ps,G a=some (.lst ps)
 |_=>False
noncomputable abbrev GN(r:M2)(to:E2)(t:A2):E2:=λτ G Q=>to τ G λx G1=>ON x G1/\t τ G1 λps G2=>r x ps G2 Q
noncomputable abbrev HM(r:M2)(to:E2):E2:=λτ G Q=>to τ G λx G1=>ON x G1/\r x [] G1 Q
noncomputable abbrev Nq(r:M2)(to:E2)(t:A2):E2:=λτ G Q=>to τ G λx G1=>match x with
 | .str _=>t τ G1 λps G2=>r x ps G2 Q
 |_=>False
section
variable{X:Cx}{o e:Expr}{es:List Expr}{to:E2}{t:A2}{name:Str}{apos cpos:Pos}{id:String}{r:M2}
theorem DE{K:PySem.W.Frag}{H:Hp}{p:PV}{v:V}{G:Gp}(h:ON p G)(d:Dv K H p v)(rp:Rep K H G):NP K "list" v H:=by
 cases p with
 |ref a=>
  obtain⟨ps,e⟩:=h
  obtain rfl:v= .ref a:=d
  obtain⟨vs,hv,_⟩:=rp.lst e
  exact .inl ⟨rfl,vs,.of hv⟩
 |_=>exact h.elim
theorem Dy(slot:Slot "list" name id)(hty:typeOf (.builtin id)=pure (.type "method_descriptor"))(hm:Bi X id (vI X.K r))(ho:JE X o to)(ha:JA X (e::es) t)
  (hbase:cg o name X.env (eval o X.env)=eval o X.env:=by rfl)
  (hfew:((bB cpos (aq (e::es) X.env)).all (λx=> !x.1)&&(gB cpos (dO [] X.env)).all (λx=>x.1.isSome)&&decide ((e::es).length+([]:List fz).length+(if([]:List fz).isEmpty then 0 else 1)<30))=true:=by rfl)
  (hline:(apos.endLine==cpos.line)=true:=by rfl) (hs:aq (e::es) X.env=(false,eval e X.env)::aq es X.env:=by rfl) (hplain:(bB cpos (aq es X.env)).any (·.1)=false:=by rfl):
  JE X (.Call (.Attribute o name apos) (e::es) [] cpos) (GN r to t):= .of (HB PySem.F.plainAttrs_list slot hty hm ho.h ha.h hbase hfew hline hs hplain) λσ H Q ⟨τ,G,Q2,rs,rp,q,cl⟩=>by
 refine⟨τ,G,_,rs,rp,q,λp G1 v H1 q1 d1 r1 k1=>⟨DE q1.1 d1 r1,τ,G1,_,rs.keep k1,r1,q1.2,λps G2 vs H2 q2 d2 r2 k2=> ?_⟩⟩
 exact⟨p,ps,G2,Q2,d1.keep k2,d2,r2,q2,cl.keep (k1.trans k2)⟩
theorem Kg(slot:Slot "list" name id)(hty:typeOf (.builtin id)=pure (.type "method_descriptor"))(hm:Bi X id (vI X.K r))(ho:JE X o to)
  (hbase:cg o name X.env (eval o X.env)=eval o X.env:=by rfl) (hline:(apos.endLine==cpos.line)=true:=by rfl):
  JE X (.Call (.Attribute o name apos) [] [] cpos) (HM r to):= .of (IW PySem.F.plainAttrs_list slot hty hm ho.h hbase hline) λσ H Q ⟨τ,G,Q2,rs,rp,q,cl⟩=>by
 refine⟨τ,G,_,rs,rp,q,λp G1 v H1 q1 d1 r1 k1=>⟨DE q1.1 d1 r1,?_⟩⟩
 exact⟨p,[],G1,Q2,d1,.nil,r1,q1.2,cl.keep k1⟩
theorem MM(slot:Slot "str" name id)(hty:typeOf (.builtin id)=pure (.type "method_descriptor"))(hm:Bi X id (vI X.K r))(ho:JE X o to)(ha:JA X (e::es) t)
  (hbase:cg o name X.env (eval o X.env)=eval o X.env:=by rfl)
  (hfew:((bB cpos (aq (e::es) X.env)).all (λx=> !x.1)&&(gB cpos (dO [] X.env)).all (λx=>x.1.isSome)&&decide ((e::es).length+([]:List fz).length+(if([]:List fz).isEmpty then 0 else 1)<30))=true:=by rfl)
  (hline:(apos.endLine==cpos.line)=true:=by rfl) (hs:aq (e::es) X.env=(false,eval e X.env)::aq es X.env:=by rfl) (hplain:(bB cpos (aq es X.env)).any (·.1)=false:=by rfl):
  JE X (.Call (.Attribute o name apos) (e::es) [] cpos) (Nq r to t):= .of (HB PySem.F.plainAttrs_str slot hty hm ho.h ha.h hbase hfew hline hs hplain) λσ H Q ⟨τ,G,Q2,rs,rp,q,cl⟩=>by
 refine⟨τ,G,_,rs,rp,q,λp G1 v H1 q1 d1 r1 k1=> ?_⟩
 cases p with
 |str z=>
  obtain rfl:v= .str z:=d1
  refine⟨rfl,τ,G1,_,rs.keep k1,r1,q1,λps G2 vs H2 q2 d2 r2 k2=> ?_⟩
  exact⟨.str z,ps,G2,Q2,rfl,d2,r2,q2,cl.keep (k1.trans k2)⟩
 |_=>exact bN q1
noncomputable def nq:M2:=λp ps G Q=>match p,ps with
 | .ref a,[y]=>match G a with
  |some (.lst xs)=>xs.length<16000000/\Q .non (up G a (.lst (xs++[y])))
  |_=>False
 |_,_=>False
theorem De:Bi X "list.append" (vI X.K nq):=by
 intro pins s σ H x xs v us Q I rx rs h
 obtain⟨p,ps,G,Q2,d,ds,rp,h,cl⟩:=h
 unfold nq at h
 split at h
 ·rename_i a y
  split at h
  ·rename_i zs e
   obtain rfl:x= .ref a:=d
   obtain⟨w,rfl,dw⟩:=fk ds
   obtain⟨vs,hv,dv⟩:=rp.lst e
   exact og pins s σ H _ _ v us Q I rx rs ⟨a,vs,w,rfl,rfl,hv,by rw[dv.length];exact zL (gh h.1),cl _ _ _ _ h.2 rfl (rp.put hv (dv.append (.cons dw .nil))) (fH hv)⟩
  ·exact h.elim
 ·exact h.elim
noncomputable def jE:M2:=λp ps G Q=>match p,ps with
 | .ref a,[.tup ys]=>match G a with
  |some (.lst xs)=>xs.length+ys.length<=16000000/\Q .non (up G a (.lst (xs++ys)))
  |_=>False
 | .ref a,[.ref b]=>match G a,G b with
  |some (.lst xs),some (.lst ys)=>xs.length+ys.length<=16000000/\Q .non (up G a (.lst (xs++ys)))
  |_,_=>False
 |_,_=>False
theorem Dd:Bi X "list.extend" (vI X.K jE):=by
 intro pins s σ H x xs v us Q I rx rs h
 obtain⟨p,ps,G,Q2,d,ds,rp,h,cl⟩:=h
 unfold jE at h
 split at h
 ·rename_i a ys
  split at h
  ·rename_i zs e
   obtain rfl:x= .ref a:=d
   obtain⟨w,rfl,dw⟩:=fk ds
   obtain⟨b,ws,rfl,sb,db⟩:=dw
   obtain⟨vs,hv,dv⟩:=rp.lst e
   exact xC pins s σ H _ _ v us Q I rx rs ⟨a,b,vs,ws,rfl,rfl,hv,sb,by rw[dv.length,db.length];exact big h.1,cl _ _ _ _ h.2 rfl (rp.put hv (dv.append db)) (fH hv)⟩
  ·exact h.elim
 ·rename_i a b
  split at h
  ·rename_i zs ys e1 e2
   obtain rfl:x= .ref a:=d
   obtain⟨w,rfl,dw⟩:=fk ds
   obtain rfl:w= .ref b:=dw
   obtain⟨vs,hv,dv⟩:=rp.lst e1
   obtain⟨ws,hb,db⟩:=rp.lst e2
   exact Az pins s σ H _ _ v us Q I rx rs ⟨a,b,vs,ws,rfl,rfl,hv,hb,by rw[dv.length,db.length];exact big h.1,cl _ _ _ _ h.2 rfl (rp.put hv (dv.append db)) (fH hv)⟩
  ·exact h.elim
 ·exact h.elim
noncomputable def Ci:M2:=λp ps G Q=>match p,ps with
 | .ref a,[]=>match G a with
  |some (.lst xs)=>match xs[xs.length-1]? with
   |some y=>Q y (up G a (.lst xs.dropLast))
   |none=>False
  |_=>False
 |_,_=>False
theorem Dvs.dropLast{K:PySem.W.Frag}{H:Hp}{ps:List PV}{vs:List V}(d:Dvs K H ps vs):Dvs K H ps.dropLast vs.dropLast:=by
 rw[List.dropLast_eq_take,List.dropLast_eq_take,d.length]
 exact d.take _
theorem Mf:Bi X "list.pop" (vI X.K Ci):=by
 intro pins s σ H x xs v us Q I rx rs h
 obtain⟨p,ps,G,Q2,d,ds,rp,h,cl⟩:=h
 unfold Ci at h
 split at h
 ·rename_i a
  split at h
  ·rename_i zs e
   split at h
   ·rename_i y ey
    obtain rfl:x= .ref a:=d
    obtain rfl:xs=[]:=ds
    obtain⟨vs,hv,dv⟩:=rp.lst e
    obtain⟨w,ew,dw⟩:=dv.at ey
    refine Jx pins s σ H _ _ v us Q I rx rs ⟨a,vs,w,rfl,rfl,hv,by rw[dv.length];exact ew,cl _ _ _ _ h (dw.keep (fH hv)) (rp.put hv dv.dropLast) (fH hv)⟩
   ·exact h.elim
  ·exact h.elim
 ·exact h.elim
noncomputable def lB:List PV->Option (List Str)
 |[]=>some []
 | .str b::r=>(lB r).map (b::·)
 |_=>none
theorem uR{K:PySem.W.Frag}{H:Hp}:∀{ps:List PV} {bs:List Str} {vs:List V},lB ps=some bs->Dvs K H ps vs->vs=bs.map V.str
 |[],bs,vs,h,d=>by cases h;exact d
 |p::ps,bs,vs,h,d=>by
  obtain⟨v,r,rfl,d1,d2⟩:=d
  cases p with
  |str b=>
   unfold lB at h
   cases e:lB ps with
   |none=>rw[e]at h;cases h
   |some cs=>
    rw[e]at h
    cases h
    obtain rfl:v= .str b:=d1
    rw[uR e d2]
    rfl
  |_=>cases h
theorem wX(ns:List Str):lB (ns.map PV.str)=some ns:=by
 induction ns with
 |nil=>rfl
 |cons n ns ih=>rw[aE];unfold lB;rw[ih];rfl
noncomputable def vQ:M2:=λp ps G Q=>match p,ps with
 | .str z,[.ref a]=>match lk G a with
  |some xs=>match lB xs with
   |some ys=>(ys.map (·.length)).sum+ys.length*z.length<=16000000/\Q (.str (kz z ys)) G
   |none=>False
  |none=>False
 |_,_=>False
theorem Jy:Bi X "str.join" (vI X.K vQ):=by
 intro pins s σ H x xs v us Q I rx rs h
 obtain⟨p,ps,G,Q2,d,ds,rp,h,cl⟩:=h
 unfold vQ at h
 split at h
 ·rename_i z a
  split at h
  ·rename_i ws e
   split at h
   ·rename_i ys ey
    obtain rfl:x= .str z:=d
    obtain⟨w,rfl,dw⟩:=fk ds
    obtain rfl:w= .ref a:=dw
    obtain⟨vs,sa,da⟩:=fP rp e
    obtain rfl:=uR ey da
    exact FG pins s σ H _ _ v us Q I rx rs ⟨z,a,ys,rfl,rfl,sa,aO h.1 (by decide),cl _ _ _ _ h.2 rfl rp .refl⟩
   ·exact h.elim
  ·exact h.elim
 ·exact h.elim
end
noncomputable abbrev O2:=jo->Gp->(Option Int->Gp->Prop)->Prop
noncomputable def OD(K:PySem.W.Frag)(t:O2):TO:=λσ H Q=>∃τ G Q2,RSt K H σ τ/\Rep K H G/\t τ G Q2/\∀o G' H',Q2 o G'->Rep K H' G'->Keep K H H'->Q o H'
structure JO(X:Cx)(e:Option Expr)(t:O2):Prop where
 h:PO X e (OD X.K t)
noncomputable abbrev oNo:O2:=λ_ G Q=>Q none G
noncomputable abbrev Mb(t:E2):O2:=λτ G Q=>t τ G λx G1=>match x with
 | .int i=>Q (some i) G1
 |_=>False
noncomputable def q9(xs:List PV)(lo hi:Option Int):List PV:=(xs.drop (HT.sIx xs.length 0 lo)).take (HT.sIx xs.length xs.length hi-HT.sIx xs.length 0 lo)
noncomputable def Be:PV->Option Int->Option Int->Gp->K2->Prop:=λp lo hi G Q=>match p with
 | .tup xs=>¬(HT.sIx xs.length 0 lo=0/\HT.sIx xs.length xs.length hi=xs.length)/\Q (.tup (q9 xs lo hi)) G
 | .ref a=>match lk G a with
  |some xs=>∀c,G c=none->Q (.ref c) (up G c (.lst (q9 xs lo hi)))
  |none=>False
 | .str z=>z.length<=16000000/\Q (.str (Txt.slice z lo hi)) G
 |_=>False
noncomputable def Mi(K:PySem.W.Frag)(r:PV->Option Int->Option Int->Gp->K2->Prop):V->Option Int->Option Int->Hp->VK->Prop:=λx lo hi H Q=>∃p G Q2,Dv K H p x/\Rep K H G/\r p lo hi G Q2/\Cl K H Q2 Q
noncomputable abbrev eSl(te:E2)(tl th:O2):E2:=λτ G Q=>te τ G λx G1=>tl τ G1 λl G2=>th τ G2 λu G3=>Be x l u G3 Q
section
variable{X:Cx}{e:Expr}{te:E2}{lo hi:Option Expr}{tl th:O2}{pos p2:Pos}
theorem FV:JO X none oNo:=⟨λpins s σ H Q I ⟨τ,G,Q2,rs,rp,q,cl⟩=>Fc pins s σ H Q I (cl _ _ _ q rp .refl)⟩
theorem FT(h:JE X e te):JO X (some e) (Mb te):=⟨λpins s σ H Q I ⟨τ,G,Q2,rs,rp,q,cl⟩=>Fb h.h pins s σ H Q I ⟨τ,G,_,rs,rp,q,λp G1 v H1 q1 d1 r1 k1=>by
 cases p with
 |int i=>
  obtain rfl:v= .int i:=d1
  exact⟨i,rfl,cl _ _ _ q1 r1 k1⟩
 |_=>exact bN q1⟩⟩
theorem HP{K:PySem.W.Frag}{H:Hp}{ps:List PV}{vs:List V}(d:Dvs K H ps vs)(lo hi:Option Int):Dvs K H (q9 ps lo hi) (ur vs lo hi):=by
 unfold q9 ur
 rw[d.length]
 exact(d.drop _).take _
theorem LF:NK X (Mi X.K Be):=by
 intro pins s σ H x v vl vu lo hi sl Q I rx hs pl pu h
 obtain⟨p,G,Q2,d,rp,h,cl⟩:=h
 unfold Be at h
 split at h
 ·rename_i xs
  obtain⟨a,vs,rfl,sa,da⟩:=d
  refine Im pins s σ H _ v vl vu lo hi sl Q I rx hs pl pu ⟨a,vs,rfl,sa,by rw[da.length];exact h.1,λc hc=> ?_⟩
  have kn:Keep X.K H (upd H c (.tup (ur vs lo hi))):=bE hc
  exact cl _ _ _ _ h.2 ⟨c,_,rfl,.of cr,(HP da lo hi).keep kn⟩ (rp.tup hc) kn
 ·rename_i a
  split at h
  ·rename_i xs e
   obtain rfl:x= .ref a:=d
   obtain⟨vs,sa,da⟩:=fP rp e
   exact EM pins s σ H _ v vl vu lo hi sl Q I rx hs pl pu ⟨a,vs,rfl,sa,λc hc=>cl _ _ _ _ (h c (rp.none hc)) rfl (rp.new hc (HP da lo hi)) (bE hc)⟩
  ·exact h.elim
 ·rename_i z
  obtain rfl:x= .str z:=d
  exact Io pins s σ H _ v vl vu lo hi sl Q I rx hs pl pu ⟨z,rfl,big h.1,cl _ _ _ _ h.2 rfl rp .refl⟩
 ·exact h.elim
theorem Gj(he:JE X e te)(hl:JO X lo tl)(hu:JO X hi th):JE X (.Subscript e (.Slice lo hi none p2) pos) (eSl te tl th):= .of (Cm LF he.h hl.h hu.h) λσ H Q hPl=>by
 obtain⟨τ,G,Q2,rs,rp,q,cl⟩:=hPl
 refine⟨τ,G,_,rs,rp,q,λp G1 v H1 q1 d1 r1 k1=>⟨τ,G1,_,rs.keep k1,r1,q1,λl G2 H2 q2 r2 k2=>⟨τ,G2,_,rs.keep (k1.trans k2),r2,q2,λu G3 H3 q3 r3 k3=> ?_⟩⟩⟩
 exact⟨p,G3,Q2,d1.keep (k2.trans k3),r3,q3,cl.keep ((k1.trans k2).trans k3)⟩
end
theorem Ah(its:Array ae):slicePick its none none (some (-1))=its.toList.reverse.toArray:=by
 rw[<-HT.pick_rev its]
 unfold slicePick
 show(List.filterMap (λx=>its[x]?) (sliceRange ((its.size:Int)-1) (-1) (-1))).toArray=_
 have e:sliceRange ((its.size:Int)-1) (-1) (-1)=(cV its.size).map fun(k:Nat)=>((its.size:Int)-1+(-1)*(k:Int)).toNat:=by
  unfold sliceRange
  have c:(if(-1:Int)>0 then(if((its.size:Int)-1)< -1 then(-1-((its.size:Int)-1)+ -1-1)/ -1 else 0)else(if((its.size:Int)-1)> -1 then(((its.size:Int)-1)- -1- -1-1)/(-(-1))else 0)).toNat=its.size:=by
   rw[if_neg (by decide),show(-(-1:Int))=1 from rfl,Int.ediv_one]
   split<;>ac_nf
  simp only[c]
 rw[e,List.filterMap_map]
 have f:((λx=>its[x]?)∘fun(k:Nat)=>((its.size:Int)-1+(-1)*(k:Int)).toNat)=fun(m:Nat)=>its[((its.size:Int)-1+(m:Int)*(-1)).toNat]? :=by
  funext m
  show its[((its.size:Int)-1+(-1)*(m:Int)).toNat]? =_
  rw[Int.mul_comm]
 rw[f]
noncomputable abbrev OT(te:E2):E2:=λτ G Q=>te τ G λx G1=>match x with
 | .tup xs=>Q (.tup xs.reverse) G1
 | .ref a=>match lk G1 a with
  |some xs=>∀c,G1 c=none->Q (.ref c) (up G1 c (.lst xs.reverse))
  |none=>False
 |_=>False
section
variable{X:Cx}
theorem MJ{e:Expr}{te:E2}{k:Nat}{p1 p2 p3 pos:Pos}(he:JE X e te):JE X (.Subscript e (.Slice none none (some (.UnaryOp .USub (.Constant (.int 1) k p1) p3)) p2) pos) (OT te):=⟨by
 intro pins s σ H Q I h
 obtain⟨τ,G,Q2,rs,rp,h,cl⟩:=h
 refine PyProof.Rows.Subscript_ (dZ (he.h pins s σ H (λv H1=>∃p G1,Dv X.K H1 p v/\Rep X.K H1 G1/\Keep X.K H H1/\(match p with
  | .tup xs=>Q2 (.tup xs.reverse) G1
  | .ref a=>match lk G1 a with
   |some xs=>∀c,G1 c=none->Q2 (.ref c) (up G1 c (.lst xs.reverse))
   |none=>False
  |_=>False)) I ⟨τ,G,_,rs,rp,h,λp G1 v H1 q d r k=>⟨p,G1,d,r,k,q⟩⟩) λv s1 ⟨x,H1,I1,r1,q,G1,d1,rp1,k1,q1⟩=> ?_)
 refine wpAny_Slice ?_
 rw[evalPart_none]
 refine aA (aA ?_)
 have hm:PE X (.UnaryOp .USub (.Constant (.int 1) k p1) p3) (tUn (rU λi=> .int (-i)) (tC (.int 1))):=HA BC Co
 refine dZ (hm pins s1 σ H1 (λv H'=>v= .int (-1)/\H'=H1) I1 ⟨1,rfl,rfl,rfl⟩) λst s3 hPl=> ?_
 obtain⟨v3,H3,I3,r3,e3,eh⟩:=hPl
 subst e3 eh
 obtain⟨tk,rfl⟩:=r3
 have I4:=I3.kept (t':=s3.toks) (h':=s3.heap.push {cls:= .type "slice",data:= .fields #[.none,.none,.int (-1) tk]}) λb ob q=>ak _ q
 have hfr:=I4.hok.fresh (av _)
 cases q with
 |tup ps=>
  obtain⟨a,xs,rfl,hq,da⟩:=d1
  cases r1
  obtain⟨its,rv,pl,hz⟩:=I4.tuple hq
  have hl:=rv.length
  refine PyProof.Rows.tail_any (ops:=[.ref a,.ref s3.heap.objs.size]) pl.typeIs cw.lookup ?_ (by with_unfolding_all rfl)
  refine HT.getItem_tuple_rev pl (j6 ..) ?_ (by rw[aw]<;>ac_nf)
  have kn:=bE (K:=X.K) (o:= .tup xs.reverse) hfr
  refine⟨.ref _,_,I4.laid (t':=s3.toks) (o:= .tup xs.reverse) (λb ob q=>ak _ q) (av _) ?_,rfl,cl _ _ _ _ q1 ⟨_,_,rfl,.of cr,da.reverse.keep kn⟩ (rp1.tup hfr) (k1.trans kn)⟩
  exact⟨by rw[bA];exact hz,its.reverse,rv.reverse,⟨_,aJ _ rfl,rfl,0,by simp⟩⟩
 |ref a=>
  dsimp only at q1
  split at q1
  ·rename_i ps e
   obtain rfl:x= .ref a:=d1
   cases r1
   obtain⟨xs,hq,da⟩:=fP rp1 e
   obtain⟨its,rv,pl,hz⟩:=I4.list hq
   have hl:=rv.length
   refine PyProof.Rows.tail_any (ops:=[.ref a,.ref s3.heap.objs.size]) pl.isList.typeIs tJ.lookup ?_ (by with_unfolding_all rfl)
   refine Bx pl.isList (j6 ..) .none .none (.int (-1) tk) (by simp) ?_ (by rw[aw]<;>ac_nf)
   rw[Ah]
   refine⟨.ref _,_,I4.laid (t':=s3.toks) (o:= .lst xs.reverse) (λb ob q=>ak _ q) (av _) ?_,rfl,cl _ _ _ _ (q1 _ (rp1.none hfr)) rfl (rp1.new hfr da.reverse) (k1.trans (bE hfr))⟩
   exact⟨by rw[bA];exact hz,its.reverse,0,rv.reverse,by rw[aJ _ rfl]⟩
  ·exact q1.elim
 |_=>exact bN q1⟩
end
noncomputable def Ib(p:PV)(G:Gp):Option String:=match p with
 | .non=>some "NoneType"
 | .bl _=>some "bool"
 | .int _=>some "int"
 | .str _=>some "str"
 | .tup _=>some "tuple"
 | .ref a=>match G a with
  |some (.lst _)=>some "list"
  |some (.dK _)=>some "dict"
  |_=>none
 |_=>none
noncomputable def NT(ty T:String):Bool:=ty==T||(ty== "bool" &&T== "int")
noncomputable abbrev tys:List String:=["NoneType", "bool", "int", "str", "tuple", "list", "dict"]
noncomputable abbrev OZ:List String:=["bool", "int", "str", "tuple", "list"]
theorem lJ{K:PySem.W.Frag}{ty T:String}(h1:ty∈tys)(h2:T∈OZ):PySem.W.kitOne K (.type ty) (.type T)=some (NT ty T):=by
 simp only[aD,bi,or_false]at h1 h2
 rcases h1 with rfl|rfl|rfl|rfl|rfl|rfl|rfl<;>rcases h2 with rfl|rfl|rfl|rfl|rfl<;>kernel_rfl
noncomputable def vV:C2:=λps G Q=>match ps with
 |[p,.ty T]=>match Ib p G with
  |some ty=>T∈OZ/\Q (.bl (NT ty T)) G
  |none=>False
 |_=>False
section
variable{X:Cx}
theorem KP:gx X (.builtin "isinstance") (pc X.K vV):=by
 intro pins s σ H xs us Q I rs h
 obtain⟨ps,G,Q2,d,rp,h,cl⟩:=h
 unfold vV at h
 split at h
 ·rename_i p T
  split at h
  ·rename_i ty e
   obtain⟨hT,hq⟩:=h
   obtain⟨v,w,rfl,dv,dw⟩:=pA d
   obtain rfl:w= .ty T:=dw
   cases rs with
   |cons r1 rs=>
    obtain⟨u,rfl,ru⟩:=Vals.one rs
    cases ru
    have fin:∀tk,EP X pins σ Q (.bool (NT ty T)) {s with toks:=tk}:=λtk=>⟨.bl _,H,I.tok tk,rfl,cl _ _ _ _ hq rfl rp .refl⟩
    unfold Ib at e
    split at e
    ·cases e;obtain rfl:v= .non:=dv;cases r1;exact PySem.W.kia_one PySem.W.kitx_none I.kIn cz (lJ (by decide) hT) (λz=>nomatch z) fin
    ·cases e;rename_i b;obtain rfl:v= .bl b:=dv;cases r1;exact PySem.W.kia_one PySem.W.kitx_bool I.kIn cz (lJ (by decide) hT) (λz=>nomatch z) fin
    ·cases e;rename_i b;obtain rfl:v= .int b:=dv;obtain⟨t,rfl⟩:=r1;exact PySem.W.kia_one PySem.W.kitx_int I.kIn cz (lJ (by decide) hT) (λz=>nomatch z) fin
    ·cases e;rename_i b;obtain rfl:v= .str b:=dv;obtain⟨t,rfl⟩:=r1;exact PySem.W.kia_one PySem.W.kitx_str I.kIn cz (lJ (by decide) hT) (λz=>nomatch z) fin
    ·cases e
     obtain⟨a,vs,rfl,sq,_⟩:=dv
     cases r1
     obtain⟨its,_,pl,_⟩:=I.tuple sq
     obtain⟨o,h1,h2,_⟩:=pl
     exact PySem.W.kia_one PySem.W.kitx_tuple I.kIn ⟨o,h1,h2⟩ (lJ (by decide) hT) (λz=>nomatch z) fin
    ·rename_i a
     split at e
     ·cases e
      rename_i qs eg
      obtain rfl:v= .ref a:=dv
      cases r1
      obtain⟨vs,hv,_⟩:=rp.lst eg
      obtain⟨_,_,n,_,h1⟩:=(show ObjOk X.prog X.w H s.heap a (.lst vs)from I.hok a _ hv)
      exact PySem.W.kia_one PySem.W.kitx_list I.kIn ⟨_,h1,rfl⟩ (lJ (by decide) hT) (λz=>nomatch z) fin
     ·cases e
      rename_i qs eg
      obtain rfl:v= .ref a:=dv
      obtain⟨vs,hv,_⟩:=rp a _ eg
      exact AR I r1 (.dK hv) (lJ (by decide) hT) fin
     ·cases e
    ·cases e
  ·exact h.elim
 ·exact h.elim
end
end L3
namespace PySem.SeqAt
open AutoSeq1 (wpAny_loadPart')
open MeetsSeq MeetsSeq2 MeetsSeq3 SeqRoads2
open Builtin Builtin.Range
end PySem.SeqAt
namespace L3
open PySem L2
section
end
noncomputable def Itd(lo:Int)(n:Nat):It:=⟨λi _=>i<n,λi H x H'=>H'=H/\x= .int (lo-i),λi _=>n<=i⟩
noncomputable def jl(lo:Int)(n:Nat):List PV:=(cV n).map fun(i:Nat)=> .int (lo-i)
theorem Gx{K:PySem.W.Frag}{H1:Hp}(lo:Int)(n:Nat):wx K H1 (Itd lo n) (jl lo n) (λ_=>True):=λi H G k r _=>by
 have hl:(jl lo n).length=n:=by unfold jl;simp
 refine⟨λhi=> ?_,λhi=> ?_,λx H' hi y=> ?_⟩
 ·show i<n
  ac_nf
 ·show n<=i
  ac_nf
 ·obtain⟨rfl,rfl⟩:=y
  refine⟨.int (lo-i),?_,.refl,r,rfl⟩
  unfold jl
  rw[aF,cX (by ac_nf)]
  rfl
theorem zY{P:aI}{w:aY}{K:PySem.W.Frag}{tg:Expr}(it:Addr)(lo:Int)(n:Nat):rM P w K tg (Itd lo n) [it] it (λi h=>IsRangeIter h it (lo+(i:Nat)*(-1)) ((n:Int)-(i:Nat)) (-1)) where
 mem:=by simp
 obj:=λi h st b hb=>by
  have e:b=it:=by simpa using hb
  subst e
  exact⟨_,st,λv z=>by
   have z':cZ _=Data.cell v:=z
   cases z'⟩
 keep:=λi h h' st k=>k it (by simp) _ st
 item:=by
  intro X hP hw hK hc i pins s σ H E I hf st hg
  subst hP hw hK
  obtain⟨f0,f1,f2,f3,f4,f5⟩:=hf it (by simp)
  have W:=Walks.range (prog:=X.prog) (w:=X.w) (I.ok.hd hc) it lo (-1) n
  refine W.item i s _ _ hg st λv h' tk hv st' kk=> ?_
  obtain⟨t,rfl⟩:=hv
  have I1:Inv X pins σ H {s with heap:=h',toks:=tk}:=I.turned (λb o hb e=>kk b o (by simpa using hb) e) f0 f1 f3 f4 f5
  refine⟨_,rfl,vY (s:={s with heap:=h',toks:=tk}) (n:= "range_iterator") st' rfl rfl (by decide) ⟨.int (lo-i),H,I1,⟨t,?_⟩,⟨rfl,rfl⟩,st',λb hb=>(hf b hb).1⟩⟩
  rw[show lo+(i:Int)*(-1)=lo-i by ac_nf]
 done:=by
  intro X hP hw hK hc i pins s σ H E I hf st hg
  subst hP hw hK
  obtain⟨f0,f1,f2,f3,f4,f5⟩:=hf it (by simp)
  exact wpAny_pyNext_range_end (I.ok.hd hc) st (by have:n<=i:=hg;ac_nf) λh' eb=>⟨rfl,I.turned (t':=s.toks) (λb o hb e=>eb b o hb e) f0 f1 f3 f4 f5⟩
 self:=λ_ _ _ _ _ st h=>wpAny_pyIter_rangeiter st h
theorem ke(a b:Int):eE a b (-1)=(((a-b).toNat:Nat):Int):=by
 unfold eE
 rw[if_neg (by decide),show(-(-1:Int))=1 from rfl,Int.ediv_one]
 split<;>ac_nf
theorem w6{a b:Int}(ha: -(2^62)<=a)(ha':a<2^62)(hb: -(2^62)<=b)(hb':b<2^62):cb.Range.small a b (-1)=true:=by
 unfold cb.Range.small
 rw[ke]
 simp only[cb.Range.rangeFitsLong,aH,Bool.or_eq_true,decide_eq_true_eq,beq_iff_eq,show¬((-1:Int)>0)by decide,if_false]
 ac_nf
noncomputable abbrev itD(t:A2):rC:=λτ G R=>t τ G λps G1=>match ps with
 |[.int a,.int b,.int c]=>c= -1/\(-(2^62)<=a/\a<2^62/\-(2^62)<=b/\b<2^62)/\R (jl a (a-b).toNat) (λ_=>True) G1
 |_=>False
section
variable{X:Cx}{tg a b c:Expr}{ta:A2}{p pos:Pos}
theorem AN(hm:X.mg "range" =none)(ha:JA X [a,b,c] ta)(hg:Gl X "range" :=by rfl)(hs:aq [a,b,c] X.env=(false,eval a X.env)::aq [b,c] X.env:=by rfl)(hs2:(bB pos (aq [b,c] X.env)).any (·.1)=false:=by rfl):
  JI X tg (.Call (.Name "range" p) [a,b,c] [] pos) (itD ta):=⟨by
 intro pins s σ H R I h
 obtain⟨τ,G,R2,rs,rp,h,cl⟩:=h
 refine PyProof.Rows.Call_ (lI I hg hm PyProof.Rows.boot_range (dG (dZ (ha.h pos pins s σ H (λvs H1=>∃ps G1,Dvs X.K H1 ps vs/\Rep X.K H1 G1/\Keep X.K H H1/\(match ps with
  |[.int a,.int b,.int c]=>c= -1/\(-(2^62)<=a/\a<2^62/\-(2^62)<=b/\b<2^62)/\R2 (jl a (a-b).toNat) (λ_=>True) G1
  |_=>False)) I ⟨τ,G,_,rs,rp,h,λps G1 vs H1 q d r k=>⟨ps,G1,d,r,k,q⟩⟩) λus s1 ⟨vs,H1,I1,r1,ps,G1,d1,rp1,k1,q1⟩=> ?_) hs hs2))
 split at q1
 ·rename_i a b c
  obtain⟨rfl,⟨b1,b2,b3,b4⟩,q⟩:=q1
  obtain⟨v1,z,rfl,e1,d1⟩:=d1
  obtain⟨v2,v3,rfl,e2,e3⟩:=pA d1
  obtain rfl:v1= .int a:=e1
  obtain rfl:v2= .int b:=e2
  obtain rfl:v3= .int (-1):=e3
  cases r1 with
  |cons r1 r2=>
   cases r2 with
   |cons r2 r3=>
    cases r3 with
    |cons r3 r4=>
     cases r4
     obtain⟨t1,rfl⟩:=r1
     obtain⟨t2,rfl⟩:=r2
     obtain⟨t3,rfl⟩:=r3
     refine call_range_3 (by decide) ?_ (.inl (PyProof.noPylong_small (by decide)))
     refine wpAny_pyIter_range (IsRange.new ..) (w6 b1 b2 b3 b4) ?_
     have I2:Inv X pins σ H1 {s1 with heap:=s1.heap.push {cls:= .type "range",data:= .fields #[.int a t1,.int b t2,.int (-1) t3]},toks:=s1.toks}:=I1.kept λb o e=>ak _ e
     refine⟨(s1.heap.push {cls:= .type "range",data:= .fields #[.int a t1,.int b t2,.int (-1) t3]}).objs.size,[(s1.heap.push {cls:= .type "range",data:= .fields #[.int a t1,.int b t2,.int (-1) t3]}).objs.size],_,_,H1,rfl,
      I2.kept (t':=s1.toks) λb o e=>ak _ e,zY _ a (a-b).toNat,?_,λad hb=> ?_,cl _ _ _ _ _ q rp1 k1 (Gx _ _)⟩
     ·have e1:a+((0:Nat):Int)*(-1)=a:=by simp
      show IsRangeIter _ _ (a+((0:Nat):Int)*(-1)) ((((a-b).toNat:Nat):Int)-((0:Nat):Int)) (-1)
      rw[e1,show(((a-b).toNat:Nat):Int)-((0:Nat):Int)=eE a b (-1)by rw[ke];simp]
      exact aJ _ rfl
     ·rw[au.mp hb]
      exact I2.fpOk (av _) (I2.hok.fresh (av _))
 ·exact q1.elim⟩
end
noncomputable abbrev OB:U2:=λp G Q=>match p with
 | .int i=>Q (.int (-i)) G
 |_=>False
theorem Ln{X:Cx}:NJ X (unaryOp .USub) (Mh X.K OB):=by
 intro pins s σ H x v Q I rx h
 obtain⟨p,G,Q2,d,rp,h,cl⟩:=h
 cases p with
 |int i=>
  obtain rfl:x= .int i:=d
  exact BC pins s σ H _ v Q I rx ⟨i,rfl,cl _ _ _ _ h rfl rp .refl⟩
 |_=>exact bN h
noncomputable abbrev HI:B2:=KA λi j=> .int (i+j)
theorem qz{X:Cx}:Lg X .Add (fG X.K HI):=by
 intro pins s σ H x y v u Q I rx ry h
 obtain⟨p,q,G,Q2,d1,d2,rp,h,cl⟩:=h
 unfold HI KA at h
 split at h
 ·rename_i i j
  obtain rfl:x= .int i:=d1
  obtain rfl:y= .int j:=d2
  exact Kw pins s σ H _ _ v u Q I rx ry ⟨i,j,rfl,rfl,cl _ _ _ _ h rfl rp .refl⟩
 ·exact h.elim
noncomputable def Go:B2:=λp q G Q=>match p,q with
 | .ref a,.int i=>match lk G a with
  |some ps=>match oV ps i with
   |some x=>Q x G
   |none=>False
  |none=>False
 |_,_=>False
theorem Ni{X:Cx}:K8 X (fG X.K Go):=by
 intro pins s σ H o i ov iv Q I r1 r2 h
 obtain⟨p,q,G,Q2,d1,d2,rp,h,cl⟩:=h
 unfold Go at h
 split at h
 ·rename_i a k
  split at h
  ·rename_i ps e0
   split at h
   ·rename_i z e
    obtain rfl:o= .ref a:=d1
    obtain rfl:i= .int k:=d2
    obtain⟨vs,sa,da⟩:=fP rp e0
    obtain⟨w,ew,dw⟩:=Ej da e
    cases r1
    obtain⟨t,rfl⟩:=r2
    obtain⟨its,r,pl,hz⟩:=I.list sa
    obtain⟨j,h1,h2,h3,h4,h5⟩:=pN ew
    obtain⟨u,eu,ru⟩:=r.get h2
    have hl:=r.length
    have hn:=lH
    have fin:EP X pins σ Q u s:=⟨w,H,I,ru,cl _ _ _ _ h dw rp .refl⟩
    by_cases h0:0<=k
    ·have hj:k.toNat=j:=by
      rw[PySem.seqIndex_of h0 h5]at h1
      exact a8 h1
     exact wpAny_getItem_list pl.isList h0 (by ac_nf) (by rw[hj];simpa using eu) fin
    ·have hj:(k+(its.toArray.size:Int)).toNat=j:=by
      rw[PySem.seqIndex_neg (by ac_nf) h4]at h1
      rw[aw,<-hl]
      exact a8 h1
     exact wpAny_getItem_list_neg pl.isList (by ac_nf) (by rw[aw];ac_nf) (by ac_nf) (by rw[hj];simpa using eu) fin
   ·exact h.elim
  ·exact h.elim
 ·exact h.elim
theorem Jt{M:Model}{A:Around}{E:ae->ai->Prop}{s:ai}{T:String}{vs:List ae}{Q:ae->ai->Prop}(h:Q (.ref s.heap.objs.size) {s with heap:=s.heap.push {cls:= .type T,dict:=none,data:= .fields vs.toArray}})(hs:sizeOk (.fields vs.toArray)):
  wpAny M A (cb.SmallTypes.newRecord (.type T) vs) Q E s:=by
 show wpAny M A (newObj (.type T) (.fields vs.toArray)) Q E s
 exact bF h hs
theorem nd5(n:Nat):[n+4,n+2,n+3,n,n+1].Nodup:=by
 simp only[bu,aD,bi,or_false,not_or,not_false_eq_true,List.nodup_nil,and_true]
 ac_nf
end L3
namespace L2
open PySem PySem.Spec PyProof.Rows
noncomputable abbrev Hi(x y:Str)(px py:Pos)(kt:Nat)(pt:Pos):Expr:= .Tuple [.Name x px,.Name y py] kt pt
structure pQ(scope:e8)(M:List Str)(ix:List (Option Nat))(j2:Nat)(y:Str):Prop where
 tgt:M[j2]? =some y
 loc:scope.names.lookup y=some .local
 own:ix[j2]? =some none
theorem z9{c:St}{j j2:Nat}{v u:V}(h:c[j]? =some none)(h2:c[j2]? =some none):∀(i:Nat) (z:V),c[i]? =some (some z)->((c.set j (some v)).set j2 (some u))[i]? =some (some z):=λi z e=>by
 have n1:j≠i:=λq=>by subst q;rw[h]at e;cases e
 have n2:j2≠i:=λq=>by subst q;rw[h2]at e;cases e
 rw[cf n2,cf n1];exact e
noncomputable def zT(K:PySem.W.Frag)(J:It)(ix:List (Option Nat))(j j2:Nat)(σ:St)(tf:TT)(te:TE)(Q:VK)(H1:Hp)(acc:Addr):Prop:=∃W:Nat->Nat->Hp->Prop,(∃m,W 0 m (upd H1 acc (.lst [])))/\∀i m H',W i m H'->
 (J.stop i H'/\Q (.ref acc) H')\/(J.go i H'/\∀x H2,J.yld i H' x H2->∃a u1 u2,x= .ref a/\SqT K H2 a [u1,u2]/\tf (((ky ix σ).set j (some u1)).set j2 (some u2)) H2 λb H3=>
  if b=true then te (((ky ix σ).set j (some u1)).set j2 (some u2)) H3 λy H4=>∃ys,H4 acc=some (.lst ys)/\ys.length<aK/\∃m',m'<m/\W (i+1) m' (upd H4 acc (.lst (ys++[y])))
  else∃m',m'<m/\W (i+1) m' H3)
noncomputable def BI(K:PySem.W.Frag)(wi:TI)(ix:List (Option Nat))(j j2:Nat)(tf:TT)(te:TE):TE:=λσ H Q=>wi σ H λJ H1=>∀acc,H1 acc=none->zT K J ix j j2 σ tf te Q H1 acc
section
variable{X:Cx}{scope:e8}{M:List Str}{ix:List (Option Nat)}{j:Nat}{x:Str}
theorem wk{elt iter:Expr}{px py pt:Pos}{kt j2:Nat}{y:Str}{ifs:List Expr}{pos:Pos}{tf:TT}{te:TE}{pins:List (Addr×Obj)}{σ:St}{H:Hp}{s:ai}{fp:List Addr}{it:Addr}{tn:Nat->Heap->Prop}{J:It}{h1:Heap}{tk:Nat}{Q:VK}{R:Result->ai->Prop}
  (S:g7 X.env.scope X.N scope M ix j x) (S2:pQ scope M ix j2 y) (hc:X.calm=true) (I:Inv X pins σ H s)
  (hF:PF (bW X M scope (s.heap.objs.size+1) s H fp) ifs tf) (hE:PE (bW X M scope (s.heap.objs.size+1) s H fp) elt te)
  (T:rM X.prog X.w X.K (Hi x y px py kt pt) J fp it tn) (st:tn 0 s.heap) (hf:∀b∈fp,ph X pins H b)
  (I0:Inv (bW X M scope (s.heap.objs.size+1) s H fp) [] (ky ix σ) (upd H s.heap.objs.size (.lst [])) {s with heap:=h1,toks:=tk}) (old:∀b o,s.heap.get? b=some o->h1.get? b=some o)
  (q:zT X.K J ix j j2 σ tf te Q H s.heap.objs.size)
  (hR:∀H' s',Inv (bW X M scope (s.heap.objs.size+1) s H fp) [] (ky ix σ) H' s'->Q (.ref s.heap.objs.size) H'->R (.ok .next) s'):
  codeAny (aQ X.prog X.w) X.A (.compLoop (.ListComp elt [⟨Hi x y px py kt pt,iter,ifs,0⟩] scope pos) 0 (.ref it) (.ref s.heap.objs.size) (compEnvC scope (kZ X.env.cells scope.names []) (s.heap.objs.size+1) X.env)) R {s with heap:=h1,toks:=tk}:=by
 obtain⟨W,⟨m0,w0⟩,turn⟩:=q
 have hD:s.heap.objs.size∉fp:=λz=>by
  obtain⟨o,e,_⟩:=T.obj 0 s.heap st _ z
  exact absurd (aC e) (cU _)
 have hlt:∀b∈fp,b<s.heap.objs.size:=λb hb=>by
  obtain⟨o,e,_⟩:=T.obj 0 s.heap st b hb
  exact aC e
 have stat:∀{H':Hp},(∀b∈fp,H' b=none)->∀b∈fp,ph (bW X M scope (s.heap.objs.size+1) s H fp) [] H' b:=λhn b hb=>
  ⟨hn b hb,aU (eQ (hlt b hb)),I0.ok.exfs b hb,.inl hb,(I0.ok.exf b hb).2,λp hp=>absurd (show p∈([]:List (Addr×Obj))from hp) (by simp)⟩
 have own:=uu S.own σ
 have own2:=uu S2.own σ
 refine mW rfl (λn s'=>∃i H',Inv (bW X M scope (s.heap.objs.size+1) s H fp) [] (ky ix σ) H' s'/\tn i s'.heap/\(∀b∈fp,H' b=none)/\W i n H') ?_ m0
  ⟨0,_,I0,T.keep 0 _ _ st λb _ o e=>old b o e,λb hb=>by rw[br (aU (hlt b hb))];exact(hf b hb).1,w0⟩
 rintro n s3 ⟨i,H3,I3,st3,fr3,w3⟩
 rcases turn i n H3 w3 with⟨stop,qn⟩|⟨go,step⟩
 ·refine bc (T.done (bW X M scope (s.heap.objs.size+1) s H fp) rfl rfl rfl hc i [] s3 (ky ix σ) H3 (λ_ _=>False) I3 (stat fr3) st3 stop) (λr s4 hPl=> ?_) (λ_ _ z=>z.elim)
  obtain⟨hr,I4⟩:=hPl
  subst hr
  exact hR H3 s4 I4 qn
 ·refine bc (T.item (bW X M scope (s.heap.objs.size+1) s H fp) rfl rfl rfl hc i [] s3 (ky ix σ) H3 (λ_ _=>False) I3 (stat fr3) st3 go) (λr s4 hPl=> ?_) (λ_ _ z=>z.elim)
  obtain⟨u,hr,h4⟩:=hPl
  subst hr
  refine bc h4 (λ_ s5 hPl=> ?_) (λ_ _ z=>z.elim)
  obtain⟨yv,H5,I5,r5,y5,st5,fr5⟩:=hPl
  have I5':=I5.pinned (stat fr5) (T.obj _ _ st5)
  have pg:PG (bW X M scope (s.heap.objs.size+1) s H fp) (Hi x y px py kt pt) (Nj X.K 2 (DM (qU j) (DM (qU j2) Nl))):=
   Ck hc (mD (kD S.nd S.tgt (.inl (by show(relabel scope X.env).names.lookup x=some .local;exact eU S.loc)) (.inr (by show(relabel scope X.env).names.lookup x=some .local;exact eU S.loc)))
    (mD (kD S.nd S2.tgt (.inl (by show(relabel scope X.env).names.lookup y=some .local;exact eU S2.loc)) (.inr (by show(relabel scope X.env).names.lookup y=some .local;exact eU S2.loc))) zd))
  obtain⟨ta,u1,u2,et,sq,step⟩:=step yv _ y5
  refine bc (pg _ s5 (ky ix σ) H5 yv u (λσ2 H2=>σ2=((ky ix σ).set j (some u1)).set j2 (some u2)/\H2=H5) I5' r5 ⟨ta,[u1,u2],et,sq,rfl,u1,[u2],rfl,u2,[],rfl,rfl,rfl,rfl⟩) (λ_ s6 hPl=> ?_) (λ_ _ z=>z.elim)
  obtain⟨σ6,H6,I6,e6,eh6⟩:=hPl
  subst e6;subst eh6
  have again:∀{H7:Hp} {s7:ai},Inv (bW X M scope (s.heap.objs.size+1) s H fp) ([]++n5 fp s5.heap) (((ky ix σ).set j (some u1)).set j2 (some u2)) H7 s7->(∃m',m'<n/\W (i+1) m' H7)->
    ∃m,m<n/\∃i H',Inv (bW X M scope (s.heap.objs.size+1) s H fp) [] (ky ix σ) H' s7/\tn i s7.heap/\(∀b∈fp,H' b=none)/\W i m H':=fun{H7 s7} I7 ⟨m',hm,w7⟩=>by
   have Iw:Inv (bW X M scope (s.heap.objs.size+1) s H fp) [] (ky ix σ) H7 s7:=(Inv.unpinned (pins:=[]) I7).weak (by simp) (z9 own own2)
   refine⟨m',hm,i+1,H7,Iw,T.keep _ _ _ st5 λb hb o e=>(I7.pin (b,o) (aX _ (aX _ (gX hb e)))).1,λb hb=> ?_,w7⟩
   obtain⟨o,e,d⟩:=T.obj _ _ st5 b hb
   exact(I7.pin (b,o) (aX _ (aX _ (gX hb e)))).2.1
  refine bc (hF _ s6 _ _ _ I6 step) (λb s7 hPl=> ?_) (λ_ _ z=>z.elim)
  obtain⟨H7,I7,q7⟩:=hPl
  cases b with
  |false=>
   simp only[o4,if_false]at q7⊢
   exact again I7 q7
  |true=>
   simp only[if_true]at q7⊢
   refine bc (hE _ s7 _ H7 _ I7 q7) (λv s8 hPl=> ?_) (λ_ _ z=>z.elim)
   obtain⟨z,H8,I8,r8,ys,hy,hz,q8⟩:=hPl
   refine bc (og (X:=bW X M scope (s.heap.objs.size+1) s H fp) _ s8 _ H8 (.ref s.heap.objs.size) [z] (.ref s.heap.objs.size) [v] (λ_ H'=>H'=upd H8 s.heap.objs.size (.lst (ys++[z]))) I8 rfl (.cons r8 .nil) ⟨s.heap.objs.size,ys,z,rfl,rfl,hy,hz,rfl⟩) (λw s9 hPl=> ?_) (λ_ _ z=>z.elim)
   obtain⟨_,H9,I9,_,e9⟩:=hPl
   subst e9
   exact again I9 q8
theorem Ct{elt iter:Expr}{px py pt:Pos}{kt j2:Nat}{y:Str}{ifs:List Expr}{pos:Pos}{wi:TI}{tf:TT}{te:TE}(S:g7 X.env.scope X.N scope M ix j x)(S2:pQ scope M ix j2 y)(hc:X.calm=true)(hi:PI X (Hi x y px py kt pt) iter wi)
  (hb:∀C s H fp,PF (bW X M scope C s H fp) ifs tf/\PE (bW X M scope C s H fp) elt te) (hs:∀x,dU iter X.env x=pure x:=by intro _;rfl):
  PE X (.ListComp elt [⟨Hi x y px py kt pt,iter,ifs,0⟩] scope pos) (BI X.K wi ix j j2 tf te):=by
 intro pins s σ H Q I h
 rw[eval_ListComp]
 refine kT (use:=none) rfl hs (i4 λy hy e=>I.ok.has y.1 (S.free y hy e)) S.kind S.names (bc (hi pins s σ H _ I h) (λxv s₁ h₁=>bc h₁ (λit s₂ h₂=> ?_) λ_ _ e=>e) λ_ _ e=>e)
 obtain⟨it,fp,tn,J,H2,rfl,I2,T,st2,f2,q⟩:=h₂
 refine bF (o7 S.nocell (by intro y hy;simp at hy) (λh₁ hns₁ hsb₁=> ?_) S.kind)
 dsimp only at hns₁ hsb₁⊢
 have hC:(s₂.heap.push {cls:= .type "list",dict:=none,data:= .seq ([]:List ae).toArray}).objs.size=s₂.heap.objs.size+1:=cW ..
 rw[hC]at hns₁ hsb₁⊢
 have below:∀b,b<s₂.heap.objs.size->b≠s₂.heap.objs.size+1:=λb hb=>aU (eQ hb)
 have old:∀b o,s₂.heap.get? b=some o->h₁.get? b=some o:=λb o e=>hsb₁.extBut b o (below b (aC e)) (ak _ (ak _ e))
 have hD:h₁.get? s₂.heap.objs.size=some {cls:= .type "list",data:= .seq ([]:List ae).toArray 0}:=hsb₁.extBut _ _ (aU (gf _)) (ak _ (aJ _ rfl))
 have ns:h₁.Ns (s₂.heap.objs.size+1) λ_=>none:=hns₁
 have hft:∀b∈fp,b<s₂.heap.objs.size:=λb hb=>by
  obtain⟨o,e,_⟩:=T.obj 0 s₂.heap st2 b hb
  exact aC e
 have I0:=(lO (h1:=h₁) S I2 f2 hft old hD ns).tok s₂.toks
 have hfr:H2 s₂.heap.objs.size=none:=I2.hok.fresh (av _)
 have loop:codeAny (aQ X.prog X.w) X.A (.compLoop (.ListComp elt [⟨Hi x y px py kt pt,iter,ifs,0⟩] scope pos) 0 (.ref it) (.ref s₂.heap.objs.size) (compEnvC scope (kZ X.env.cells scope.names []) (s₂.heap.objs.size+1) X.env))
   (compPost (aQ X.prog X.w) X.A X.xe none (EP X pins σ Q) (.ref s₂.heap.objs.size) (s₂.heap.objs.size+1)) {s₂ with heap:=h₁,toks:=s₂.toks}:=by
  refine wk (Q:=Q) S S2 hc I2 (hb _ _ _ _).1 (hb _ _ _ _).2 T st2 f2 I0 old (q _ hfr) λH' s' I' qq=> ?_
  obtain⟨m,hn,_⟩:=I'.loc
  exact⟨m,hn,λh' hb'=>⟨.ref s₂.heap.objs.size,H',ra I2 (fS _) f2 I' hb',rfl,qq⟩⟩
 exact mY loop (T.self _ 0 _ _ _ (T.keep 0 _ _ st2 λb _ o e=>old b o e) loop)
end
end L2
namespace L3
open PySem L2
theorem eI{k:Nat}{A:Around}(r:Room k A):A.units+200<gZ:=by have:=r.un;ac_nf
theorem jc{α:Type}{P Q:α->Prop}{t:α}(a:P t)(b:Q t):∃t,P t/\Q t:=⟨t,a,b⟩
theorem oU:bY "isinstance" =some (.builtin "isinstance"):=by decide+kernel
theorem Ed:bY "int" =some (.type "int"):=by decide+kernel
theorem A9:bY "bool" =some (.type "bool"):=by decide+kernel
theorem xV:bY "tuple" =some (.type "tuple"):=by decide+kernel
theorem oB:bY "list" =some (.type "list"):=by decide+kernel
theorem Ec:bY "max" =some (.builtin "max"):=by decide+kernel
theorem Ea:bY "sum" =some (.builtin "sum"):=by decide+kernel
noncomputable def Ee:List Str:=["isinstance", "int", "bool", "str", "tuple", "list", "range", "all", "any", "max", "sum", "sorted", "len", "enumerate", "min", "zip", "set", "dict"]
noncomputable def BN(mg:Str->Option ae):Prop:=∀x:Str,Ee.contains x=true->mg x=none
theorem BN.len{mg:Str->Option ae}(h:BN mg):mg "len" =none:=h _ (by decide+kernel)
theorem BN.isinstance{mg:Str->Option ae}(h:BN mg):mg "isinstance" =none:=h _ (by decide+kernel)
theorem BN.int{mg:Str->Option ae}(h:BN mg):mg "int" =none:=h _ (by decide+kernel)
theorem BN.bool{mg:Str->Option ae}(h:BN mg):mg "bool" =none:=h _ (by decide+kernel)
theorem BN.tuple{mg:Str->Option ae}(h:BN mg):mg "tuple" =none:=h _ (by decide+kernel)
theorem BN.list{mg:Str->Option ae}(h:BN mg):mg "list" =none:=h _ (by decide+kernel)
theorem BN.range{mg:Str->Option ae}(h:BN mg):mg "range" =none:=h _ (by decide+kernel)
theorem BN.max{mg:Str->Option ae}(h:BN mg):mg "max" =none:=h _ (by decide+kernel)
theorem BN.sum{mg:Str->Option ae}(h:BN mg):mg "sum" =none:=h _ (by decide+kernel)
section
variable{X:Cx}{e:Expr}{es:List Expr}{t:A2}{p pos:Pos}
theorem J7(B:BN X.mg)(ha:JA X (e::es) t)(hg:Gl X "len" :=by rfl)(he:aq (e::es) X.env=(false,eval e X.env)::aq es X.env:=by rfl)(hpl:(bB pos (aq es X.env)).any (·.1)=false:=by rfl):JE X (.Call (.Name "len" p) (e::es) [] pos) (v8 jA t):=kG NC B.len PySem.boot_len ha hg (by decide) (by decide) he hpl
theorem Gb(B:BN X.mg)(ha:JA X (e::es) t)(hg:Gl X "isinstance" :=by rfl)(he:aq (e::es) X.env=(false,eval e X.env)::aq es X.env:=by rfl)(hpl:(bB pos (aq es X.env)).any (·.1)=false:=by rfl):JE X (.Call (.Name "isinstance" p) (e::es) [] pos) (v8 vV t):=kG KP B.isinstance oU ha hg (by decide) (by decide) he hpl
theorem J6(B:BN X.mg)(hc:X.calm=true)(ha:JA X (e::es) t)(hg:Gl X "max" :=by rfl)(he:aq (e::es) X.env=(false,eval e X.env)::aq es X.env:=by rfl)(hpl:(bB pos (aq es X.env)).any (·.1)=false:=by rfl):JE X (.Call (.Name "max" p) (e::es) [] pos) (v8 Da t):=kG (KN hc) B.max Ec ha hg (by decide) (by decide) he hpl
theorem JZ(B:BN X.mg)(hc:X.calm=true)(ha:JA X (e::es) t)(hg:Gl X "sum" :=by rfl)(he:aq (e::es) X.env=(false,eval e X.env)::aq es X.env:=by rfl)(hpl:(bB pos (aq es X.env)).any (·.1)=false:=by rfl):JE X (.Call (.Name "sum" p) (e::es) [] pos) (v8 BM t):=kG (NB hc) B.sum Ea ha hg (by decide) (by decide) he hpl
theorem zx(B:BN X.mg)(hc:X.calm=true)(ha:JA X (e::es) t)(hg:Gl X "list" :=by rfl)(he:aq (e::es) X.env=(false,eval e X.env)::aq es X.env:=by rfl)(hpl:(bB pos (aq es X.env)).any (·.1)=false:=by rfl):JE X (.Call (.Name "list" p) (e::es) [] pos) (v8 Dj t):=qO (KO hc) B.list oB ha hg (by decide) (by decide) he hpl
theorem Du(B:BN X.mg)(ha:JA X (e::es) t)(hg:Gl X "tuple" :=by rfl)(he:aq (e::es) X.env=(false,eval e X.env)::aq es X.env:=by rfl)(hpl:(bB pos (aq es X.env)).any (·.1)=false:=by rfl):JE X (.Call (.Name "tuple" p) (e::es) [] pos) (v8 pZ t):=qO GU B.tuple xV ha hg (by decide) (by decide) he hpl
theorem JU(B:BN X.mg)(hg:Gl X "int" :=by rfl):JE X (.Name "int" pos) (eC (.ty "int")):=Gh B.int Ed hg
theorem FX(B:BN X.mg)(hg:Gl X "bool" :=by rfl):JE X (.Name "bool" pos) (eC (.ty "bool")):=Gh B.bool A9 hg
theorem FW(B:BN X.mg)(hg:Gl X "list" :=by rfl):JE X (.Name "list" pos) (eC (.ty "list")):=Gh B.list oB hg
end
section
variable{X:Cx}{a b:Expr}{ta tb:E2}{pos:Pos}
theorem Ke(ha:JE X a ta)(hb:JE X b tb):JE X (.BinOp a .Add b pos) (jU ya ta tb):=ua HC ha hb
theorem J8(ha:JE X a ta)(hb:JE X b tb):JE X (.BinOp a .Sub b pos) (jU uQ ta tb):=ua L5 ha hb
theorem Kc(ha:JE X a ta)(hb:JE X b tb):JE X (.BinOp a .Mult b pos) (jU Ax ta tb):=ua L7 ha hb
theorem Kd(ha:JE X a ta)(hb:JE X b tb):JE X (.BinOp a .Mod b pos) (jU Me ta tb):=ua L8 ha hb
theorem Gd(ha:JE X a ta)(hb:JE X b tb):JE X (.BinOp a .FloorDiv b pos) (jU zE ta tb):=ua Jr ha hb
theorem J9(ha:JE X a ta)(hb:JE X b tb):JE X (.BinOp a .Pow b pos) (jU LO ta tb):=ua L6 ha hb
theorem MG(hu:X.A.units+200<gZ)(ha:JE X a ta)(hb:JE X b tb):JE X (.Compare a [.Eq] [b] pos) (jU Np ta tb):=HF (Cw hu) ha hb (kg _)
theorem Mz(ha:JE X a ta)(hb:JE X b tb):JE X (.Compare a [.Lt] [b] pos) (jU Mg ta tb):=HF Jq ha hb (kg _)
theorem Mv(hu:X.A.units+200<gZ)(ha:JE X a ta)(hb:JE X b tb):JT X (.Compare a [.Eq] [b] pos) (wB (jU Np ta tb)):=jB (Cw hu) ha hb (kg _)
theorem Mp(hu:X.A.units+200<gZ)(ha:JE X a ta)(hb:JE X b tb):JT X (.Compare a [.NotEq] [b] pos) (wB (jU Le ta tb)):=jB (Jc hu) ha hb (kg _)
theorem Mq(ha:JE X a ta)(hb:JE X b tb):JT X (.Compare a [.Lt] [b] pos) (wB (jU Mg ta tb)):=jB Jq ha hb (kg _)
theorem Mr(ha:JE X a ta)(hb:JE X b tb):JT X (.Compare a [.LtE] [b] pos) (wB (jU Mm ta tb)):=jB L9 ha hb (kg _)
theorem Mt(ha:JE X a ta)(hb:JE X b tb):JT X (.Compare a [.Gt] [b] pos) (wB (jU gt2 ta tb)):=jB Oz ha hb (kg _)
theorem Mu(ha:JE X a ta)(hb:JE X b tb):JT X (.Compare a [.GtE] [b] pos) (wB (jU kq ta tb)):=jB OA ha hb (kg _)
theorem Ms(ha:JE X a ta)(hb:JE X b tb)(hm:g6 .In b=false):JT X (.Compare a [.In] [b] pos) (wB (jU (Na false) ta tb)):=jB Oy ha hb hm
theorem MQ(ha:JE X a ta)(hb:JE X b tb)(hs:uB b:=by exact λ_ _=>rfl):JE X (.Subscript a b pos) (jU Gr ta tb):=OH Lj ha hb hs
theorem OF(h:JW X a tA):JT X a tA:=h.jt
end
section
variable{X:Cx}{o e:Expr}{to:E2}{t:A2}{apos cpos:Pos}
theorem AM(ho:JE X o to)(ha:JA X [e] t)
  (hbase:cg o "append" X.env (eval o X.env)=eval o X.env:=by rfl) (hfew:((bB cpos (aq [e] X.env)).all (λx=> !x.1)&&(gB cpos (dO [] X.env)).all (λx=>x.1.isSome)&&decide (([e]:List Expr).length+([]:List fz).length+(if([]:List fz).isEmpty then 0 else 1)<30))=true:=by rfl)
  (hline:(apos.endLine==cpos.line)=true:=by rfl) (hs:aq [e] X.env=(false,eval e X.env)::aq [] X.env:=by rfl):JE X (.Call (.Attribute o "append" apos) [e] [] cpos) (GN nq to t):=Dy PySem.F.slot_list_append PySem.F.type_list_append De ho ha hbase hfew hline hs rfl
theorem AL(ho:JE X o to)(ha:JA X [e] t)
  (hbase:cg o "extend" X.env (eval o X.env)=eval o X.env:=by rfl) (hfew:((bB cpos (aq [e] X.env)).all (λx=> !x.1)&&(gB cpos (dO [] X.env)).all (λx=>x.1.isSome)&&decide (([e]:List Expr).length+([]:List fz).length+(if([]:List fz).isEmpty then 0 else 1)<30))=true:=by rfl)
  (hline:(apos.endLine==cpos.line)=true:=by rfl) (hs:aq [e] X.env=(false,eval e X.env)::aq [] X.env:=by rfl):JE X (.Call (.Attribute o "extend" apos) [e] [] cpos) (GN jE to t):=Dy PySem.F.slot_list_extend PySem.F.type_list_extend Dd ho ha hbase hfew hline hs rfl
theorem FY(ho:JE X o to)(ha:JA X [e] t)
  (hbase:cg o "join" X.env (eval o X.env)=eval o X.env:=by rfl) (hfew:((bB cpos (aq [e] X.env)).all (λx=> !x.1)&&(gB cpos (dO [] X.env)).all (λx=>x.1.isSome)&&decide (([e]:List Expr).length+([]:List fz).length+(if([]:List fz).isEmpty then 0 else 1)<30))=true:=by rfl)
  (hline:(apos.endLine==cpos.line)=true:=by rfl) (hs:aq [e] X.env=(false,eval e X.env)::aq [] X.env:=by rfl):JE X (.Call (.Attribute o "join" apos) [e] [] cpos) (Nq vQ to t):=MM PySem.F.slot_str_join PySem.F.type_str_join Jy ho ha hbase hfew hline hs rfl
theorem JV(ho:JE X o to)(hbase:cg o "pop" X.env (eval o X.env)=eval o X.env:=by rfl)(hline:(apos.endLine==cpos.line)=true:=by rfl):JE X (.Call (.Attribute o "pop" apos) [] [] cpos) (HM Ci to):=Kg PySem.F.slot_list_pop PySem.F.type_list_pop Mf ho hbase hline
end
noncomputable def OV(items:List PV)(c:Gp->Prop)(ix:List (Option Nat))(j j2:Nat)(τ:jo)(tf:T2)(te:E2)(Q:K2)(G1:Gp)(acc:Addr):Prop:=
 ∃W:Nat->List PV->Gp->Prop,W 0 [] (up G1 acc (.lst []))/\(∀i ys G,i<=items.length->W i ys G->c G/\G acc=some (.lst ys)/\ys.length<16000000)/\
  (∀i ys G x,items[i]? =some x->W i ys G->∃p q,x= .tup [p,q]/\tf (st (st (nc ix τ) j (some p)) j2 (some q)) G λb G2=>o8 b (te (st (st (nc ix τ) j (some p)) j2 (some q)) G2 λy G3=>G3 acc=some (.lst ys)/\W (i+1) (ys++[y]) (up G3 acc (.lst (ys++[y])))) (W (i+1) ys G2))/\∀ys G,W items.length ys G->Q (.ref acc) G
noncomputable abbrev DW(ti:rC)(ix:List (Option Nat))(j j2:Nat)(tf:T2)(te:E2):E2:=λτ G Q=>ti τ G λitems c G1=>∀acc,G1 acc=none->OV items c ix j j2 τ tf te Q G1 acc
section
variable{X:Cx}
theorem AC{ti:rC}{ix:List (Option Nat)}{j j2:Nat}{tf:T2}{te:E2}{σ:L2.St}{H:Hp}{Q:VK}(q:kX X.K (DW ti ix j j2 tf te) σ H Q):BI X.K (FI X.K ti) ix j j2 (vH X.K tf) (kX X.K te) σ H Q:=by
 obtain⟨τ,G,Q2,rs,rp,q,cl⟩:=q
 refine⟨τ,G,_,rs,rp,q,λitems c G1 J H1 q1 r1 k1 ok acc hacc=> ?_⟩
 obtain⟨W,w0,hW,turn,done⟩:=q1 acc (r1.none hacc)
 have kn:Keep X.K H1 (upd H1 acc (.lst [])):=bE hacc
 refine⟨λi m H'=>m=items.length-i/\i<=items.length/\∃ys G',W i ys G'/\Rep X.K H' G'/\Keep X.K H1 H',⟨_,rfl,bK _,[],_,w0,r1.new hacc .nil,kn⟩,?_⟩
 rintro i m H2 ⟨rfl,hi,ys,G2,w2,r2,k2⟩
 obtain⟨hc,hacc2,hys⟩:=hW i ys G2 hi w2
 obtain⟨o1,o2,o3⟩:=ok i H2 G2 k2 r2 hc
 by_cases hlt:i<items.length
 ·refine .inr ⟨o1 hlt,λx H3 y=> ?_⟩
  obtain⟨p,ep,k3,r3,d3⟩:=o3 x H3 hlt y
  obtain⟨pa,pb,rfl,turn'⟩:=turn i ys G2 p ep w2
  obtain⟨ta,vs,rfl,sq,u1,vr,rfl,du1,u2,vr2,rfl,du2,e3⟩:=d3
  obtain rfl:vr2=[]:=e3
  have k13:=k2.trans k3
  refine⟨ta,u1,u2,rfl,sq,?_⟩
  have rs3:RSt X.K H3 (((ky ix σ).set j (some u1)).set j2 (some u2)) (st (st (nc ix τ) j (some pa)) j2 (some pb)):=((zJ ix (rs.keep (k1.trans k13))).set du1 j).set du2 j2
  refine⟨_,G2,_,rs3,r3,turn',λb G4 H4 q4 r4 k4=> ?_⟩
  have k14:=k13.trans k4
  cases b with
  |false=>exact uc ⟨items.length-(i+1),by ac_nf,rfl,hlt,ys,G4,q4,r4,k14⟩
  |true=>
   refine ub ⟨_,G4,_,rs3.keep k4,r4,q4,λy G5 v H5 q5 d5 r5 k5=> ?_⟩
   obtain⟨ea,w5⟩:=q5
   obtain⟨vs,hv,dv⟩:=r5.lst ea
   refine⟨vs,hv,by rw[dv.length];exact zL (gh hys),items.length-(i+1),by ac_nf,rfl,hlt,ys++[y],_,w5,r5.put hv (dv.append (.cons d5 .nil)),(k14.trans k5).trans (fH hv)⟩
 ·have e:i=items.length:=by ac_nf
  subst e
  exact .inl ⟨o2 rfl,cl _ _ _ _ (done ys G2 w2) rfl r2 (k1.trans k2)⟩
theorem Gm{scope:e8}{M:List Str}{ix:List (Option Nat)}{j j2 kt:Nat}{x y:Str}{elt iter:Expr}{px py pt pos:Pos}{ifs:List Expr}{ti:rC}{tf:T2}{te:E2}(S:fq X.env.scope X.N scope M ix j x=true)(S2:pQ scope M ix j2 y)(hc:X.calm=true)(hi:JI X (Hi x y px py kt pt) iter ti)
  (hb:∀C s H fp,JF (bW X M scope C s H fp) ifs tf/\JE (bW X M scope C s H fp) elt te) (hs:∀x,dU iter X.env x=pure x:=by intro _;rfl):
  JE X (.ListComp elt [⟨Hi x y px py kt pt,iter,ifs,0⟩] scope pos) (DW ti ix j j2 tf te):= .of (Ct (D9 S) S2 hc hi.h (λC s H fp=>⟨(hb C s H fp).1.h,(hb C s H fp).2.h⟩) hs) λσ H Q q=>AC q
end
noncomputable abbrev xS(r r':B2)(ta tb tc:E2):E2:=λτ G Q=>ta τ G λx G1=>tb τ G1 λy G2=>r x y G2 λz G3=>match z with
 | .bl k=>o8 k (tc τ G3 λw G4=>r' y w G4 Q) (Q (.bl false) G3)
 |_=>False
section
variable{X:Cx}{a b c:Expr}{ta tb tc:E2}{pos:Pos}
theorem AD{r r':B2}{σ:L2.St}{H:Hp}{Q:VK}(q:kX X.K (xS r r' ta tb tc) σ H Q):BK (fG X.K r) (fG X.K r') (kX X.K ta) (kX X.K tb) (kX X.K tc) σ H Q:=by
 obtain⟨τ,G,Q2,rs,rp,q,cl⟩:=q
 refine⟨τ,G,_,rs,rp,q,λx G1 vx H1 q1 d1 r1 k1=>⟨τ,G1,_,rs.keep k1,r1,q1,λy G2 vy H2 q2 d2 r2 k2=>⟨x,y,G2,_,d1.keep k2,d2,r2,q2,λz G3 vz H3 q3 d3 r3 k3=> ?_⟩⟩⟩
 split at q3
 ·rename_i k
  obtain rfl:vz= .bl k:=d3
  refine⟨k,rfl,?_⟩
  cases k with
  |false=>exact uc (cl _ _ _ _ q3 rfl r3 ((k1.trans k2).trans k3))
  |true=>
   exact ub ⟨τ,G3,_,rs.keep ((k1.trans k2).trans k3),r3,q3,λw' G4 vw H4 q4 d4 r4 k4=>⟨y,w',G4,Q2,d2.keep (k3.trans k4),d4,r4,q4,cl.keep (((k1.trans k2).trans k3).trans k4)⟩⟩
 ·exact q3.elim
theorem Do{op op':CmpOp}{r r':B2}(ho:ic X (bQ op) (fG X.K r))(ho':ic X (bQ op') (fG X.K r'))(ha:JE X a ta)(hb:JE X b tb)(hc:JE X c tc)(hm:lastMarks [op,op'] [b,c]=false:=by with_unfolding_all rfl):
  JT X (.Compare a [op,op'] [b,c] pos) (wB (xS r r' ta tb tc)):= .of (B8 ho ho' ha.h hb.h hc.h hm) λσ H Q q=>tR (λσ H Q q=>AD q) q
end
section
end
theorem Eb:bY "min" =some (.builtin "min"):=by decide+kernel
theorem BN.min{mg:Str->Option ae}(h:BN mg):mg "min" =none:=h _ (by decide+kernel)
theorem BN.zip{mg:Str->Option ae}(h:BN mg):mg "zip" =none:=h _ (by decide+kernel)
theorem Kk{X:Cx}{x:Str}{i:Int}{t:Tok}{pos:Pos}(hm:X.mg x=some (.int i t))(hg:Gl X x:=by rfl)(hd:(x==("__debug__" :Str))=false:=by decide):JE X (.Name x pos) (eC (.int i)):=DA (v:= .int i) hm ⟨t,rfl⟩ (λ_=>rfl) hg hd
theorem dE{n:Nat}(h:Nat.ble n 1000=true:=by rfl):n<=1000:=aP h
theorem aV{G:Gp}{a:Addr}{ps:List PV}(h:G a=some (.lst ps)):lk G a=some ps:=by unfold lk;rw[h]
theorem iT{G:Gp}{a:Addr}{ps:List PV}:lk (up G a (.lst ps)) a=some ps:=aV ao
theorem dD{G:Gp}{a b:Addr}{o:MO}(h:up G a o b=none):b≠a/\G b=none:=by
 have ne:b≠a:=λz=>by subst z;rw[ao]at h;cases h
 exact⟨ne,by rw[aL ne]at h;exact h⟩
theorem yl{G:Gp}{a b:Addr}{o u:MO}(h:a≠b):up (up G a o) b u=up (up G b u) a o:=by
 funext c;unfold up
 by_cases h1:c=b
 ·subst h1;simp[aG h]
 ·simp[h1]
theorem GE.mod{G0 G:Gp}{a:Addr}{o:MO}(h:GE G0 G)(n:G0 a=none):GE G0 (up G a o):=λb u q=>by
 have:b≠a:=λz=>by subst z;rw[n]at q;cases q
 rw[aL this];exact h b u q
theorem GE.at{G0 G:Gp}{a:Addr}{o:MO}(h:GE G0 G)(n:G a=some o):GE (up G0 a o) G:=λb u q=>by
 by_cases hb:b=a
 ·subst hb;rw[ao]at q;cases q;exact n
 ·rw[aL hb]at q;exact h b u q
section
variable{G:Gp}{a b:Addr}{xs ys:List PV}{x y:PV}{i k:Int}{j:Nat}{Q:K2}
theorem Cg(h:G a=some (.lst (xs++[y])))(q:Q y (up G a (.lst xs))):Ci (.ref a) [] G Q:=by
 unfold Ci
 simp only[h]
 rw[aN,bX (by simp)]
 simp only[aT,List.length_nil,Nat.add_sub_cancel,Nat.sub_self,yd,List.dropLast_concat]
 exact q
theorem ik(h:G a=some (.lst xs))(hl:xs.length<16000000)(q:Q .non (up G a (.lst (xs++[y])))):nq (.ref a) [y] G Q:=by
 unfold nq;simp only[h];exact⟨hl,q⟩
theorem DR(h:G a=some (.lst xs))(hl:xs.length+ys.length<=16000000)(q:Q .non (up G a (.lst (xs++ys)))):jE (.ref a) [.tup ys] G Q:=by
 unfold jE;simp only[h];exact⟨hl,q⟩
theorem DS(h:G a=some (.lst xs))(h2:G b=some (.lst ys))(hl:xs.length+ys.length<=16000000)(q:Q .non (up G a (.lst (xs++ys)))):jE (.ref a) [.ref b] G Q:=by
 unfold jE;simp only[h,h2];exact⟨hl,q⟩
theorem mG(h:lk G a=some xs)(q:Q (.int xs.length) G):jA [.ref a] G Q:=by
 unfold jA;simp only[h];exact q
theorem cQ(h:lk G a=some xs)(e:oV xs i=some x)(q:Q x G):Gr (.ref a) (.int i) G Q:=by
 unfold Gr;simp only[h,e];exact q
theorem M0(h:lk G a=some xs)(e:oV xs i=some x)(q:Q x G):Go (.ref a) (.int i) G Q:=by
 unfold Go;simp only[h,e];exact q
theorem K6(h:lk G a=some xs)(hl:xs.length+ys.length<=16000000)(q:∀c,G c=none->Q (.ref c) (up G c (.lst (xs++ys)))):ya (.ref a) (.ro ys) G Q:=by
 unfold ya;simp only[h];exact⟨hl,q⟩
theorem ko(e:oV xs i=some x)(q:Q x G):Gr (.tup xs) (.int i) G Q:=by
 unfold Gr;simp only[e];exact q
theorem HG{z:Str}{c:Nat}(hz:z.length<=16000000)(e:oV z.cps.toList i=some c)(q:Q (.str ⟨#[c]⟩) G):Gr (.str z) (.int i) G Q:=by
 unfold Gr;simp only[e];exact⟨hz,q⟩
theorem qo{v:PV}{R:Gp->Prop}(h:G a=some (.lst xs))(e:xK xs.length k=some j)(q:R (up G a (.lst (xs.set j v)))):BS (.ref a) (.int k) v G R:=by
 unfold BS;simp only[h,e];exact q
theorem Jw(h:G a=some (.lst xs))(hk: -(2^63)<=k/\k<2^63)(hl:xs.length*k.toNat<=16000000)(q:∀c,G c=none->Q (.ref c) (up G c (.lst (aj k.toNat xs).flatten))):Ax (.ref a) (.int k) G Q:=by
 unfold Ax;simp only[h];exact⟨hk,hl,q⟩
theorem iX(h:lk G a=some xs)(q:Q (.tup xs) G):pZ [.ref a] G Q:=by
 unfold pZ;simp only[h];exact q
theorem BL{ns:List Int}(h:lk G a=some (ns.map PV.int))(q:Q (.int ns.sum) G):BM [.ref a] G Q:=by
 unfold BM;simp only[h,xM];exact q
theorem FS{z:Str}{zs:List Str}(h:lk G a=some (zs.map PV.str))(hl:(zs.map (·.length)).sum+zs.length*z.length<=16000000)(q:Q (.str (kz z zs)) G):vQ (.str z) [.ref a] G Q:=by
 unfold vQ;simp only[h,wX];exact⟨hl,q⟩
end
noncomputable def Ch(l:List Addr)(G G':Gp):Prop:=∀c o,c∉l->G c=some o->G' c=some o
theorem Ch.refl{l:List Addr}{G:Gp}:Ch l G G:=λ_ _ _ h=>h
theorem Ch.trans{l:List Addr}{G G1 G2:Gp}(a:Ch l G G1)(b:Ch l G1 G2):Ch l G G2:=λc o n h=>b c o n (a c o n h)
theorem Ch.new{l:List Addr}{G G1:Gp}{a:Addr}{o:MO}(h:Ch l G G1)(n:G1 a=none):Ch l G (up G1 a o):=λb u hb q=>by
 have:=h b u hb q
 have ne:b≠a:=λz=>by subst z;rw[n]at this;cases this
 rw[aL ne];exact this
theorem Ch.put{l:List Addr}{G G1:Gp}{a:Addr}{o:MO}(h:Ch l G G1)(n:a∈l):Ch l G (up G1 a o):=λb u hb q=>by
 have ne:b≠a:=λz=>by subst z;exact hb n
 rw[aL ne];exact h b u hb q
theorem Ch.mod'{l:List Addr}{G G1:Gp}{a:Addr}{o:MO}(h:Ch l G G1)(n:G a=none):Ch l G (up G1 a o):=λb u hb q=>by
 have ne:b≠a:=λz=>by subst z;rw[n]at q;cases q
 rw[aL ne];exact h b u hb q
theorem Ch.mono{l l':List Addr}{G G1:Gp}(h:Ch l G G1)(s:∀a∈l,a∈l'):Ch l' G G1:=λb u hb q=>h b u (λz=>hb (s b z)) q
theorem GE.ch{l:List Addr}{G G1:Gp}(h:GE G G1):Ch l G G1:=λb u _ q=>h b u q
noncomputable def Pool(G:Gp)(a:Addr):Prop:=∃x y z:Int,G a=some (.lst [.int x,.int y,.int z])/\0<=x
theorem Pool.new{G:Gp}{a b:Addr}{o:MO}(h:Pool G a)(n:G b=none):Pool (up G b o) a:=by
 obtain⟨x,y,z,e,hx⟩:=h
 exact⟨x,y,z,by rw[aL (λq=>by subst q;rw[n]at e;cases e)];exact e,hx⟩
theorem Pool.ne{G:Gp}{a b:Addr}{o:MO}(h:Pool G a)(n:b≠a):Pool (up G b o) a:=by
 obtain⟨x,y,z,e,hx⟩:=h
 exact⟨x,y,z,by rw[aL (aG n)];exact e,hx⟩
theorem aZ{G:Gp}{a b:Addr}{o:MO}(h:G a=some o)(n:G b=none):a≠b:=λz=>by subst z;rw[h]at n;cases n
theorem Pool.some{G:Gp}{a:Addr}(h:Pool G a):∃o,G a=some o:=by obtain⟨x,y,z,e,_⟩:=h;exact⟨_,e⟩
theorem C0{P:aI}{w:aY}{K:PySem.W.Frag}{mg:Str->Option ae}{base:Heap}{k:Nat}{f:Addr}{fd:aW}{ps:List Str}{sp:im}(h:∀as G Q,¬sp as G Q):iz P w K mg base k f fd ps sp:=
 ⟨λvs H Q E ⟨as,G,Q2,_,_,q,_⟩=>absurd q (h as G Q2),λA outer s H args us vs Q E _ _ _ _ ⟨as,G,Q2,_,_,q,_⟩=>absurd q (h as G Q2)⟩
noncomputable def wZ:im:=λps G Q=>∃c:Int,ps=[.int c]/\∀a G',G a=none->Pool G' a->Ch [a] G G'->Q (.ref a) G'
inductive Pt where
 |none|blank|sign (s:Str)|row (ps:List Pt)|pick (ps:List Pt)|again (p:Pt)|held (n:Str) (p:Pt)|price (n:Int) (p:Pt)
mutual
noncomputable def jd:Pt->PV
 | .none=> .tup [.str "none"]
 | .blank=> .tup [.str "blank"]
 | .sign s=> .tup [.str "sign",.str s]
 | .row ps=> .tup [.str "row",.tup (bJ ps)]
 | .pick ps=> .tup [.str "pick",.tup (bJ ps)]
 | .again p=> .tup [.str "again",jd p]
 | .held n p=> .tup [.str "held",.str n,jd p]
 | .price n p=> .tup [.str "price",.int n,jd p]
noncomputable def bJ:List Pt->List PV
 |[]=>[]
 |p::ps=>jd p::bJ ps
end
theorem dA:∀ps:List Pt,bJ ps=ps.map jd
 |[]=>rfl
 |p::ps=>by show jd p::bJ ps=_;rw[dA ps];rfl
theorem kx(ps qs:List Pt):bJ (ps++qs)=bJ ps++bJ qs:=by rw[dA,dA,dA,aS]
theorem uj(ps:List Pt):bJ ps.reverse=(bJ ps).reverse:=by rw[dA,dA,List.map_reverse]
theorem cR(ps:List Pt):(bJ ps).length=ps.length:=by rw[dA,ap]
noncomputable def cF:Pt->List Pt
 | .row ps=>ps
 | .pick ps=>ps
 | .again p=>[p]
 | .held _ p=>[p]
 | .price _ p=>[p]
 |_=>[]
mutual
noncomputable def size:Pt->Nat
 | .row ps=>1+ck ps
 | .pick ps=>1+ck ps
 | .again p=>1+size p
 | .held _ p=>1+size p
 | .price _ p=>1+size p
 |_=>1
noncomputable def ck:List Pt->Nat
 |[]=>0
 |p::ps=>size p+ck ps
end
theorem jx(p:Pt):size p=1+ck (cF p):=by
 cases p<;>simp[size,cF,ck]
theorem uV(p:Pt):0<size p:=by rw[jx];ac_nf
theorem mv(ps qs:List Pt):ck (ps++qs)=ck ps+ck qs:=by
 induction ps with
 |nil=>simp[ck]
 |cons p ps ih=>simp[ck,ih];ac_nf
theorem fU:∀ps:List Pt,ps.length<=ck ps
 |[]=>bK _
 |p::ps=>by
  have:=fU ps
  have:=uV p
  simp[ck];ac_nf
mutual
noncomputable def makes:Pt->List Pt
 | .row ps=> .row ps::cO ps
 | .pick ps=> .pick ps::cO ps
 | .again p=> .again p::makes p
 | .held n p=> .held n p::makes p
 | .price n p=> .price n p::makes p
 |p=>[p]
noncomputable def cO:List Pt->List Pt
 |[]=>[]
 |p::ps=>makes p++cO ps
end
theorem gn(p:Pt):makes p=p::cO (cF p):=by
 cases p<;>simp[makes,cF,cO]
theorem ll(ps qs:List Pt):cO (ps++qs)=cO ps++cO qs:=by
 induction ps with
 |nil=>simp[cO]
 |cons p ps ih=>simp[cO,ih]
mutual
theorem bO:∀p:Pt,(makes p).length=size p
 | .row ps=>by simp[makes,size,e7 ps];ac_nf
 | .pick ps=>by simp[makes,size,e7 ps];ac_nf
 | .again p=>by simp[makes,size,bO p];ac_nf
 | .held n p=>by simp[makes,size,bO p];ac_nf
 | .price n p=>by simp[makes,size,bO p];ac_nf
 | .none=>rfl
 | .blank=>rfl
 | .sign s=>rfl
theorem e7:∀ps:List Pt,(cO ps).length=ck ps
 |[]=>rfl
 |p::ps=>by simp[cO,ck,bO p,e7 ps]
end
theorem vP:∀zs:List Str,(Str.join (a9 "") zs).cps.toList=(zs.map λz=>z.cps.toList).flatten
 |[]=>rfl
 |[z]=>by simp[Str.join]
 |z::y::r=>by
  show(z++a9 "" ++Str.join (a9 "") (y::r)).cps.toList=_
  have h:=vP (y::r)
  rw[aE,cx,<-h]
  show(z.cps++(a9 "").cps++(Str.join (a9 "") (y::r)).cps).toList=_
  rw[Array.toList_append,Array.toList_append]
  simp[show(a9 "").cps.toList=[]from rfl]
theorem AI(zs:List Str):(kz (a9 "") zs).cps.toList=(zs.map λz=>z.cps.toList).flatten:=by
 have e:kz (a9 "") zs=Str.join (a9 "") zs:=StrLaws.glued_eq_join _ _
 rw[e,vP]
mutual
noncomputable def depth:Pt->Nat
 | .row ps=>1+bM ps
 | .pick ps=>1+bM ps
 | .again p=>1+depth p
 | .held _ p=>1+depth p
 | .price _ p=>1+depth p
 |_=>1
noncomputable def bM:List Pt->Nat
 |[]=>0
 |p::ps=>max (depth p) (bM ps)
end
mutual
noncomputable def gY:Pt->Bool
 | .none=>false
 | .blank=>true
 | .sign _=>false
 | .row ps=>El ps
 | .pick ps=>Ek ps
 | .again _=>true
 | .held _ p=>gY p
 | .price _ p=>gY p
noncomputable def El:List Pt->Bool
 |[]=>true
 |p::ps=>gY p&&El ps
noncomputable def Ek:List Pt->Bool
 |[]=>false
 |p::ps=>gY p||Ek ps
end
theorem Ei{α:Type}{xs:List α}{n:Int}(h0:0<=n)(h1:n<xs.length):∃x,oV xs n=some x/\x∈xs:=by
 have hl:n.toNat<xs.length:=by ac_nf
 refine⟨xs[n.toNat],?_,List.getElem_mem hl⟩
 have:=bS (xs:=xs) (j:=n.toNat) (v:=xs[n.toNat]) (al hl)
 rwa [show((n.toNat:Nat):Int)=n by ac_nf]at this
noncomputable def cJ:Nat->List Pt->List Nat
 |_,[]=>[]
 |b,p::ps=>b::cJ (b+size p) ps
theorem ls(b:Nat)(ps qs:List Pt):cJ b (ps++qs)=cJ b ps++cJ (b+ck ps) qs:=by
 induction ps generalizing b with
 |nil=>simp[cJ,ck]
 |cons p ps ih=>simp[cJ,ck,ih,Nat.add_assoc]
theorem eD(b:Nat)(ps:List Pt):(cJ b ps).length=ps.length:=by
 induction ps generalizing b with
 |nil=>rfl
 |cons p ps ih=>simp[cJ,ih]
mutual
theorem Ld:∀(p:Pt) (j:Nat) (q:Pt),(makes p)[j]? =some q->∃r,(makes p).drop j=makes q++r
 | .row ps,j,q,h=>by
  cases j with
  |zero=>simp[makes]at h;subst h;exact⟨[],by simp⟩
  |succ j=>simp[makes]at h⊢;exact Ir ps j q h
 | .pick ps,j,q,h=>by
  cases j with
  |zero=>simp[makes]at h;subst h;exact⟨[],by simp⟩
  |succ j=>simp[makes]at h⊢;exact Ir ps j q h
 | .again p,j,q,h=>by
  cases j with
  |zero=>simp[makes]at h;subst h;exact⟨[],by simp⟩
  |succ j=>simp[makes]at h⊢;exact Ld p j q h
 | .held n p,j,q,h=>by
  cases j with
  |zero=>simp[makes]at h;subst h;exact⟨[],by simp⟩
  |succ j=>simp[makes]at h⊢;exact Ld p j q h
 | .price n p,j,q,h=>by
  cases j with
  |zero=>simp[makes]at h;subst h;exact⟨[],by simp⟩
  |succ j=>simp[makes]at h⊢;exact Ld p j q h
 | .none,j,q,h=>by
  cases j with
  |zero=>simp[makes]at h;subst h;exact⟨[],by simp⟩
  |succ j=>simp[makes]at h
 | .blank,j,q,h=>by
  cases j with
  |zero=>simp[makes]at h;subst h;exact⟨[],by simp⟩
  |succ j=>simp[makes]at h
 | .sign s,j,q,h=>by
  cases j with
  |zero=>simp[makes]at h;subst h;exact⟨[],by simp⟩
  |succ j=>simp[makes]at h
theorem Ir:∀(ps:List Pt) (j:Nat) (q:Pt),(cO ps)[j]? =some q->∃r,(cO ps).drop j=makes q++r
 |[],j,q,h=>by simp[cO]at h
 |p::ps,j,q,h=>by
  simp only[cO]at h⊢
  by_cases hj:j<(makes p).length
  ·rw[c9 hj]at h
   obtain⟨r,e⟩:=Ld p j q h
   refine⟨r++cO ps,?_⟩
   rw[List.drop_append_of_le_length (gh hj),e,cH]
  ·rw[bX (by ac_nf)]at h
   obtain⟨r,e⟩:=Ir ps _ q h
   refine⟨r,?_⟩
   rw[List.drop_append,List.drop_of_length_le (by ac_nf),le,e]
end
theorem Aa{p q:Pt}{j:Nat}(h:(makes p)[j]? =some q):∃r,(makes p).drop (j+1)=cO (cF q)++r:=by
 obtain⟨r,e⟩:=Ld p j q h
 refine⟨r,?_⟩
 have:(makes p).drop (j+1)=((makes p).drop j).drop 1:=by rw[List.drop_drop]
 rw[this,e,gn q]
 rfl
theorem uX{p q c:Pt}{j:Nat}{pre post:List Pt}(h:(makes p)[j]? =some q)(hi:cF q=pre++c::post):(makes p)[j+1+ck pre]? =some c:=by
 obtain⟨r,e⟩:=Aa h
 have e2:((makes p).drop (j+1))[ck pre]? =some c:=by
  rw[e,hi,ll,cH,bX (by rw[e7];exact av _),e7,Nat.sub_self]
  simp only[cO]
  rw[gn c]
  rfl
 rw[oY]at e2
 exact e2
theorem uW{p q:Pt}{j:Nat}(h:(makes p)[j]? =some q):j+size q<=size p:=by
 obtain⟨r,e⟩:=Ld p j q h
 have:=congrArg cG e
 rw[fV,aN,bO,bO]at this
 have hj:=(am.mp h).1
 rw[bO]at hj
 ac_nf
noncomputable def cI(n:Nat):PV:= .int n
noncomputable def fZ(p:Pt):List PV:=(cV (size p)).map λj=> .tup ((cJ (j+1) (cF ((makes p).getD j .none))).map cI)
theorem rJ(p:Pt):(fZ p).length=size p:=by unfold fZ;simp
theorem fM{p q:Pt}{j:Nat}(h:(makes p)[j]? =some q):(fZ p)[j]? =some (.tup ((cJ (j+1) (cF q)).map cI)):=by
 have hj:=(am.mp h).1
 rw[bO]at hj
 unfold fZ
 rw[aF,cX hj]
 show some (PV.tup ((cJ (j+1) (cF ((makes p).getD j .none))).map cI))=_
 rw[List.getD_eq_getElem?_getD,h]
 rfl
mutual
theorem wg:∀(n:Nat) (p:PV),c7 n p=true->i3 p p=true
 |_,.non,_=>rfl
 |_,.bl b,_=>by unfold i3;simp
 |_,.int b,_=>by unfold i3;simp
 |_,.str b,_=>by unfold i3;simp
 |n,.tup xs,h=>by
  cases n with
  |zero=>cases h
  |succ n=>unfold i3;exact sE n xs h
 |n,.ref _,h=>by cases n<;>cases h
 |n,.ty _,h=>by cases n<;>cases h
 |n,.ro _,h=>by cases n<;>cases h
theorem sE:∀(n:Nat) (xs:List PV),dL n xs=true->iQ xs xs=true
 |_,[],_=>rfl
 |n,x::xs,h=>by
  unfold dL at h
  rw[aH]at h
  unfold iQ
  rw[wg n x h.1,sE n xs h.2]
  rfl
end
section
variable{G:Gp}{a:Addr}{xs:List PV}{x y p:PV}{i:Int}{j:Nat}{Q:K2}
theorem DI(f1:kr p=true)(f2:xs.all kr=true)(q:Q (.bl (Kz p xs)) G):Na false p (.tup xs) G Q:=⟨f1,f2,q⟩
theorem qR{ty T:String}(h:Ib p G=some ty)(hT:T∈OZ)(q:Q (.bl (NT ty T)) G):vV [p,.ty T] G Q:=by
 unfold vV;simp only[h];exact⟨hT,q⟩
theorem vB(f1:c7 100 x=true)(f2:c7 100 y=true)(q:Q (.bl (!i3 x y)) G):Le x y G Q:=by
 cases x with
 |ref a=>cases f1
 |ty a=>cases f1
 |ro a=>cases f1
 |_=>cases y with
  |ref a=>cases f2
  |ty a=>cases f2
  |ro a=>cases f2
  |_=>exact⟨f1,f2,q⟩
theorem iV(f1:c7 100 x=true)(f2:c7 100 y=true)(q:Q (.bl (i3 x y)) G):Np x y G Q:=by
 cases x with
 |ref a=>cases f1
 |ty a=>cases f1
 |ro a=>cases f1
 |_=>cases y with
  |ref a=>cases f2
  |ty a=>cases f2
  |ro a=>cases f2
  |_=>exact⟨f1,f2,q⟩
theorem x9{i j:Int}(q:Q (.int (i+j)) G):ya (.int i) (.int j) G Q:=q
end
end L3
namespace PyProof.Rows
open PySem
section
end
end PyProof.Rows
namespace PySem
open Sem (wp)
open Builtin
theorem jg:fillsNumberSlot (.type "tuple") "mul" =pure false:=
 fillsNumberSlot_seq (id:= "tuple.__mul__") (r:=some (.builtin "tuple.__rmul__")) lg.lookup (by decide+kernel) Li.lookup (by decide+kernel)
theorem mw:seqRepeat? (.type "tuple")=pure (some (.builtin "tuple.__mul__")):=by
 unfold seqRepeat?
 rw[seqSlot_of (T:= "tuple") (name:= "__mul__") (id:= "tuple.__mul__") lg.lookup (by decide+kernel),seqSlot_of (T:= "tuple") (name:= "__rmul__") (id:= "tuple.__rmul__") Li.lookup (by decide+kernel)]
 rfl
theorem gE(a:Int)(t:Tok)(l:Addr)(items:Array ae)(n:Nat)(dd:Option Addr)(sl:Array (Option ae)):
  Meets (cb.«int.__rmul__» ⟨[.int a t,.ref l],[]⟩) (λ_ R s=>s.heap.get? l=some {cls:= .type "tuple",dict:=dd,data:= .seq items n,slots:=sl}/\R (.ok (.ret ae.notImplemented)) s):=
 .of_wp λprog w A R s h=>by obtain⟨hp,g,d,tk,os⟩:=s;obtain⟨hl,h⟩:=h;wp_walk;exact⟨_,rfl,h⟩
theorem sZ(l:Addr)(items:Array ae)(n:Nat)(dd:Option Addr)(sl:Array (Option ae))(k:Int)(t:Tok)(h0:¬(k< -(2^63)||k≥2^63)=true)(h1:¬(items.isEmpty||k==1)=true)(h2:¬(k<=0||items.isEmpty)=true)(h3:¬((items.size:Int)*k>(2^63-1)/8))(h4:¬iq ((items.size:Int)*k)=true)(h5:((aj k.toNat items).foldl (· ++·) #[]).size<=aK):
  Meets (cb.«tuple.__mul__» ⟨[.ref l,.int k t],[]⟩) (λ_ R s=>s.heap.get? l=some {cls:= .type "tuple",dict:=dd,data:= .seq items n,slots:=sl}/\R (.ok (.ret (.ref s.heap.objs.size))) {s with heap:=s.heap.push {cls:= .type "tuple",data:= .seq ((aj k.toNat items).foldl (· ++·) #[])}}):=
 .of_wp λprog w A R s h=>by
  obtain⟨hp,g,d,tk,os⟩:=s;obtain⟨hl,h⟩:=h
  wp_walk using fY hl
  rw[if_neg h0]
  wp_walk using fY hl
  rw[if_neg h3]
  wp_walk using fY hl
  exact⟨_,rfl,h⟩
end PySem
namespace L3
open PySem L2
section
variable{X:Cx}
noncomputable def HD:B2:=λp q G Q=>match p,q with
 | .tup xs,.int k=>xs≠[]/\2<=k/\xs.length*k.toNat<=16000000/\k<=16000000/\Q (.tup (aj k.toNat xs).flatten) G
 |_,_=>False
theorem Jo:ic X (cK .Mult) (fG X.K HD):=by
 intro pins s σ H x y v u Q I rx ry h
 obtain⟨p,q,G,Q2,d1,d2,rp,h,cl⟩:=h
 unfold HD at h
 split at h
 ·rename_i xs k
  obtain⟨hne,hk2,hl,hkm,hq⟩:=h
  obtain⟨a,vs,rfl,sa,da⟩:=d1
  obtain rfl:y= .int k:=d2
  cases rx
  obtain⟨t,rfl⟩:=ry
  obtain⟨its,r,pl,hz⟩:=I.tuple sa
  obtain⟨⟨cls,dd,data,sl⟩,ho,hc,n,hd⟩:=pl
  simp only at hc hd
  subst hc hd
  have li:its.length=xs.length:=by rw[<-r.length,da.length]
  have hx:0<xs.length:=by
   cases xs with
   |nil=>exact absurd rfl hne
   |cons a b=>simp
  have e0:its.toArray.isEmpty=false:=by
   cases its with
   |nil=>simp at li;ac_nf
   |cons a b=>rfl
  have hnew:List.foldl (λx1 x2=>x1++x2) #[] (aj k.toNat its.toArray)=(aj k.toNat its).flatten.toArray:=by
   have:=ou its k.toNat []
   rw[le]at this
   exact this
  have hlen:(its.toArray.size:Int)*k<=16000000:=by
   rw[aw,li]
   have:((xs.length*k.toNat:Nat):Int)=(xs.length:Int)*k:=by
    rw[lx];congr 1;ac_nf
   ac_nf
  have hsz:(aj k.toNat its).flatten.length<=aK:=by
   rw[tU,li,i7];exact big hl
  have hTM:¬iq ((its.toArray.size:Int)*k)=true:=by
   unfold iq
   have h8:=gA
   have h9:(its.length:Int)*k<=16000000:=by simpa using hlen
   simp
   ac_nf
  refine j8 (T:= "tuple") (U:= "int") (by decide) ⟨_,ho,rfl⟩ (λs'=>jP s' k t) jg F.fills_int_mul gS mw uC.lookup
   (fN gS (jP s k t) F.entry_int_rmul (rO _ _) (gE k t a its.toArray n dd sl)
    ⟨ho,rfl,⟨_,ho,rfl⟩,fN lg ⟨_,ho,rfl⟩ F.entry_tuple_mul (F.args_tuple_mul_2 _ _) (sZ a its.toArray n dd sl k t (by simp;ac_nf) (by rw[e0];simp;ac_nf) (by rw[e0];simp;ac_nf) (by ac_nf) hTM (by rw[hnew,aw];exact hsz)) ⟨ho,?_⟩⟩)
  rw[hnew]
  have hfr:H s.heap.objs.size=none:=I.hok.fresh (av _)
  have kn:Keep X.K H (upd H s.heap.objs.size (.tup (aj k.toNat vs).flatten)):=bE hfr
  refine⟨.ref s.heap.objs.size,_,I.laid (t':=s.toks) (o:= .tup (aj k.toNat vs).flatten) (λb ob q=>ak _ q) (av _) ?_,rfl,cl _ _ _ _ hq ⟨_,_,rfl,.of cr,(da.rep _).keep kn⟩ (rp.tup hfr) kn⟩
  refine⟨?_,(aj k.toNat its).flatten,r.rep k.toNat,⟨_,aJ _ rfl,rfl,0,rfl⟩⟩
  rw[tU,da.length,i7];exact big hl
 ·exact h.elim
end
end L3
namespace PySem
open PyProof.Rows (StrsAre)
section
end
end PySem
namespace PySem
open PyProof.Rows (StrsAre)
section
end
section
end
end PySem
namespace PySem
open PyProof.Rows (StrsAre)
section
end
namespace F
end F
end PySem
namespace PySem
open PyProof.Rows (StrsAre)
section
end
end PySem
namespace PySem
open PyProof.Rows (StrsAre)
section
end
end PySem
namespace PySem
open PyProof.Rows (StrsAre)
section
end
end PySem
namespace PySem
open PyProof.Rows
section
end
end PySem
namespace L3
open PySem L2
section
end
end L3
namespace PySem
open Sem (wp)
open Builtin
theorem rD(l:Addr)(items:Array ae)(n:Nat)(dd:Option Addr)(sl:Array (Option ae))(t:Tok)(h0:¬((1:Int)< -(2^63)||(1:Int)≥2^63)=true):
  Meets (cb.«tuple.__mul__» ⟨[.ref l,.int 1 t],[]⟩) (λ_ R s=>s.heap.get? l=some {cls:= .type "tuple",dict:=dd,data:= .seq items n,slots:=sl}/\R (.ok (.ret (.ref l))) s):=
 .of_wp λprog w A R s h=>by
  obtain⟨hp,g,d,tk,os⟩:=s;obtain⟨hl,h⟩:=h
  wp_walk using fY hl
  exact⟨_,rfl,h⟩
end PySem
namespace L3
open PySem L2
noncomputable def C7:B2:=λp q G Q=>match p,q with
 | .tup xs,.int k=>xs≠[]/\1<=k/\xs.length*k.toNat<=16000000/\k<=16000000/\Q (.tup (aj k.toNat xs).flatten) G
 |_,_=>False
section
variable{X:Cx}{a b:Expr}{ta tb:E2}{pos:Pos}
theorem Jn:ic X (cK .Mult) (fG X.K C7):=by
 intro pins s σ H x y v u Q I rx ry h
 obtain⟨p,q,G,Q2,d1,d2,rp,h,cl⟩:=h
 unfold C7 at h
 split at h
 ·rename_i xs k
  obtain⟨hne,hk1,hl,hkm,hq⟩:=h
  by_cases hk2:2<=k
  ·exact Jo pins s σ H x y v u Q I rx ry ⟨.tup xs,.int k,G,Q2,d1,d2,rp,⟨hne,hk2,hl,hkm,hq⟩,cl⟩
  have hk:k=1:=by ac_nf
  subst hk
  have e1:(aj (1:Int).toNat xs).flatten=xs:=by simp
  rw[e1]at hq
  have d1':=d1
  obtain⟨a,vs,rfl,sa,da⟩:=d1
  obtain rfl:y= .int 1:=d2
  cases rx
  obtain⟨t,rfl⟩:=ry
  obtain⟨its,r,pl,hz⟩:=I.tuple sa
  obtain⟨⟨cls,dd,data,sl⟩,ho,hc,n,hd⟩:=pl
  simp only at hc hd
  subst hc hd
  refine j8 (T:= "tuple") (U:= "int") (by decide) ⟨_,ho,rfl⟩ (λs'=>jP s' 1 t) jg F.fills_int_mul gS mw uC.lookup
   (fN gS (jP s 1 t) F.entry_int_rmul (rO _ _) (gE 1 t a its.toArray n dd sl)
    ⟨ho,rfl,⟨_,ho,rfl⟩,fN lg ⟨_,ho,rfl⟩ F.entry_tuple_mul (F.args_tuple_mul_2 _ _) (rD a its.toArray n dd sl t (by decide)) ⟨ho,?_⟩⟩)
  exact⟨.ref a,H,I,rfl,cl _ _ _ _ hq d1' rp .refl⟩
 ·exact h.elim
theorem Gc(ha:JE X a ta)(hb:JE X b tb):JE X (.BinOp a .Mult b pos) (jU C7 ta tb):=ua Jn ha hb
end
noncomputable abbrev itL(t:E2):rC:=λτ G R=>t τ G λp G1=>match p with
 | .ref a=>match lk G1 a with
  |some ps=>R ps (λG=>lk G a=some ps) G1
  |none=>False
 |_=>False
theorem zw{X:Cx}{l tg:Expr}{t:E2}(hl:JE X l t):JI X tg l (itL t):= .of (Fh hl.h) λσ H R hPl=>by
 obtain⟨τ,G,R2,rs,rp,h,cl⟩:=hPl
 refine⟨τ,G,_,rs,rp,h,λp G1 v H1 q d r k=> ?_⟩
 cases p with
 |ref a=>
  obtain rfl:v= .ref a:=d
  dsimp only at q
  split at q
  ·rename_i ps e
   obtain⟨vs,sq,dv⟩:=fP r e
   exact⟨a,rfl,⟨vs,sq⟩,cl _ _ _ _ _ q r k DD⟩
  ·exact q.elim
 |_=>exact q.elim
theorem oA:∀{ps:List Pt} {c:Pt},c∈ps->depth c<=bM ps
 |p::ps,c,h=>by
  rcases aD.mp h with rfl|h
  ·simp only[bM];ac_nf
  ·have:=oA h;simp only[bM];ac_nf
theorem jz:∀{ps:List Pt} {c:Pt},c∈cO ps↔∃p∈ps,c∈makes p
 |[],c=>by simp[cO]
 |p::ps,c=>by
  show c∈makes p++cO ps↔_
  rw[aR,jz (ps:=ps)]
  simp
inductive Tr where
 |blank|sign (s:Str)|row (ts:List Tr)|pick (k:Int) (t:Tr)|again (ts:List Tr)|held (n:Str) (t:Tr)|price (n:Int) (t:Tr)
mutual
noncomputable def gG:Tr->PV
 | .blank=> .tup [.str "blank"]
 | .sign s=> .tup [.str "sign",.str s]
 | .row ts=> .tup [.str "row",.tup (en ts)]
 | .pick k t=> .tup [.str "pick",.int k,gG t]
 | .again ts=> .tup [.str "again",.tup (en ts)]
 | .held n t=> .tup [.str "held",.str n,gG t]
 | .price n t=> .tup [.str "price",.int n,gG t]
noncomputable def en:List Tr->List PV
 |[]=>[]
 |t::ts=>gG t::en ts
end
theorem dz:∀ts:List Tr,en ts=ts.map gG
 |[]=>rfl
 |t::ts=>by show gG t::en ts=_;rw[dz ts];rfl
theorem ij(ts us:List Tr):en (ts++us)=en ts++en us:=by rw[dz,dz,dz,aS]
theorem ui(ts:List Tr):en ts.reverse=(en ts).reverse:=by rw[dz,dz,List.map_reverse]
theorem gq(ts:List Tr):(en ts).length=ts.length:=by rw[dz,ap]
theorem GK{ps:List Tr}{i:Nat}{x:PV}(h:(en ps)[i]? =some x):∃c,ps[i]? =some c/\x=gG c:=by
 rw[dz,aF]at h
 cases e:ps[i]? with
 |none=>rw[e]at h;cases h
 |some c=>rw[e]at h;exact⟨c,rfl,(a8 h).symm⟩
noncomputable def fc:Tr->List Tr
 | .row ts=>ts
 | .again ts=>ts
 | .pick _ t=>[t]
 | .held _ t=>[t]
 | .price _ t=>[t]
 |_=>[]
mutual
noncomputable def kW:Tr->Nat
 | .row ts=>1+fD ts
 | .again ts=>1+fD ts
 | .pick _ t=>1+kW t
 | .held _ t=>1+kW t
 | .price _ t=>1+kW t
 |_=>1
noncomputable def fD:List Tr->Nat
 |[]=>0
 |t::ts=>kW t+fD ts
end
mutual
noncomputable def tq:Tr->Nat
 | .row ts=>1+qa ts
 | .again ts=>1+qa ts
 | .pick _ t=>1+tq t
 | .held _ t=>1+tq t
 | .price _ t=>1+tq t
 |_=>1
noncomputable def qa:List Tr->Nat
 |[]=>0
 |t::ts=>max (tq t) (qa ts)
end
theorem ml(t:Tr):kW t=1+fD (fc t):=by cases t<;>simp[kW,fc,fD]
theorem yn(t:Tr):0<kW t:=by rw[ml];ac_nf
theorem uJ(ts us:List Tr):fD (ts++us)=fD ts+fD us:=by
 induction ts with
 |nil=>simp[fD]
 |cons p ps ih=>simp[fD,ih];ac_nf
theorem mi:∀ts:List Tr,ts.length<=fD ts
 |[]=>bK _
 |t::ts=>by
  have:=mi ts
  have:=yn t
  simp[fD];ac_nf
mutual
noncomputable def uD:Tr->List Tr
 | .row ts=> .row ts::gy ts
 | .again ts=> .again ts::gy ts
 | .pick k t=> .pick k t::uD t
 | .held n t=> .held n t::uD t
 | .price n t=> .price n t::uD t
 |t=>[t]
noncomputable def gy:List Tr->List Tr
 |[]=>[]
 |t::ts=>uD t++gy ts
end
theorem pC(t:Tr):uD t=t::gy (fc t):=by cases t<;>simp[uD,fc,gy]
theorem uN(ps qs:List Tr):gy (ps++qs)=gy ps++gy qs:=by
 induction ps with
 |nil=>simp[gy]
 |cons p ps ih=>simp[gy,ih]
theorem pB:∀(n:Nat) (t:Tr),kW t<=n->(uD t).length=kW t
 |0,t,h=>by have:=yn t;ac_nf
 |n+1,t,h=>by
  have key:∀ts:List Tr,fD ts<=n->(gy ts).length=fD ts:=by
   intro ts
   induction ts with
   |nil=>intro _;rfl
   |cons a l ih=>
    intro h
    simp only[fD]at h⊢
    simp only[gy,aN]
    rw[pB n a (by ac_nf),ih (by ac_nf)]
  have e:=ml t
  rw[pC,aT,key _ (by ac_nf)]
  ac_nf
noncomputable def Ll:Tr->Prop
 | .sign s=>s.length=1
 | .held n _=>n.length<=100
 |_=>True
noncomputable abbrev wt(t:Tr):Prop:=∀c∈uD t,Ll c
theorem uM:∀{ts:List Tr} {c:Tr},c∈gy ts↔∃t∈ts,c∈uD t
 |[],c=>by simp[gy]
 |p::ps,c=>by
  show c∈uD p++gy ps↔_
  rw[aR,uM (ts:=ps)]
  simp
theorem Lk{t:Tr}(h:Ll t)(hi:∀c∈fc t,wt c):wt t:=λd hd=>by
 rw[pC]at hd
 rcases aD.mp hd with rfl|hd
 ·exact h
 ·obtain⟨c,hc,hd⟩:=uM.mp hd
  exact hi c hc d hd
noncomputable def Iq:Tr->Option Str
 | .sign s=>some s
 |_=>none
noncomputable def iI(l:List Tr):List Nat:=((l.filterMap Iq).map λz=>z.cps.toList).flatten
noncomputable abbrev tz(t:Tr):List Nat:=iI (uD t)
theorem oJ(a b:List Tr):iI (a++b)=iI a++iI b:=by unfold iI;rw[List.filterMap_append,aS,List.flatten_append]
theorem BF(s:Str):tz (.sign s)=s.cps.toList:=by simp[tz,iI,uD,Iq]
theorem mn{t:Tr}(h:Iq t=none):tz t=iI (gy (fc t)):=by
 unfold tz
 rw[pC]
 unfold iI
 rw[dP,h]
theorem qb(t:Tr)(ts:List Tr):iI (gy (t::ts))=tz t++iI (gy ts):=oJ _ _
noncomputable def tx(t:Tr):Str:=⟨(tz t).toArray⟩
theorem Dr(zs:List Str):kz (a9 "") zs=⟨((zs.map λz=>z.cps.toList).flatten).toArray⟩:=by
 have h:=AI zs
 generalize kz (a9 "") zs=y at h
 obtain⟨⟨l⟩⟩:=y
 have h':l=_:=h
 rw[h']
theorem yA:∀{l:List Tr},(∀c∈l,Ll c)->(iI l).length<=l.length
 |[],_=>bK _
 |c::l,h=>by
  have ih:=yA (l:=l) λd hd=>h d (by simp[hd])
  have e:iI (c::l)=iI [c]++iI l:=oJ [c] l
  rw[e,aN,aT]
  have:(iI [c]).length<=1:=by
   cases c with
   |sign s=>
    have hs:s.length=1:=h (.sign s) (by simp)
    have e1:s.cps.toList.length=s.length:=by simp[Str.length]
    simp only[iI,Iq,dP,List.filterMap_nil,aE,kQ,cx,List.flatten_nil,bz]
    ac_nf
   |_=>exact bK 1
  ac_nf
mutual
theorem ku:∀(p:Tr) (n:Nat),2*tq p<=n->c7 n (gG p)=true
 | .blank,n,h=>by
  simp[tq]at h
  obtain⟨n,rfl⟩:∃m,n=m+1:=⟨n-1,by ac_nf⟩
  simp[gG,c7,dL]
 | .sign s,n,h=>by
  simp[tq]at h
  obtain⟨n,rfl⟩:∃m,n=m+1:=⟨n-1,by ac_nf⟩
  simp[gG,c7,dL]
 | .row ps,n,h=>by
  simp[tq]at h
  obtain⟨n,rfl⟩:∃m,n=m+2:=⟨n-2,by ac_nf⟩
  simp[gG,c7,dL,oy ps n (by ac_nf)]
 | .again ps,n,h=>by
  simp[tq]at h
  obtain⟨n,rfl⟩:∃m,n=m+2:=⟨n-2,by ac_nf⟩
  simp[gG,c7,dL,oy ps n (by ac_nf)]
 | .pick s p,n,h=>by
  simp[tq]at h
  obtain⟨n,rfl⟩:∃m,n=m+1:=⟨n-1,by ac_nf⟩
  simp[gG,c7,dL,ku p n (by ac_nf)]
 | .held s p,n,h=>by
  simp[tq]at h
  obtain⟨n,rfl⟩:∃m,n=m+1:=⟨n-1,by ac_nf⟩
  simp[gG,c7,dL,ku p n (by ac_nf)]
 | .price s p,n,h=>by
  simp[tq]at h
  obtain⟨n,rfl⟩:∃m,n=m+1:=⟨n-1,by ac_nf⟩
  simp[gG,c7,dL,ku p n (by ac_nf)]
theorem oy:∀(ps:List Tr) (n:Nat),2*qa ps<=n->dL n (en ps)=true
 |[],n,h=>by simp[en,dL]
 |p::ps,n,h=>by
  simp[qa]at h
  simp[en,dL,ku p n (by ac_nf),oy ps n (by ac_nf)]
end
section
end
end L3
namespace L2
open PySem PySem.Spec PyProof.Rows
section
end
end L2
namespace L3
open PySem L2
section
end
section
variable{prog:aI}{w:aY}{A:Around}{E:ae->ai->Prop}{s:ai}
theorem iS{it l:Addr}{i:Nat}{items:Array ae}{x:ae}{Q:ae->ai->Prop}(hit:s.heap.IsTupleIter it l i)
  (hl:s.heap.IsTuple l items) (hx:items[i]? =some x)
  (hQ:∀h':Heap,h'.IsTupleIter it l (i+1)->dW it s.heap h'->Q x {s with heap:=h'}):
  wpAny (aQ prog w) A (bC (.ref it)) Q E s:=by
 obtain⟨o,ho,hc,hd⟩:=id hit
 obtain⟨ol,hol,_,nl,hdl⟩:=hl
 unfold bC
 refine aa (cS (name:=a9 "__next__") hit.typeIs gi
  (eB gi hit.typeIs wE ?_ (wA _)))
 show wpAny _ _ (field (.ref it) 0>>=_) _ _ s
 refine aa (bw ho hd (x:= .ref l) rfl ?_)
 show wpAny _ _ (if(aB l==bn)=true then _ else _) _ _ s
 rw[if_neg (show¬((aB l==bn)=true)from bd)]
 show wpAny _ _ (field (.ref it) 1>>=_) _ _ s
 refine aa (bw ho hd (x:= .int i 0) rfl ?_)
 show wpAny _ _ (seqItems? (.ref l)>>=_) _ _ s
 refine aa (dN hol hdl ?_)
 simp only[bL,hx]
 refine aa (o6 ho hd (by simp) (aA ⟨x,rfl,aA (hQ _ ?_ (dW.update ..))⟩))
 exact⟨_,fK _ ho (Obj.isFreed_of_fields (Obj.data_mapFields hd _)),(Obj.cls_mapFields ..).trans hc,by
  rw[Obj.data_mapFields hd];simp[rawInt]⟩
theorem oa{it l:Addr}{i:Nat}{items:Array ae}{Q:ae->ai->Prop}(hh:A.handled=none)
  (hit:s.heap.IsTupleIter it l i) (hl:s.heap.IsTuple l items) (hx:items[i]? =none)
  (hE:∀(h':Heap) (e:Addr),Heap.ExtBut it s.heap h'->(∃o,h'.get? e=some o/\o.cls= .type "StopIteration")->E (.ref e) {s with heap:=h'}):
  wpAny (aQ prog w) A (bC (.ref it)) Q E s:=by
 obtain⟨o,ho,hc,hd⟩:=id hit
 obtain⟨ol,hol,_,nl,hdl⟩:=hl
 unfold bC
 refine aa (cS (name:=a9 "__next__") hit.typeIs gi
  (eB gi hit.typeIs wE ?_ (wA _)))
 show wpAny _ _ (field (.ref it) 0>>=_) _ _ s
 refine aa (bw ho hd (x:= .ref l) rfl ?_)
 show wpAny _ _ (if(aB l==bn)=true then _ else _) _ _ s
 rw[if_neg (show¬((aB l==bn)=true)from bd)]
 show wpAny _ _ (field (.ref it) 1>>=_) _ _ s
 refine aa (bw ho hd (x:= .int i 0) rfl ?_)
 show wpAny _ _ (seqItems? (.ref l)>>=_) _ _ s
 refine aa (dN hol hdl ?_)
 simp only[bL,hx]
 refine aa (wpAny_rule (aa (o6 ho hd (by simp) ?_)))
 show wpAny _ _ (newExc (.type "StopIteration") []>>=_) _ _ _
 refine aa ?_
 simp only[newExc,newTuple]
 refine aa (bF ?_ (by size_fits))
 refine aa (m:=firstArgMember _ _) (wpAny_of_eq (a:=bn) (by first|rfl|(simp only[firstArgMember];rfl)) ?_)
 refine bF ?_ (by size_fits)
 simp only[raiseNew]
 refine aa (wpAny_handled ?_)
 first|rw[show A.in1.handled=none from hh]|rw[hh]
 refine aa (aA (wpAny_throw ?_))
 exact hE _ _ (((dW.update ..).extBut.push _).push _) ⟨_,aJ _ rfl,rfl⟩
end
theorem Bl{prog:aI}{w:aY}{A:Around}{E:ae->ai->Prop}{s:ai}{z TI TO i1 i2 l1:Addr}{k:Nat}{xs:Array ae}{a b:ae}{Q:Fin->ai->Prop}
  (hh:A.handled=none) (d:[z,TI,TO,i1,i2].Nodup) (hz:IsZip s.heap z TI TO .none) (hTI:dY s.heap TI (.ref i1) (.ref i2)) (hTO:dY s.heap TO a b)
  (h1:s.heap.IsTupleIter i1 l1 k) (t1:s.heap.IsTuple l1 xs) (n1:l1∉[z,TI,TO,i1,i2]) (hx:xs[k]? =none)
  (hE:∀(h':Heap) (e:Addr),(∀c o,c≠z->c≠TO->c≠i1->c≠i2->s.heap.get? c=some o->h'.get? c=some o)->(∃o,h'.get? e=some o/\o.cls= .type "StopIteration")->E (.ref e) {s with heap:=h'}):
  wpAny (aQ prog w) A (cb.«zip.__next__» {pos:=[.ref z]}) Q E s:=by
 simp only[bu,aD,bi,or_false,not_or]at d n1
 obtain⟨⟨zTI,zTO,z1,z2⟩,⟨TITO,TI1,rC⟩,⟨TO1,TO2⟩,i12,_⟩:=d
 obtain⟨lz1,_,lO1,l11,l12⟩:=n1
 refine aa (show wpAny _ _ (pure (aB z,([]:List ae))) _ _ _ from aA ?_)
 refine aa (bw hz rfl rfl ?_)
 refine aa (bw hz rfl rfl ?_)
 refine aa (dN hTI rfl ?_)
 refine aa (aa (bw hz rfl rfl (aA ?_)))
 simp only[if_true]
 refine aa (wpAny_rule (aa (bw hz rfl rfl ?_)))
 refine aa (eF hz (by simp) λh₁ hz₁ hs₁=> ?_)
 have hz1:IsZip h₁ z TI TO .ellipsis:=hz₁
 refine aa ?_
 simp only[List.zipIdx_cons,List.zipIdx_nil,lf,List.forIn_nil]
 refine aa (aa (kS ?_))
 change wpAny _ _ (bind (bC (aB i1)) λx=>pure (some x)) _ _ _
 refine aa (oa hh (h1.extBut hs₁.extBut (aG z1)) (t1.extBut hs₁.extBut lz1) hx λh₄ e sb4 he=> ?_)
 have hz4:IsZip h₄ z TI TO .ellipsis:=sb4 _ _ z1 hz1
 obtain⟨o,ho,hc⟩:=he
 refine eF hz4 (by simp) λh₅ hz5 sb5=>hE h₅ e (λc u n1 n2 n3 n4 q=> ?_) ⟨o,sb5.extBut _ _ (λq=> ?_) ho,hc⟩
 ·exact sb5.extBut _ _ n1 (sb4 _ _ n3 (hs₁.extBut _ _ n1 q))
 ·subst q
  rw[show h₄.get? e=_ from hz4]at ho
  cases ho
  exact absurd (bv.inj hc) (by decide)
theorem tP{prog:aI}{w:aY}{A:Around}{E:ae->ai->Prop}{s:ai}{z TI TO i1 i2 l1:Addr}{k:Nat}{xs:Array ae}{a b:ae}{Q:Option ae->ai->Prop}
  (hh:A.handled=none) (d:[z,TI,TO,i1,i2].Nodup) (hz:IsZip s.heap z TI TO .none) (hTI:dY s.heap TI (.ref i1) (.ref i2)) (hTO:dY s.heap TO a b)
  (h1:s.heap.IsTupleIter i1 l1 k) (t1:s.heap.IsTuple l1 xs) (n1:l1∉[z,TI,TO,i1,i2]) (hx:xs[k]? =none)
  (hQ:∀h':Heap,(∀c o,c≠z->c≠TO->c≠i1->c≠i2->s.heap.get? c=some o->h'.get? c=some o)->Q none {s with heap:=h'}):
  wpAny (aQ prog w) A (pyNext (.ref z)) Q E s:=by
 have hT:s.TypeIs (.ref z) "zip" :=⟨_,hz,rfl⟩
 exact aa (kU (cS hT gR (eB gR hT F.entry_zip_next
  (Bl hh d hz hTI hTO h1 t1 n1 hx λh' e hk ⟨o,ho,hc⟩=>aa (wpAny_isInstance ⟨o,ho,hc⟩ isSubtype_stop (aA (hQ h' hk)))) (rN (aB z)))))
noncomputable def iZ:List PV->List PV->List PV
 |x::xs,y::ys=> .tup [x,y]::iZ xs ys
 |_,_=>[]
theorem n6:∀{xs ys:List PV} {i:Nat} {x y:PV},xs[i]? =some x->ys[i]? =some y->(iZ xs ys)[i]? =some (.tup [x,y])
 |a::xs,b::ys,0,x,y,h,g=>by
  cases h;cases g;rfl
 |a::xs,b::ys,i+1,x,y,h,g=>by
  show(iZ xs ys)[i]? =_
  exact n6 (by simpa using h) (by simpa using g)
section
variable{X:Cx}{a b c:Expr}{ta tb tc:E2}{pos:Pos}
theorem FM(ha:JE X a ta)(hb:JE X b tb)(hc:JE X c tc)(hm:lastMarks [.LtE,.Lt] [b,c]=false:=by with_unfolding_all rfl):JT X (.Compare a [.LtE,.Lt] [b,c] pos) (wB (xS Mm Mg ta tb tc)):=Do L9 Jq ha hb hc hm
end
@[reducible] noncomputable def gU (kvs:List (Key×PV)) (k:Key):Option PV:=(kvs.find? λkv=>decide (kv.1=k)).map (·.2)
noncomputable def jf(kvs:List (Key×PV))(k:Key)(v:PV):List (Key×PV):=
 if(kvs.any λkv=>decide (kv.1=k))=true then kvs.map (λkv=>if kv.1=k then(kv.1,v)else kv)else kvs++[(k,v)]
@[reducible] noncomputable def tY:PV->Option Key
 | .int i=>some (.inl i)
 | .str x=>some (.inr x)
 |_=>none
noncomputable def kP:Key->PV
 | .inl i=> .int i
 | .inr x=> .str x
theorem tX{K:PySem.W.Frag}{H:Hp}{p:PV}{v:V}{k:Key}(h:tY p=some k)(d:Dv K H p v):v=kV k:=by
 cases p with
 |int i=>cases h;exact d
 |str x=>cases h;exact d
 |_=>cases h
theorem Mn{K:PySem.W.Frag}{H:Hp}(k:Key):Dv K H (kP k) (kV k):=by cases k<;>rfl
section
variable{K:PySem.W.Frag}{H:Hp}
theorem DKv.val:∀{ps:List (Key×PV)} {vs:List (Key×V)},DKv K H ps vs->∀k,(∀p,gU ps k=some p->∃v,o9 vs k=some v/\Dv K H p v)/\(gU ps k=none->o9 vs k=none)
 |[],vs,h,k=>by
  obtain rfl:vs=[]:=h
  exact⟨(λp e=>nomatch (show(none:Option PV)=some p from e)),λ_=>rfl⟩
 |(x,p)::ps,vs,h,k=>by
  obtain⟨v,r,rfl,d,z⟩:=h
  by_cases e:x=k
  ·have e1:gU ((x,p)::ps) k=some p:=by simp[gU,eJ,e]
   rw[e1,me (p:=(x,v)) e]
   exact⟨λq hq=>by cases hq;exact⟨v,rfl,d⟩,λh=>by cases h⟩
  ·have e1:gU ((x,p)::ps) k=gU ps k:=by simp[gU,eJ,e]
   rw[e1,mf (p:=(x,v)) e]
   exact DKv.val z k
theorem DKv.any:∀{ps:List (Key×PV)} {vs:List (Key×V)},DKv K H ps vs->∀k,(ps.any λkv=>decide (kv.1=k))=(vs.any λkv=>decide (kv.1=k))
 |[],vs,h,k=>by obtain rfl:vs=[]:=h;rfl
 |(x,p)::ps,vs,h,k=>by
  obtain⟨v,r,rfl,d,z⟩:=h
  rw[dX,dX,DKv.any z k]
theorem DKv.map{k:Key}{q:PV}{u:V}(dq:Dv K H q u):∀{ps:List (Key×PV)} {vs:List (Key×V)},DKv K H ps vs->DKv K H (ps.map λkv=>if kv.1=k then(kv.1,q)else kv) (vs.map λkv=>if kv.1=k then(kv.1,u)else kv)
 |[],vs,h=>by obtain rfl:vs=[]:=h;rfl
 |(x,p)::ps,vs,h=>by
  obtain⟨v,r,rfl,d,z⟩:=h
  rw[aE,aE]
  by_cases e:x=k
  ·rw[if_pos e,if_pos e]
   exact⟨u,_,rfl,dq,DKv.map dq z⟩
  ·rw[if_neg e,if_neg e]
   exact⟨v,_,rfl,d,DKv.map dq z⟩
theorem DKv.snoc{k:Key}{q:PV}{u:V}(dq:Dv K H q u):∀{ps:List (Key×PV)} {vs:List (Key×V)},DKv K H ps vs->DKv K H (ps++[(k,q)]) (vs++[(k,u)])
 |[],vs,h=>by obtain rfl:vs=[]:=h;exact⟨u,[],rfl,dq,rfl⟩
 |(x,p)::ps,vs,h=>by
  obtain⟨v,r,rfl,d,z⟩:=h
  exact⟨v,_,rfl,d,DKv.snoc dq z⟩
theorem DKv.put{k:Key}{q:PV}{u:V}(dq:Dv K H q u){ps:List (Key×PV)}{vs:List (Key×V)}(h:DKv K H ps vs):DKv K H (jf ps k q) (jQ vs k u):=by
 unfold jf jQ
 rw[h.any k]
 split
 ·exact h.map dq
 ·exact h.snoc dq
theorem DKv.length:∀{ps:List (Key×PV)} {vs:List (Key×V)},DKv K H ps vs->vs.length=ps.length
 |[],vs,h=>by obtain rfl:vs=[]:=h;rfl
 |(x,p)::ps,vs,h=>by
  obtain⟨v,r,rfl,d,z⟩:=h
  rw[aT,aT,DKv.length z]
theorem Rep.dK{G:Gp}{a:Addr}{kvs:List (Key×PV)}(r:Rep K H G)(e:G a=some (.dK kvs)):∃vs,H a=some (.dK vs)/\DKv K H kvs vs:=r a _ e
theorem Rep.newD{G:Gp}{p:Addr}{vs:List (Key×V)}{ps:List (Key×PV)}(r:Rep K H G)(h:H p=Option.none)(d:DKv K H ps vs):Rep K (L2.upd H p (.dK vs)) (up G p (.dK ps)):=by
 refine r.upd (bE h) (λa o e ne=>by rw[aL ne]at e;exact e) λo e=> ?_
 rw[ao]at e;cases e
 exact⟨vs,cr,d.keep (bE h)⟩
theorem Rep.putD{G:Gp}{p:Addr}{vs vs0:List (Key×V)}{ps:List (Key×PV)}(r:Rep K H G)(h:H p=jp (.dK vs0))(d:DKv K H ps vs):Rep K (L2.upd H p (.dK vs)) (up G p (.dK ps)):=by
 refine r.upd (kF h) (λa o e ne=>by rw[aL ne]at e;exact e) λo e=> ?_
 rw[ao]at e;cases e
 exact⟨vs,cr,d.keep (kF h)⟩
end
noncomputable abbrev Nw:E2:=λ_ G Q=>∀p,G p=none->Q (.ref p) (up G p (.dK []))
noncomputable def EO:yc:=λo i v G Q=>match o with
 | .ref a=>match G a,tY i with
  |some (.dK kvs),some k=>kvs.length<16000000/\Q (up G a (.dK (jf kvs k v)))
  |_,_=>False
 |_=>False
theorem w9{a:Addr}{G:Gp}{q v:PV}{kvs:List (Key×PV)}{k:Key}{Q:Gp->Prop}(h:G a=some (.dK kvs))(hk:tY q=some k)(hl:kvs.length<16000000)(hq:Q (up G a (.dK (jf kvs k v)))):EO (.ref a) q v G Q:=by
 unfold EO
 simp only[h,hk]
 exact⟨hl,hq⟩
section
variable{X:Cx}{pos p:Pos}
theorem Kn:JE X (.Dict [] [] pos) Nw:= .of Cq λσ H Q ⟨τ,G,Q2,rs,rp,q,cl⟩ p hp=>
 cl _ _ _ _ (q p (rp.none hp)) rfl (rp.newD hp rfl) (bE hp)
theorem yH(hu:X.A.units+200<gZ):PSet X (tT X.K EO):=λpins s σ H o i v ov iv z Q I r1 r2 r3 q=>by
 obtain⟨po,pi,pv,G,Q2,d1,d2,d3,rp,q,cl⟩:=q
 unfold EO at q
 split at q
 ·rename_i a
  split at q
  ·rename_i kvs k eg ek
   obtain rfl:o= .ref a:=d1
   obtain rfl:=tX ek d2
   cases r1
   obtain⟨vs,hv,dv⟩:=rp.dK eg
   exact A1 (by ac_nf) I (DPut.k hv (by rw[dv.length,gA];ac_nf)) r2 r3 λs' I'=>⟨_,I',cl _ _ q.2 (rp.putD hv (dv.put d3)) (kF hv)⟩
  ·exact q.elim
 ·exact q.elim
end
section
end
noncomputable def oW:B2:=λp q G Q=>match p,q with
 | .tup [],.tup ys=>Q (.tup ys) G
 |p,q=>ya p q G Q
theorem zO{xs ys:List PV}{G:Gp}{Q:K2}(hl:xs.length+ys.length<=16000000)(q:Q (.tup (xs++ys)) G):oW (.tup xs) (.tup ys) G Q:=by
 cases xs with
 |nil=>exact q
 |cons x xs=>exact⟨by simp,hl,q⟩
theorem Hd{x y:Str}{G:Gp}{Q:K2}(hl:x.length+y.length<=16000000)(q:Q (.str (x++y)) G):oW (.str x) (.str y) G Q:=⟨hl,q⟩
theorem jK{x y:Int}{G:Gp}{Q:K2}(q:Q (.int (x+y)) G):oW (.int x) (.int y) G Q:=q
section
variable{X:Cx}{a b:Expr}{ta tb:E2}{pos:Pos}
theorem Js:ic X (cK .Add) (fG X.K oW):=by
 intro pins s σ H x y v u Q I rx ry h
 obtain⟨p,q,G,Q2,d1,d2,rp,h,cl⟩:=h
 unfold oW at h
 split at h
 ·rename_i ys
  obtain⟨a,vs,rfl,sa,da⟩:=d1
  obtain⟨b,us,rfl,sb,db⟩:=d2
  obtain rfl:vs=[]:=da
  cases rx
  cases ry
  obtain⟨its,r1,p1,_⟩:=I.tuple sa
  obtain⟨its2,r2,p2,_⟩:=I.tuple sb
  obtain rfl:its=[]:=r1.nil_iff.mpr rfl
  obtain⟨⟨cls,dd,data,sl⟩,ho,hc,n,hd⟩:=id p1
  obtain⟨⟨cls2,dd2,data2,Be⟩,ho2,hc2,n2,hd2⟩:=id p2
  simp only at hc hd hc2 hd2
  subst hc hd hc2 hd2
  exact PySem.concat_meets ⟨_,ho,rfl⟩ ⟨_,ho2,rfl⟩ PySem.noFill_tuple_add PySem.seq_tuple_add PySem.F.slot_tuple_add PySem.F.entry_tuple_add (PySem.F.args_tuple_add_2 _ _)
   (PyProof.Rows.tuple_addW0 a b _ _ n n2 dd dd2 sl Be rfl) ⟨ho,ho2,.ref b,H,I,rfl,cl _ _ _ _ h ⟨b,us,rfl,sb,db⟩ rp .refl⟩
 ·exact HC pins s σ H x y v u Q I rx ry ⟨p,q,G,Q2,d1,d2,rp,h,cl⟩
theorem Gf(ha:JE X a ta)(hb:JE X b tb):JE X (.BinOp a .Add b pos) (jU oW ta tb):=ua Js ha hb
end
end L3
namespace PySem
open PyProof.Rows (StrsAre)
section
end
end PySem
namespace L3
open PySem L2
section
end
end L3
namespace L2
open PySem PySem.Spec PyProof.Rows
theorem zC(h:Heap):∀S:List Addr,∃b:Heap,(∀a∈S,b.get? a=none)/\∀a,a∉S->b.get? a=h.get? a
 |[]=>⟨h,by simp,λ_ _=>rfl⟩
 |x::S=>by
  obtain⟨b,h1,h2⟩:=zC h S
  refine⟨b.update x λo=>{o with data:= .freed},λa ha=> ?_,λa ha=> ?_⟩
  ·by_cases e:x=a
   ·subst e
    cases hq:(b.update x λo=>{o with data:= .freed}).get? x with
    |none=>rfl
    |some o=>
     obtain⟨e1,e2⟩:=Heap.get?_some_iff.mp hq
     obtain⟨objs,l⟩:=b
     have e3:(objs.modify x λo=>{o with data:= .freed})[x]? =some o:=e1
     rw[Array.getElem?_modify,if_pos rfl]at e3
     cases hx:objs[x]? with
     |none=>rw[hx]at e3;cases e3
     |some u=>
      rw[hx]at e3
      cases e3
      cases e2
   ·rw[cj _ _ e]
    exact h1 a ((aD.mp ha).resolve_left (aG e))
  ·rw[cj _ _ λe=>ha (by simp[e])]
   exact h2 a λhm=>ha (by simp[hm])
theorem kI{h base b:Heap}:∀{l:List Env},h.FunFrames base l->(∀a∈kH l,b.get? a=none)->h.FunFrames b l
 |[],_,_=>trivial
 |env::l,⟨hk,⟨L,o,hf,hn,ho,hd⟩,hr⟩,q=>by
  have e:kH (env::l)=L::kH l:=by unfold kH;rw[dP,hf]
  rw[e]at q
  exact⟨hk,⟨L,o,hf,q L (by simp),ho,hd⟩,kI hr λa ha=>q a (by simp[ha])⟩
noncomputable def NI(h:Heap)(e T:Addr)(cls:ae):Prop:=∃oe vs oT ts,h.get? e=some oe/\oe.cls=cls/\oe.data= .fields vs/\vs[1]? =some (.ref T)/\T≠e/\h.get? T=some oT/\oT.data= .fields ts/\ts[3]? =some .none
noncomputable def ww(l:List Env)(e:Addr)(S:List Addr)(cls:ae)(h h':Heap):Prop:=
 (∃T,NI h' e T cls/\(T∈S\/h.get? T=none))/\(∀b o,b∉kH l->b≠e->b∉S->h.get? b=some o->h'.get? b=some o)/\∀b o,b∈kH l->h.get? b=some o->∃sl,h'.get? b=some {o with slots:=sl}
section
variable{M:Model}{A:Around}{E:ae->ai->Prop}{s:ai}
theorem qJ{B base:Heap}{l:List Env}{e:Addr}{S:List Addr}{cls:ae}{h h':Heap}(b2:∀a,a∉e::(S++kH l)->B.get? a=h.get? a)(hl:h.FunFrames base l)(x:Heap.Left B l e cls h h'):ww l e S cls h h':=by
 obtain⟨x1,x2,⟨oe,vs,T,oT,ts,h1,h2,h3,h4,h5,h6,h7,h8,h9⟩,x4⟩:=x
 refine⟨⟨T,⟨oe,vs,oT,ts,h1,h2,h3,h4,h6,h7,h8,h9⟩,?_⟩,λb o n1 n2 n3 q=>x1 b o ?_,λb o hb q=> ?_⟩
 ·by_cases hS:T∈S
  ·exact .inl hS
  ·refine .inr ?_
   rw[<-b2 T ?_]
   ·exact h5
   ·intro hm
    rcases aD.mp hm with e1|hm
    ·exact h6 e1
    ·rcases aR.mp hm with hm|hm
     ·exact hS hm
     ·obtain⟨_,o,ho,hnf⟩:=x2.mem hm
      rw[h7]at ho
      cases ho
      exact hnf ts h8
 ·rw[b2 b (by simp[n1,n2,n3])];exact q
 ·obtain⟨_,o',ho',hnf⟩:=hl.mem hb
  rw[q]at ho'
  cases ho'
  exact x4 b o q hnf
theorem xH{base:Heap}{env:Env}{outer:List Env}{e T:Addr}{cls:ae}{Q:Unit->ai->Prop}
  (hfr:A.frames=some (env::outer)) (hl:s.heap.FunFrames base (env::outer)) (ht:NI s.heap e T cls)
  (h:∀h',ww (env::outer) e [T] cls s.heap h'->Q () {s with heap:=h'}):wpAny M A (leaving env (.ref e)) Q E s:=by
 obtain⟨B,b1,b2⟩:=zC s.heap (e::([T]++kH (env::outer)))
 obtain⟨oe,vs,oT,ts,h1,h2,h3,h4,h6,h7,h8,h9⟩:=ht
 obtain⟨L,_,hf,_⟩:=hl.2.1
 refine wpAny_leaving_next (base:=B) hfr (kI hl λa ha=>b1 a (by simp[ha])) hf ⟨oe,vs,T,oT,ts,h1,h2,h3,h4,b1 T (by simp),h6,h7,h8,h9⟩ (λb o q=> ?_) (b1 e (by simp)) λh' x=>h h' (qJ b2 hl x)
 by_cases hm:b∈e::([T]++kH (env::outer))
 ·rw[b1 b hm]at q;cases q
 ·rw[<-b2 b hm];exact q
theorem vK{base:Heap}{env:Env}{outer:List Env}{e:Addr}{oe:Obj}{vs:Array ae}{Q:Unit->ai->Prop}
  (hfr:A.frames=some (env::outer)) (hl:s.heap.FunFrames base (env::outer)) (he:s.heap.get? e=some oe) (hd:oe.data= .fields vs) (h1:vs[1]? =some .none)
  (h:∀h',ww (env::outer) e [] oe.cls s.heap h'->Q () {s with heap:=h'}):wpAny M A (leaving env (.ref e)) Q E s:=by
 obtain⟨B,b1,b2⟩:=zC s.heap (e::([]++kH (env::outer)))
 obtain⟨L,_,hf,_⟩:=hl.2.1
 refine wpAny_leaving_first (base:=B) hfr (kI hl λa ha=>b1 a (by simp[ha])) hf he (λb o q=> ?_) (b1 e (by simp)) hd h1 λh' x=>h h' (qJ b2 hl x)
 by_cases hm:b∈e::([]++kH (env::outer))
 ·rw[b1 b hm]at q;cases q
 ·rw[<-b2 b hm];exact q
end
noncomputable def nG(P:aI)(w:aY)(C:Addr):Bj:=λouter H s E e s'=>∃x T H',e= .ref x/\NI s'.heap x T (.ref C)/\s.heap.get? x=none/\s.heap.get? T=none/\H' x=none/\H' T=none/\s'.os=s.os/\kR s'.gens/\
 Un (kH outer) [] H H' s.heap s'.heap/\HOk P w H' s'.heap/\E (.ref C) none H'
section
variable{X:Cx}{pins:List (Addr×Obj)}{σ:St}{H1:Hp}{s1:ai}{x:Addr}{S:List Addr}{C:Addr}{h':Heap}{E:XK}
theorem vJ(J:Inv X pins σ H1 s1)(hex:X.ex=[])(hloc:X.s₀.heap.get? X.env.locals=none)(hx:H1 x=none)(hx0:X.s₀.heap.get? x=none)(hS:∀t∈S,H1 t=none/\X.s₀.heap.get? t=none)
  (hL:ww X.stack x S (.ref C) s1.heap h') (hE:E (.ref C) none H1):nG X.prog X.w C X.outer X.H₀ X.s₀ E (.ref x) {s1 with heap:=h'}:=by
 obtain⟨⟨T,tr,hT⟩,k1,k2⟩:=hL
 have nst:∀b o,X.s₀.heap.get? b=some o->b∉X.fs->b∉kH X.stack:=λb o q n hm=>by
  rcases aD.mp (J.stkSub b hm)with e|hm
  ·rw[e,hloc]at q;cases q
  ·exact n hm
 have nx:∀b o,X.s₀.heap.get? b=some o->b≠x:=λb o q e=>by rw[e,hx0]at q;cases q
 have nS:∀b o,X.s₀.heap.get? b=some o->b∉S:=λb o q hm=>by rw[(hS b hm).2]at q;cases q
 have go:∀b o o1,X.s₀.heap.get? b=some o->s1.heap.get? b=some o1->∃sl,h'.get? b=some {o1 with slots:=sl}:=λb o o1 q q1=>by
  by_cases hm:b∈kH X.stack
  ·exact k2 b o1 hm q1
  ·exact⟨o1.slots,k1 b o1 hm (nx b o q) (nS b o q) q1⟩
 have hTn:H1 T=none/\X.s₀.heap.get? T=none:=by
  rcases hT with hT|hT
  ·exact hS T hT
  ·refine⟨J.hok.none_of hT,?_⟩
   cases q:X.s₀.heap.get? T with
   |none=>rfl
   |some o=>
    obtain⟨o',q'⟩:=J.base.there T o q (by rw[hex];simp)
    rw[hT]at q';cases q'
 refine⟨x,T,H1,rfl,tr,hx0,hTn.2,hx,hTn.1,J.os,J.bare,⟨λb o q n nf _=> ?_,λb o q n hb _=> ?_,λb o q n _=>J.base.free b o q n (by rw[hex];simp),λb o q _=> ?_,J.base.tups,J.base.frzs,J.base.tbls⟩,λa o e=> ?_,hE⟩
 ·exact k1 b o (nst b o q nf) (nx b o q) (nS b o q) (J.base.keep b o q n nf (by rw[hex];simp))
 ·obtain⟨sl,q1⟩:=J.base.slot b o q n hb (by rw[hex];simp)
  obtain⟨sl',q2⟩:=go b o _ q q1
  exact⟨sl',q2⟩
 ·obtain⟨o',q1⟩:=J.base.there b o q (by rw[hex];simp)
  obtain⟨sl',q2⟩:=go b o _ q q1
  exact⟨_,q2⟩
 ·have nn:∀b,(b=a\/H1 b=some (.own a))->H1 b≠none:=λb hb z=>by
   rcases hb with rfl|hb
   ·rw[e]at z;cases z
   ·rw[hb]at z;cases z
  exact(J.hok a o e).stay (λb u hb q=>k1 b u (λhm=>nn b hb (J.stkFree b hm)) (λz=>nn b hb (by rw[z];exact hx)) (λhm=>nn b hb (hS b hm).1) q) (λ_ q=>q) λ_ _ q=>q
end
section
variable{P:aI}{w:aY}{K:PySem.W.Frag}{mg:Str->Option ae}{base:Heap}{N:List Str}{qual:Str}{scope:e8}{f:Addr}{cdv:ae}{A:Around}{outer:List Env}{s:ai}{H:Hp}{E:XK}{C:Addr}
theorem sf(h:Heap):h.get? h.objs.size=none:=by
 cases q:h.get? h.objs.size with
 |none=>rfl
 |some o=>exact absurd (aC q) (cU _)
theorem Ft:i5 (nG P w C) (gO (nG P w C) P w K mg base N qual scope f cdv A outer s H E) E:=by
 rintro pins σ H1 s1 e s' I ⟨x,T,H',rfl,tr,nx,nT,hx,hT,os,bare,un,hok,hE⟩
 have J:=I.call' (ch:=[]) os un hok bare (λb z=>absurd z (by simp))
 have hn:∀a,s1.heap.get? a=none->s.heap.get? a=none:=λa q=>by
  cases q0:s.heap.get? a with
  |none=>rfl
  |some o=>
   obtain⟨o',q'⟩:=I.base.there a o q0 (by show a∉[];simp)
   rw[q]at q';cases q'
 refine xH (base:=base) J.ok.frames J.stack tr λh' hL=> ?_
 exact vJ (X:=gO (nG P w C) P w K mg base N qual scope f cdv A outer s H E) J rfl (sf _) hx (hn x nx) (λt ht=>by cases au.mp ht;exact⟨hT,hn _ nT⟩) hL hE
theorem EU{pins:List (Addr×Obj)}{σ:St}{H1:Hp}{s1:ai}{h':Heap}{x:Addr}{us:List ae}(I:Inv (gO (nG P w C) P w K mg base N qual scope f cdv A outer s H E) pins σ H1 s1)(m:Heap.MadeExcOf s1.heap h' x (.ref C) us)(hE:E (.ref C) none H1):
  (gO (nG P w C) P w K mg base N qual scope f cdv A outer s H E).xe (.ref x) {s1 with heap:=h'}:=by
 have J:=I.kept (t':=s1.toks) m.keeps
 have hn:s.heap.get? x=none:=by
  cases q0:s.heap.get? x with
  |none=>rfl
  |some o=>
   obtain⟨o',q'⟩:=I.base.there x o q0 (by show x∉[];simp)
   rw[m.new]at q';cases q'
 obtain⟨t,he,_,_⟩:=m.there
 refine vK (base:=base) J.ok.frames J.stack he rfl rfl λh'' hL=> ?_
 exact vJ (X:=gO (nG P w C) P w K mg base N qual scope f cdv A outer s H E) J rfl (sf _) (I.hok.none_of m.new) hn (λt ht=>by cases ht) hL hE
theorem wV{h h':Heap}{bmB tl:List ae}(T:OwnTail h bmB tl)(k:∀b o,h.get? b=some o->h'.get? b=some o):OwnTail h' bmB tl:=by
 induction T with
 |base=>exact .base
 |own e n i _ ih=>exact .own (k _ _ e) (n.keeps k) i ih
noncomputable def Ig(C:Addr)(t:TA)(E:XK):TS:=λ_ σ H=>t σ H λvs H1=>vs.length<=aK/\E (.ref C) none H1
theorem Cc{xn:Str}{np cpos pos:Pos}{e:Expr}{es:List Expr}{t:TA}(q:PySem.W.excIn K C Ba "ValueError.__new__" =true)
  (hg:Gl (gO (nG P w C) P w K mg base N qual scope f cdv A outer s H E) xn) (hm:mg xn=some (.ref C))
  (ha:PA (gO (nG P w C) P w K mg base N qual scope f cdv A outer s H E) (e::es) t) (hdb:(xn==("__debug__" :Str))=false:=by decide)
  (he:aq (e::es) (gO (nG P w C) P w K mg base N qual scope f cdv A outer s H E).env=(false,eval e (gO (nG P w C) P w K mg base N qual scope f cdv A outer s H E).env)::aq es (gO (nG P w C) P w K mg base N qual scope f cdv A outer s H E).env:=by rfl)
  (hpl:(bB cpos (aq (e::es) (gO (nG P w C) P w K mg base N qual scope f cdv A outer s H E).env)).any (·.1)=false:=by rfl):
  PS (gO (nG P w C) P w K mg base N qual scope f cdv A outer s H E) (.Raise (some (.Call (.Name xn np) (e::es) [] cpos)) none pos) (Ig C t E):=by
 intro pins s1 σ H1 D I h
 obtain⟨bm,ns,nm,qn,bs,hd,sn,sub,ab,col,dd,k0,k1,k2,k3,k5,mN,e1,e2,e3,e4⟩:=ox I.ok.mod.kin q
 refine wpAny_Raise_call_subT F.excBase_ValueError (C:=C) (bm:=bm) (nm:=nm) (q:=qn) (N:=ns) (bs:=bs) (hdct:=hd) (sn:=sn) (sub:=sub) (ab:=ab) (col:=col) (dd:=dd) (k0:=k0) (k1:=k1) (k2:=k2) (k3:=k3) (k5:=k5) (e4.hasType (by decide)) (I.ok.hd rfl) hpl e3 ?_
 refine mH I hg hm ⟨rfl,?_⟩ hdb
 have hz:=ha cpos pins s1 σ H1 _ I h
 rw[he]at hz⊢
 refine PySem.Calls.evalArgs_plain (bc hz (λus s2 h2=> ?_) λ_ _ z=>z)
 obtain⟨vs,H2,I2,r2,hl,hE⟩:=h2
 exact⟨rfl,by rw[<-r2.length];exact hl,I2.bk _ _ e1,e2.keeps I2.bk,wV e4 I2.bk,λh' x hmade=>EU I2 hmade hE⟩
end
section
variable{M:Model}{A:Around}{E:ae->ai->Prop}{s:ai}
theorem FF{base:Heap}{env:Env}{outer:List Env}{e T:Addr}{cls:ae}{Q:Unit->ai->Prop}
  (hfr:A.frames=some (env::outer)) (hl:s.heap.FunFrames base (env::outer)) (ht:NI s.heap e T cls)
  (h:∀h',ww (env::outer) e [T] cls s.heap h'->Q () {s with heap:=h'}):wpAny M A (noteFrame (.ref e) env) (λ_ s₂=>wpAny M A (setFlight (.ref e) none) Q E s₂) E s:=by
 obtain⟨B,b1,b2⟩:=zC s.heap (e::([T]++kH (env::outer)))
 obtain⟨oe,vs,oT,ts,he,hcls,hd,h1,hTe,hT,hdT,h3⟩:=ht
 subst hcls
 obtain⟨L,_,hf,_⟩:=hl.2.1
 have hl':=kI (b:=B) hl λa ha=>b1 a (by simp[ha])
 have hkb:B.StaysIn s.heap:=λb o q=>by
  by_cases hm:b∈e::([T]++kH (env::outer))
  ·rw[b1 b hm]at q;cases q
  ·rw[<-b2 b hm];exact q
 have hnT:B.get? T=none:=b1 T (by simp)
 unfold noteFrame
 simp only[hf]
 refine aa (bw he hd h1 ?_)
 rw[if_pos (show(aB T !=bn)=true from by simp)]
 refine aa (bw hT hdT h3 ?_)
 rw[if_neg (show¬((bn==rawInt L)=true)from by simp[rawInt])]
 refine aa (o6 hT hdT (jb.mp h3).1 ?_)
 have other:∀b,b≠T->(s.heap.update T (Obj.mapFields (·.setIfInBounds 3 bn))).get? b=s.heap.get? b:=λb hb=>cj _ _ (aG hb)
 have noRecord:∀b o,s.heap.get? b=some o->(∀vs,o.data≠ .fields vs)->b≠T:=λb o hb hnf q=>by
  rw[q,hT]at hb;injection hb with hb;subst hb;exact hnf ts hdT
 refine wpAny_newEntry (base:=B) hfr (hl'.of_keeps λb o hb hnf=>⟨o,(other b (noRecord b o hb hnf)).trans hb,rfl⟩) hf ((other e (aG hTe)).trans he)
  (λb o hbo=>(other b λq=>by rw[q,hnT]at hbo;cases hbo).trans (hkb b o hbo)) (b1 e (by simp)) hd (jb.mp h1).1
  λh' hPl=>by obtain⟨x1,x2,x3,x4⟩:=hPl;exact h h' (qJ b2 hl ⟨x1,x2,x3,λb o hb hnf=>x4 b o ((other b (noRecord b o hb hnf)).trans hb) hnf⟩)
theorem AY{e T:Addr}{cls:ae}{Q:Unit->ai->Prop}(ht:NI s.heap e T cls)
  (h:∀h',(∀b o,b≠T->s.heap.get? b=some o->h'.get? b=some o)->Q () {s with heap:=h'}):wpAny M A (setFlight (.ref e) none) Q E s:=by
 obtain⟨oe,vs,oT,ts,he,hcls,hd,h1,hTe,hT,hdT,h3⟩:=ht
 unfold setFlight
 refine aa (bw he hd h1 ?_)
 rw[if_pos (show(aB T !=bn)=true from by simp)]
 exact o6 hT hdT (jb.mp h3).1 (h _ λb o hb q=>by rw[cj _ _ (aG hb)];exact q)
end
theorem ym{fs:List Addr}{H H':Hp}{h h1 h2:Heap}{x:Addr}{S:List Addr}(u:Un fs [] H H' h h1)(hx:h.get? x=none)(hS:∀t∈S,h.get? t=none)
  (k1:∀b o,b∉fs->b≠x->b∉S->h1.get? b=some o->h2.get? b=some o) (k2:∀b o,b∈fs->b≠x->b∉S->h1.get? b=some o->∃sl,h2.get? b=some {o with slots:=sl}):Un fs [] H H' h h2:=by
 have nx:∀b o,h.get? b=some o->b≠x:=λb o q e=>by rw[e,hx]at q;cases q
 have nS:∀b o,h.get? b=some o->b∉S:=λb o q hm=>by rw[hS b hm]at q;cases q
 have go:∀b o o1,h.get? b=some o->h1.get? b=some o1->∃sl,h2.get? b=some {o1 with slots:=sl}:=λb o o1 q q1=>by
  by_cases hm:b∈fs
  ·exact k2 b o1 hm (nx b o q) (nS b o q) q1
  ·exact⟨o1.slots,k1 b o1 hm (nx b o q) (nS b o q) q1⟩
 refine⟨λb o q n nf nx'=>k1 b o nf (nx b o q) (nS b o q) (u.keep b o q n nf nx'),λb o q n hb nx'=> ?_,u.free,λb o q nx'=> ?_,u.tups,u.frzs,u.tbls⟩
 ·obtain⟨sl,q1⟩:=u.slot b o q n hb nx'
  obtain⟨sl',q2⟩:=go b o _ q q1
  exact⟨sl',q2⟩
 ·obtain⟨o',q1⟩:=u.there b o q nx'
  obtain⟨sl,q2⟩:=go b o _ q q1
  exact⟨_,q2⟩
theorem vX{P:aI}{w:aY}{H:Hp}{h1 h2:Heap}{x:Addr}{S fs:List Addr}(ok:HOk P w H h1)(hx:H x=none)(hS:∀t∈S,H t=none)(hf:∀b∈fs,H b=none)
  (k1:∀b o,b∉fs->b≠x->b∉S->h1.get? b=some o->h2.get? b=some o):HOk P w H h2:=λa o e=>by
 have nn:∀b,(b=a\/H b=some (.own a))->H b≠none:=λb hb z=>by
  rcases hb with rfl|hb
  ·rw[e]at z;cases z
  ·rw[hb]at z;cases z
 exact(ok a o e).stay (λb u hb q=>k1 b u (λhm=>nn b hb (hf b hm)) (λz=>nn b hb (by rw[z];exact hx)) (λhm=>nn b hb (hS b hm)) q) (λ_ q=>q) λ_ _ q=>q
section
end
end L2
namespace L3
open PySem L2 PySem.Spec PyProof.Rows
theorem FK{K:PySem.W.Frag}{H H':Hp}(t:∀b xs,H b=some (.tup xs)->H' b=some (.tup xs))(f:∀b o u,H b=some (.frz o u)->H' b=some (.frz o u)):Keep K H H':=
 ⟨λa xs h=>by
  rcases h with(h|⟨o,h⟩)|h
  ·exact .inl (.inl (t a xs h))
  ·exact .inl (.inr ⟨o,f a o _ h⟩)
  ·exact .inr h,f⟩
noncomputable abbrev Eu:=List PV->Gp->K2->(Gp->Prop)->Prop
noncomputable def spX(K:PySem.W.Frag)(C:Addr)(sp:Eu):Sp:=λvs H Q E=>∃ps G Q2 EX,Dvs K H ps vs/\Rep K H G/\sp ps G Q2 EX/\Cl K H Q2 Q/\∀G' H',EX G'->Rep K H' G'->E (.ref C) none H'
noncomputable abbrev NL(P:aI)(w:aY)(K:PySem.W.Frag)(mg:Str->Option ae)(base:Heap)(C:Addr)(k:Nat)(f:Addr)(fd:aW)(ps:List Str)(sp:Eu):Prop:=FnOk P w K mg base (nG P w C) k f fd ps (spX K C sp)
structure rA(P:aI)(w:aY)(K:PySem.W.Frag)(mg:Str->Option ae)(base:Heap)(C:Addr)(k:Nat)(x:Str)(f:Addr)(fd:aW)(ps:List Str)(sp:Eu):Prop where
 ok:NL P w K mg base C k f fd ps sp
 b:Binds K fd ps []
 kp:PySem.W.keepIn K (.ref f)=true
 m:mg x=some (.ref f)
noncomputable def XW(K:PySem.W.Frag)(C:Addr)(E:XK)(EX:Gp->Prop):Prop:=∀G' H',EX G'->Rep K H' G'->E (.ref C) none H'
section
variable{P:aI}{w:aY}{K:PySem.W.Frag}{mg:Str->Option ae}{base:Heap}{C:Addr}
theorem fnX{x qual:Str}{st:Stmt}{f:Addr}{fd:aW}{N ps:List Str}{k:Nat}{sp:Eu}(F:Fun K x qual st f fd)(S:bj N ps (aM st))(len:∀vs G Q EX,sp vs G Q EX->vs.length=ps.length)
  (hbody:∀(cdv:ae) (A:Around) (outer:List Env) (s:ai) (H:Hp) (E:XK) (as:List PV) (G:Gp) (Q:K2) (EX:Gp->Prop),Room k (A.deeper (j3 qual (aM st) s.heap.objs.size f cdv))->sp as G Q EX->XW K C E EX->
   ∃t,JB (gO (nG P w C) P w K mg base N qual (aM st) f cdv A outer s H E) (ib st) t/\t {nx:=λ_ G'=>∃G0,GE G0 G'/\Q .non G0,rt:=λp G'=>∃G0,GE G0 G'/\Q p G0} (gW N as) G):NL P w K mg base C (k+1) f fd ps sp:=by
 obtain⟨oc,od,kV,doc,pm,an,cdv,ct,osl,rfl,lk,hcd⟩:=F.ex
 refine HK lk hcd S (λvs H Q E h=> ?_) (λA outer s H vs Q E hr h=> ?_)
 ·obtain⟨as,G,Q2,EX,d,_,h,_,_⟩:=h
  rw[d.length];exact len _ _ _ _ h
 obtain⟨as,G,Q2,EX,d,rp,h,cl,hx⟩:=h
 obtain⟨t,j,q⟩:=hbody cdv A outer s H E as G Q2 EX hr h hx
 refine⟨_,j.h,gW N as,G,_,nQ d (by rw[len _ _ _ _ h,<-S.pre,bb];ac_nf),rp,q,⟨λτ G' σ H' ⟨G0,e0,q1⟩ _ r1 k1=>cl _ _ _ _ q1 rfl (r1.sub e0) k1,λp G' v H' ⟨G0,e0,q1⟩ d1 r1 k1=>cl _ _ _ _ q1 d1 (r1.sub e0) k1,λ_ _ _ _ q1=>q1.elim,λ_ _ _ _ q1=>q1.elim⟩⟩
variable{N:List Str}{qual:Str}{scope:e8}{f:Addr}{cdv:ae}{A:Around}{outer:List Env}{s:ai}{H:Hp}{E:XK}{EX:Gp->Prop}
noncomputable abbrev Iv(t:A2)(EX:Gp->Prop):S2:=λ_ τ G=>t τ G λps G1=>ps.length<=1000/\EX G1
theorem Dp{xn:Str}{np cpos pos:Pos}{e:Expr}{es:List Expr}{t:A2}(hX:XW K C E EX)(q:PySem.W.excIn K C Ba "ValueError.__new__" =true)(hm:mg xn=some (.ref C))
  (ha:JA (gO (nG P w C) P w K mg base N qual scope f cdv A outer s H E) (e::es) t) (hg:Gl (gO (nG P w C) P w K mg base N qual scope f cdv A outer s H E) xn:=by rfl) (hdb:(xn==("__debug__" :Str))=false:=by decide)
  (he:aq (e::es) (gO (nG P w C) P w K mg base N qual scope f cdv A outer s H E).env=(false,eval e (gO (nG P w C) P w K mg base N qual scope f cdv A outer s H E).env)::aq es (gO (nG P w C) P w K mg base N qual scope f cdv A outer s H E).env:=by rfl)
  (hpl:(bB cpos (aq (e::es) (gO (nG P w C) P w K mg base N qual scope f cdv A outer s H E).env)).any (·.1)=false:=by rfl):
  JS (gO (nG P w C) P w K mg base N qual scope f cdv A outer s H E) (.Raise (some (.Call (.Name xn np) (e::es) [] cpos)) none pos) (Iv t EX):=⟨λpins s1 σ H1 D I h=>by
 obtain⟨τ,G,D2,rs,rp,q2,_⟩:=h
 refine Cc q hg hm ha.h hdb he hpl pins s1 σ H1 D I ⟨τ,G,_,rs,rp,q2,λps G1 vs H2 q3 d3 r3 k3=> ?_⟩
 have hz:vs.length=ps.length:=d3.length
 exact⟨by rw[hz];exact aO q3.1 (by decide),hX _ _ q3.2 r3⟩⟩
noncomputable abbrev uk(sp:Eu)(EX:Gp->Prop)(t:A2):E2:=λτ G Q=>t τ G λps G1=>sp ps G1 Q EX
end
section
end
section
variable{K:PySem.W.Frag}{H:Hp}{G:Gp}{p C dx:Addr}
theorem mO:∀{fs:List (Str×PV)} {vs:List (Str×V)} {f:Str} {q:PV},DFv K H fs vs->fs.lookup f=some q->∃v,vs.lookup f=some v/\Dv K H q v
 |[],_,_,_,_,e=>by cases e
 |(k,q0)::fs,vs,f,q,h,e=>by
  obtain⟨v,r,rfl,d,z⟩:=h
  rw[eW]at e⊢
  cases hk:(f==k)with
  |true=>rw[hk]at e;cases e;exact⟨v,rfl,d⟩
  |false=>rw[hk]at e;exact mO z e
theorem qX:∀{fs:List (Str×PV)} {vs:List (Str×V)} {f:Str},DFv K H fs vs->fs.lookup f=none->vs.lookup f=none
 |[],_,_,h,_=>by rw[show _=[]from h];rfl
 |(k,q0)::fs,vs,f,h,e=>by
  obtain⟨v,r,rfl,d,z⟩:=h
  rw[eW]at e⊢
  cases hk:(f==k)with
  |true=>rw[hk]at e;cases e
  |false=>rw[hk]at e;exact qX z e
theorem pM:∀{fs:List (Str×PV)} {vs:List (Str×V)},DFv K H fs vs->vs.length=fs.length
 |[],_,h=>by rw[show _=[]from h];rfl
 |(k,q0)::fs,vs,h=>by
  obtain⟨v,r,rfl,d,z⟩:=h
  rw[aT,aT,pM z]
theorem km{vs:List (Str×V)}{o:HO}(h:H p=some (.ins C dx vs)):Keep K H (L2.upd H p o):=mI (λxs q=>by rcases q with q|⟨_,q⟩<;>(rw[h]at q;cases q)) λo u q=>by rw[h]at q;cases q
theorem Rep.putI{vs vs0:List (Str×V)}{fs:List (Str×PV)}(r:Rep K H G)(h:H p=some (.ins C dx vs0))(d:DFv K H fs vs):Rep K (L2.upd H p (.ins C dx vs)) (up G p (.ins C dx fs)):=by
 refine r.upd (km h) (λa o e ne=>by rw[aL ne]at e;exact e) λo e=> ?_
 rw[ao]at e;cases e
 exact⟨vs,cr,DFv.keep (km h) _ d⟩
end
noncomputable def GF(C:Addr)(f:Str)(x:PV)(G:Gp)(Q:K2):Prop:=match x with
 | .ref a=>match G a with
  |some (.ins C' _ fs)=>C'=C/\match fs.lookup f with
   |some q=>Q q G
   |none=>False
  |_=>False
 |_=>False
theorem cy{C a dx:Addr}{f:Str}{G:Gp}{Q:K2}{fs:List (Str×PV)}{q:PV}(h:G a=some (.ins C dx fs))(e:fs.lookup f=some q)(hq:Q q G):GF C f (.ref a) G Q:=by
 unfold GF;simp only[h,e];exact⟨trivial,hq⟩
noncomputable abbrev Nu(C:Addr)(t:E2)(f:Str):E2:=λτ G Q=>t τ G λx G1=>GF C f x G1 Q
theorem HE{X:Cx}{C:Addr}{e:Expr}{f:Str}{t:E2}{pos:Pos}(c:Cls X.K C)(n:NoAttr X.K C f)(he:JE X e t)(hb:cg e f X.env (eval e X.env)=eval e X.env:=by rfl):JE X (.Attribute e f pos) (Nu C t f):=
 .of (IV he.h hb) λσ H Q hPl=>by
  obtain⟨τ,G,Q2,rs,rp,q,cl⟩:=hPl
  refine⟨τ,G,_,rs,rp,q,λp G1 v H1 q1 d1 r1 k1=> ?_⟩
  unfold GF at q1
  split at q1
  ·rename_i a
   split at q1
   ·rename_i C' dx fs hG
    obtain⟨rfl,q1⟩:=q1
    split at q1
    ·rename_i y hl
     obtain rfl:v= .ref a:=d1
     obtain⟨vs,hH,df⟩:=r1 a _ hG
     obtain⟨w',hw,dw⟩:=mO df hl
     exact⟨a,_,dx,vs,w',rfl,hH,c,n,hw,cl _ _ _ _ q1 dw r1 k1⟩
    ·exact q1.elim
   ·exact q1.elim
  ·exact q1.elim
noncomputable def ig(f:Str)(v:PV):List (Str×PV)->List (Str×PV)
 |[]=>[(f,v)]
 |(g,x)::r=>if g=f then(g,v)::r else(g,x)::ig f v r
theorem pL{K:PySem.W.Frag}{H:Hp}{f:Str}{q:PV}{v:V}(d:Dv K H q v):∀{fs:List (Str×PV)} {vs:List (Str×V)},DFv K H fs vs->DFv K H (ig f q fs) (iP f v vs)
 |[],_,h=>by rw[show _=[]from h];exact⟨v,[],rfl,d,rfl⟩
 |(k,q0)::fs,vs,h=>by
  obtain⟨v0,r,rfl,d0,z⟩:=h
  unfold ig iP
  by_cases hk:k=f
  ·rw[if_pos hk,if_pos hk];exact⟨v,r,rfl,d,z⟩
  ·rw[if_neg hk,if_neg hk];exact⟨v0,_,rfl,d0,pL d z⟩
noncomputable def yI(C:Addr)(f:Str)(x y:PV)(G:Gp)(Q:Gp->Prop):Prop:=match x with
 | .ref a=>match G a with
  |some (.ins C' dx fs)=>C'=C/\fs.length<1000/\Q (up G a (.ins C dx (ig f y fs)))
  |_=>False
 |_=>False
theorem iK{C a dx:Addr}{f:Str}{G:Gp}{Q:Gp->Prop}{fs:List (Str×PV)}{y:PV}(h:G a=some (.ins C dx fs))(hl:fs.length<1000)(hq:Q (up G a (.ins C dx (ig f y fs)))):yI C f (.ref a) y G Q:=by
 unfold yI;simp only[h];exact⟨trivial,hl,hq⟩
noncomputable abbrev LG(C:Addr)(ta tv:E2)(f:Str):S2:=λD τ G=>tv τ G λy G1=>ta τ G1 λx G2=>yI C f x y G2 λG3=>D.nx τ G3
theorem JR{X:Cx}{C:Addr}{o value:Expr}{f:Str}{ta tv:E2}{pos pos':Pos}(c:Cls X.K C)(n:NoAttr X.K C f)(ha:JE X o ta)(hv:JE X value tv)(hs:gC value (some (.Attribute o f pos')) pos.line X.env=pure false:=by rfl):
  JS X (.Assign [.Attribute o f pos'] value pos) (LG C ta tv f):= .of (II ha.h hv.h hs) λD σ H ⟨τ,G,D2,rs,rp,q,cl⟩=>by
 refine⟨τ,G,_,rs,rp,q,λy G1 v H1 q1 d1 r1 k1=>⟨τ,G1,_,rs.keep k1,r1,q1,λx G2 u H2 q2 d2 r2 k2=> ?_⟩⟩
 unfold yI at q2
 split at q2
 ·rename_i a
  split at q2
  ·rename_i C' dx fs hG
   obtain⟨rfl,hl,q2⟩:=q2
   obtain rfl:u= .ref a:=d2
   obtain⟨vs,hH,df⟩:=r2 a _ hG
   have kk:Keep X.K H2 (L2.upd H2 a (.ins C' dx (iP f v vs))):=km hH
   refine⟨a,_,dx,vs,rfl,hH,c,n,by rw[pM df];exact hl,cl.nx _ _ _ _ q2 (rs.keep ((k1.trans k2).trans kk)) (r2.putI hH (pL (d1.keep k2) df)) ((k1.trans k2).trans kk)⟩
  ·exact q2.elim
 ·exact q2.elim
noncomputable def sL(C:Addr)(f:Str)(x:PV)(tv:E2)(τ:jo)(G:Gp)(Q:Gp->Prop):Prop:=match x with
 | .ref a=>match G a with
  |some (.ins C' _ fs)=>C'=C/\match fs.lookup f with
   |some (.int i)=>tv τ G λy G1=>match y with
    | .int j=>match G1 a with
     |some (.ins C'' dx' fs')=>C''=C/\fs'.length<1000/\Q (up G1 a (.ins C dx' (ig f (.int (i+j)) fs')))
     |_=>False
    |_=>False
   |_=>False
  |_=>False
 |_=>False
noncomputable abbrev vj(C:Addr)(ta tv:E2)(f:Str):S2:=λD τ G=>ta τ G λx G1=>sL C f x tv τ G1 λG3=>D.nx τ G3
theorem sx{X:Cx}{C:Addr}{o value:Expr}{f:Str}{ta tv:E2}{pos tpos:Pos}(c:Cls X.K C)(n:NoAttr X.K C f)(ha:JE X o ta)(hv:JE X value tv):
  JS X (.AugAssign (.Attribute o f tpos) .Add value pos) (vj C ta tv f):= .of (so ha.h hv.h Ky) λD σ H ⟨τ,G,D2,rs,rp,q,cl⟩=>by
 refine⟨τ,G,_,rs,rp,q,λx G1 u H1 q1 d1 r1 k1=> ?_⟩
 unfold sL at q1
 split at q1
 ·rename_i a
  split at q1
  ·rename_i C' dx fs hG
   obtain⟨rfl,q1⟩:=q1
   split at q1
   ·rename_i i hl
    obtain rfl:u= .ref a:=d1
    obtain⟨vs,hH,df⟩:=r1 a _ hG
    obtain⟨w',hw,dw⟩:=mO df hl
    obtain rfl:w'= .int i:=dw
    refine⟨a,_,dx,vs,_,rfl,hH,c,n,hw,τ,G1,_,rs.keep k1,r1,q1,λy G2 v H2 q2 d2 r2 k2=> ?_⟩
    split at q2
    ·rename_i j
     split at q2
     ·rename_i C'' dx' fs' hG2
      obtain⟨rfl,hl2,q2⟩:=q2
      obtain rfl:v= .int j:=d2
      obtain⟨vs2,hH2,df2⟩:=r2 a _ hG2
      have kk:Keep X.K H2 (L2.upd H2 a (.ins C'' dx' (iP f (.int (i+j)) vs2))):=km hH2
      exact⟨i,j,rfl,rfl,dx',vs2,hH2,by rw[pM df2];exact hl2,cl.nx _ _ _ _ q2 (rs.keep ((k1.trans k2).trans kk)) (r2.putI hH2 (pL (q:= .int (i+j)) rfl df2)) ((k1.trans k2).trans kk)⟩
     ·exact q2.elim
    ·exact q2.elim
   ·exact q1.elim
  ·exact q1.elim
 ·exact q1.elim
noncomputable def isI(C:Addr)(m:Str)(x:PV)(G:Gp):Prop:=∃a dx fs,x= .ref a/\G a=some (.ins C dx fs)/\fs.lookup m=none
structure MetX(P:aI)(w:aY)(K:PySem.W.Frag)(mg:Str->Option ae)(base:Heap)(D C:Addr)(k:Nat)(m:Str)(f:Addr)(fd:aW)(ps:List Str)(sp:Eu):Prop where
 ok:NL P w K mg base D k f fd ps sp
 b:Binds K fd ps []
 c:Cls K C
 m:iA K C m f
structure dF(P:aI)(w:aY)(K:PySem.W.Frag)(mg:Str->Option ae)(base:Heap)(C:Addr)(k:Nat)(m:Str)(f:Addr)(fd:aW)(ps:List Str)(sp:im):Prop where
 ok:iz P w K mg base k f fd ps sp
 b:Binds K fd ps []
 c:Cls K C
 m:iA K C m f
noncomputable abbrev Nr(C:Addr)(m:Str)(sp:im)(to:E2)(t:A2):E2:=λτ G Q=>to τ G λx G1=>isI C m x G1/\t τ G1 λps G2=>sp (x::ps) G2 Q
section
end
section
variable{X:Cx}{C:Addr}{k k':Nat}{m x:Str}{f':Addr}{fd:aW}{ps:List Str}{o e:Expr}{es:List Expr}{to:E2}{t:A2}{pos apos p:Pos}{pl:Sem Bool}
theorem Ki{sp:im}(M:dF X.prog X.w X.K X.mg X.base C k m f' fd ps sp)(hr:Room k' X.A)(hk:k<=k')(ho:JE X o to)
  (ht:eval (.Call (.Attribute o m apos) [] [] pos) X.env=(do
   let ov <-eval o X.env
   standAt apos.atName
   let(fv,first) <-holding [ov] (getMethod ov m pl)
   callWith pos fv first (bB pos (aq [] X.env)) (gB pos (dO [] X.env))):=by rfl):
  JE X (.Call (.Attribute o m apos) [] [] pos) (λτ G Q=>to τ G λx G1=>isI C m x G1/\sp [x] G1 Q):=
 .of (Cn (pl:=pl) ho.h M.c M.m (M.ok.mono hk) hr M.b .nil zf ht) λσ H1 Q q=>by
  obtain⟨τ,G,Q2,rs,rp,q,cl⟩:=q
  refine⟨τ,G,_,rs,rp,q,λx G1 v H2 q1 d1 r1 k1=> ?_⟩
  obtain⟨⟨a,dx,fs,rfl,hG,hl⟩,q1⟩:=q1
  obtain rfl:v= .ref a:=d1
  obtain⟨vs,hH,df⟩:=r1 a _ hG
  exact⟨a,dx,vs,rfl,hH,qX df hl,[.ref a],G1,Q2,⟨.ref a,[],rfl,rfl,rfl⟩,r1,q1,cl.keep k1⟩
noncomputable abbrev HN(C:Addr)(sp:im)(t:A2):E2:=λτ G Q=>t τ G λps G1=>∀x dx,G1 x=none->G1 dx=none->dx≠x->sp (.ref x::ps) (up G1 x (.ins C dx [])) λv G2=>v= .non/\Q (.ref x) G2
theorem Dz{sp:im}(M:Mk X.K C f')(ok:iz X.prog X.w X.K X.mg X.base k f' fd ps sp)(hb:Binds X.K fd ps [])(hr:Room k' X.A)(hk:k+1<=k')(hm:X.mg x=some (.ref C))(ha:JA X (e::es) t)(hg:Gl X x:=by rfl)
  (hdb:(x==("__debug__" :Str))=false:=by decide) (he:aq (e::es) X.env=(false,eval e X.env)::aq es X.env:=by rfl) (hpl:(bB pos (aq es X.env)).any (·.1)=false:=by rfl):
  JE X (.Call (.Name x p) (e::es) [] pos) (HN C sp t):= .of (Fk M ok (hr.mono hk) hg hm hb .nil zf ha.h hdb he hpl) λσ H Q q=>by
 obtain⟨τ,G,Q2,rs,rp,q,cl⟩:=q
 refine⟨τ,G,_,rs,rp,q,λps G1 vs H1 q1 d1 r1 k1=>λa dx ha hdx ne=> ?_⟩
 have k2:Keep X.K H1 (L2.upd H1 dx (.own a)):=bE hdx
 have ha':L2.upd H1 dx (.own a) a=none:=by rw[br (aG ne)];exact ha
 have k3:Keep X.K (L2.upd H1 dx (.own a)) (L2.upd (L2.upd H1 dx (.own a)) a (.ins C dx [])):=bE ha'
 have rp2:Rep X.K (L2.upd H1 dx (.own a)) G1:=r1.upd k2 (λ_ _ e _=>e) λo e=>by rw[r1.none hdx]at e;cases e
 have rp3:Rep X.K (L2.upd (L2.upd H1 dx (.own a)) a (.ins C dx [])) (up G1 a (.ins C dx [])):=by
  refine rp2.upd k3 (λb o e ne=>by rw[aL ne]at e;exact e) λo e=> ?_
  rw[ao]at e;cases e
  exact⟨[],cr,rfl⟩
 show Hn X.K sp (.ref a::(vs++[])) _ _ _
 rw[bz]
 refine⟨.ref a::ps,_,_,⟨.ref a,vs,rfl,rfl,d1.keep (k2.trans k3)⟩,rp3,q1 a dx (r1.none ha) (r1.none hdx) ne,λv G2 u H2 q2 d2 r2 k4=> ?_⟩
 obtain⟨rfl,q2⟩:=q2
 exact⟨d2,cl _ _ _ _ q2 rfl r2 (((k1.trans k2).trans k3).trans k4)⟩
end
end L3
namespace L2
open PySem PySem.Spec PyProof.Rows
section
end
section
end
section
end
end L2
namespace L3
open PySem L2 PySem.Spec PyProof.Rows
section
end
section
end
theorem LS{P:aI}{w:aY}{D:Addr}{X:Cx}:i5 (nG P w D) X (λ_ _ _=>False):=by
 rintro pins σ H1 s1 e s' I ⟨x,T,H',rfl,tr,nx,nT,hx,hT,os,bare,un,hok,hE⟩
 exact hE.elim
theorem xwN{K:PySem.W.Frag}{D:Addr}:XW K D (λ_ _ _=>False) (λ_=>False):=λ_ _ h _=>h
section
variable{X:Cx}{D:Addr}{k k':Nat}{x:Str}{f':Addr}{fd:aW}{ps:List Str}{sp:Eu}{e:Expr}{es:List Expr}{t:A2}{pos p:Pos}{E:XK}{EX:Gp->Prop}
theorem DB(hp:i5 (nG X.prog X.w D) X E)(hX:XW X.K D E EX)(Cl:rA X.prog X.w X.K X.mg X.base D k x f' fd ps sp)(hr:Room k' X.A)(hk:k<=k')
  (ha:JA X (e::es) t) (hg:Gl X x:=by rfl) (hdb:(x==("__debug__" :Str))=false:=by decide)
  (he:aq (e::es) X.env=(false,eval e X.env)::aq es X.env:=by rfl) (hpl:(bB pos (aq es X.env)).any (·.1)=false:=by rfl):
  JE X (.Call (.Name x p) (e::es) [] pos) (uk sp EX t):=
 .of (ze (Cl.ok.mono hk) hr hg Cl.m Cl.kp Cl.b .nil hp ha.h hdb he hpl) λσ H1 Q q=>by
  obtain⟨τ,G,Q2,rs,rp,q,cl⟩:=q
  refine⟨τ,G,_,rs,rp,q,λps G1 vs H2 q1 d1 r1 k1=> ?_⟩
  show spX X.K D sp (vs++[]) H2 Q E
  rw[bz]
  exact⟨ps,G1,Q2,EX,d1,r1,q1,cl.keep k1,hX⟩
theorem Ko(Cl:rA X.prog X.w X.K X.mg X.base D k x f' fd ps sp)(hr:Room k' X.A)(hk:k<=k')
  (ha:JA X (e::es) t) (hg:Gl X x:=by rfl) (hdb:(x==("__debug__" :Str))=false:=by decide)
  (he:aq (e::es) X.env=(false,eval e X.env)::aq es X.env:=by rfl) (hpl:(bB pos (aq es X.env)).any (·.1)=false:=by rfl):
  JE X (.Call (.Name x p) (e::es) [] pos) (uk sp (λ_=>False) t):=DB LS xwN Cl hr hk ha hg hdb he hpl
end
end L3
namespace L2
open PySem PySem.Spec PyProof.Rows
end L2
namespace L3
open PySem L2 PySem.Spec PyProof.Rows
section
end
end L3
namespace L3
open PySem L2
inductive Bc:Prop
 |mk
section
variable{X:Cx}{a b e:Expr}{ta tb:E2}{pos pos' p p2:Pos}{x y:Str}{i k:Nat}{hi:Option Expr}
theorem jaE(u:Bc)(ha:JE X a ta)(hb:JE X b tb):JE X (.BinOp a .Add b pos) (jU oW ta tb):=Gf ha hb
theorem Bf(i:Nat)(he:JE X e ta)(hN:X.N.Nodup)(hi:X.N[i]? =some x:=by rfl)(hx:zS X.env.scope x:=by first|exact io rfl|exact gQ rfl)(hs:gC e (some (.Name x pos')) pos.line X.env=pure false:=by rfl)
  (hf:X.fn x=true\/X.env.scope.names.lookup x=some .local:=by first|exact .inl rfl|exact .inr rfl):JS X (.Assign [.Name x pos'] e pos) (ES ta (gN i)):=JP he hN hi hx hs hf
theorem Bh(i:Nat)(hN:X.N.Nodup)(hi:X.N[i]? =some x:=by rfl)(hx:zS X.env.scope x:=by first|exact io rfl|exact gQ rfl)(hf:X.fn x=true\/X.env.scope.names.lookup x=some .local:=by first|exact .inl rfl|exact .inr rfl):JG X (.Name x pos) (gN i):=F0 hN hi hx hf
theorem t7(i:Nat)(hN:X.N.Nodup)(hc:X.calm=true:=by rfl)(hi:X.N[i]? =some x:=by rfl)(hx:zS X.env.scope x:=by first|exact io rfl|exact gQ rfl)(hj:X.N[i+1]? =some y:=by rfl)(hy:zS X.env.scope y:=by first|exact io rfl|exact gQ rfl)
  (hf:X.fn x=true\/X.env.scope.names.lookup x=some .local:=by first|exact .inl rfl|exact .inr rfl) (hf2:X.fn y=true\/X.env.scope.names.lookup y=some .local:=by first|exact .inl rfl|exact .inr rfl):
  JG X (.Tuple [.Name x p,.Name y p2] k pos) (OQ i (i+1)):=Dt hc hN hi hx hj hy hf hf2
end
end L3
namespace L2
open PySem PySem.Spec PyProof.Rows
section
end
end L2
namespace L3
open PySem L2 PySem.Spec PyProof.Rows
section
variable{X:Cx}
noncomputable def xg(z:Str)(i:Int):Str:=if i<1 then Str.empty else if(i==1||z.length==0)=true then z else p8 z i.toNat
noncomputable def C8:B2:=λp q G Q=>match p,q with
 | .str z,.int i=>0<=i/\i<=1000/\z.length<=10000/\Q (.str (xg z i)) G
 |_,_=>False
theorem Jp:ic X (cK .Mult) (fG X.K C8):=by
 intro pins s σ H x y v u Q I rx ry h
 obtain⟨p,q,G,Q2,d1,d2,rp,h,cl⟩:=h
 unfold C8 at h
 split at h
 ·rename_i z i
  obtain⟨h1,h2,h3,q⟩:=h
  obtain rfl:x= .str z:=d1
  obtain rfl:y= .int i:=d2
  by_cases hi:i<1
  ·obtain⟨t,rfl⟩:=rx
   obtain⟨t',rfl⟩:=ry
   refine P.mul_str (by rw[decide_eq_false (by ac_nf),decide_eq_false (by ac_nf)];rfl) (λhn _=>absurd hi hn) (λhn _=>absurd hi hn) ?_
   rw[if_pos hi]
   unfold xg at q
   rw[if_pos hi]at q
   exact⟨by decide,.str Str.empty,H,I.tok _,⟨_,rfl⟩,cl _ _ _ _ q rfl rp .refl⟩
  ·unfold xg at q
   rw[if_neg hi]at q
   exact xp pins s σ H _ _ v u Q I rx ry ⟨z,i,rfl,rfl,by ac_nf,h2,h3,cl _ _ _ _ q rfl rp .refl⟩
 ·exact h.elim
theorem jmS{a b:Expr}{ta tb:E2}{pos:Pos}(u:Bc)(ha:JE X a ta)(hb:JE X b tb):JE X (.BinOp a .Mult b pos) (jU C8 ta tb):=ua Jp ha hb
theorem yi:∀{xs:List V} {us:List ae},us.length=xs.length->(∀(i:Nat) (x:V) (u:ae),xs[i]? =some x->us[i]? =some u->RelV x u)->Vals xs us
 |[],[],_,_=> .nil
 |x::xs,u::us,hl,h=> .cons (h 0 x u rfl rfl) (yi (by simpa using hl) λi y v hy hv=>h (i+1) y v (by simpa using hy) (by simpa using hv))
 |[],_::_,hl,_=>by cases hl
 |_::_,[],hl,_=>by cases hl
end
end L3
namespace L2
open PySem PySem.Spec PyProof.Rows
section
end
end L2
namespace L3
open PySem L2 PySem.Spec PyProof.Rows
section
end
end L3
namespace PySem
open PyProof.Rows (StrsAre)
section
end
end PySem
namespace L3
open PySem L2
noncomputable def qF:C2:=λps G Q=>match ps with
 |[.int i,.int j]=>Q (.int (if j<i then j else i)) G
 |_=>False
section
variable{X:Cx}{e:Expr}
theorem KM(hc:X.calm=true):gx X (.builtin "min") (pc X.K qF):=by
 intro pins s σ H xs us Q I rs h
 obtain⟨ps,G,Q2,d,rp,h,cl⟩:=h
 unfold qF at h
 split at h
 ·rename_i i j
  obtain⟨v,u,rfl,dv,du⟩:=pA d
  obtain rfl:v= .int i:=dv
  obtain rfl:u= .int j:=du
  exact A7 hc pins s σ H _ us Q I rs ⟨i,j,rfl,cl _ _ _ _ h rfl rp .refl⟩
 ·exact h.elim
theorem J0{es:List Expr}{t:A2}{p pos:Pos}(B:BN X.mg)(hc:X.calm=true)(ha:JA X (e::es) t)(hg:Gl X "min" :=by rfl)(he:aq (e::es) X.env=(false,eval e X.env)::aq es X.env:=by rfl)(hpl:(bB pos (aq es X.env)).any (·.1)=false:=by rfl):JE X (.Call (.Name "min" p) (e::es) [] pos) (v8 qF t):=kG (KM hc) B.min Eb ha hg (by decide) (by decide) he hpl
end
section
end
end L3
namespace PySem
open AutoSeq1 (wpAny_loadPart')
section
end
end PySem
namespace L2
open PySem
section
end
end L2
namespace L3
open PySem L2
section
end
section
end
section
end
end L3
namespace L2
open PySem PySem.Spec PyProof.Rows
section
end
end L2
namespace L3
open PySem L2
section
end
theorem lD:∀{xs ys:List PV},(iZ xs ys).length=min xs.length ys.length
 |[],ys=>by simp[iZ]
 |x::xs,[]=>by simp[iZ]
 |x::xs,y::ys=>by
  show(iZ xs ys).length+1=_
  rw[lD];simp only[aT];ac_nf
section
end
end L3
namespace L3
open PySem L2 PySem.Spec PyProof.Rows
section
variable{X:Cx}{C:Addr}{k k':Nat}{m x:Str}{f':Addr}{fd:aW}{ps:List Str}{o e:Expr}{es:List Expr}{to:E2}{t:A2}{pos apos:Pos}{pl:Sem Bool}
theorem Kh{sp:im}(M:dF X.prog X.w X.K X.mg X.base C k m f' fd ps sp)(hr:Room k' X.A)(hk:k<=k')(ho:JE X o to)(ha:JA X (e::es) t)
  (hst:aq (e::es) X.env=(false,eval e X.env)::aq es X.env:=by rfl) (hpl:(bB pos (aq es X.env)).any (·.1)=false:=by rfl)
  (ht:eval (.Call (.Attribute o m apos) (e::es) [] pos) X.env=(do
   let ov <-eval o X.env
   standAt apos.atName
   let(fv,first) <-holding [ov] (getMethod ov m pl)
   callWith pos fv first (bB pos (aq (e::es) X.env)) (gB pos (dO [] X.env))):=by rfl):
  JE X (.Call (.Attribute o m apos) (e::es) [] pos) (Nr C m sp to t):=
 .of (Fj (pl:=pl) ho.h M.c M.m (M.ok.mono hk) hr M.b .nil zf ha.h hst hpl ht) λσ H1 Q q=>by
  obtain⟨τ,G,Q2,rs,rp,q,cl⟩:=q
  refine⟨τ,G,_,rs,rp,q,λx G1 v H2 q1 d1 r1 k1=> ?_⟩
  obtain⟨⟨a,dx,fs,rfl,hG,hl⟩,q1⟩:=q1
  obtain rfl:v= .ref a:=d1
  obtain⟨vs,hH,df⟩:=r1 a _ hG
  refine⟨a,dx,vs,rfl,hH,qX df hl,τ,G1,_,rs.keep k1,r1,q1,λps G2 us H3 q2 d2 r2 k2=> ?_⟩
  show Hn X.K sp (.ref a::(us++[])) H3 Q _
  rw[bz]
  exact⟨.ref a::ps,G2,Q2,⟨.ref a,us,rfl,rfl,d2⟩,r2,q2,cl.keep (k1.trans k2)⟩
end
end L3
namespace L2
open PySem PySem.Spec PyProof.Rows
section
variable{M:Model}{A:Around}{E:ae->ai->Prop}
variable{nm q:Str}{C N:Addr}{bs bm:List ae}{hdct:Bool}{sn:List Str}{sub:List ae}{ab:Bool}{col:Option Bool}{dd:Option Addr}{k0 k1 k2 k3 k5:Option ae}{newId:String}
variable{nm' q':Str}{C' N':Addr}{bs' bm':List ae}{hdct':Bool}{sn':List Str}{sub':List ae}{ab':Bool}{col':Option Bool}{dd':Option Addr}{k0' k1' k2' k3' k5':Option ae}{newId':String}
theorem qV{h:Heap}{g:Array GenState}{d:Drawn}{t:Nat}{os:OsState}{e:Addr}{oe:Obj}{Q:Bool->ai->Prop}
  (hC:h.get? C=some (excClassObj nm q C N bs bm hdct sn sub ab col dd k0 k1 k2 k3 k5 newId)) (hG:h.get? C'=some (excClassObj nm' q' C' N' bs' bm' hdct' sn' sub' ab' col' dd' k0' k1' k2' k3' k5' newId'))
  (he:h.get? e=some oe) (hcls:oe.cls= .ref C) (hbase:bm'.contains (.type "BaseException")=true) (hin:(aB C::bm).contains (.ref C')=true)
  (hq:Q true ⟨h,g,d,t,os⟩):wpAny M A (excMatches (.ref e) (.ref C')) Q E ⟨h,g,d,t,os⟩:=by
 have hcB:(aB C'::bm').contains (.type "BaseException")=true:=by rw[List.contains_cons,hbase,Bool.or_true]
 have f:=tc_notTuple
 unfold excMatches
 repeat (first|(with_reducible refine sY he ?_;rw[hcls])|with_reducible refine sY hC ?_|with_reducible refine sY hG ?_|(with_reducible refine wpAny_isSubtype_exc hG ?_;rw[hcB])|(with_reducible refine wpAny_isSubtype_exc hC ?_;rw[hin])|wp_step)
 exact hq
end
noncomputable def lN(K:PySem.W.Frag)(C G:Addr):Bool:=match K.lookup C with
 |some ⟨_,_,.cls cd,_⟩=>(cd.mro).contains (.ref G)
 |_=>false
noncomputable def Cx.inX(X:Cx)(e:ae):Cx:={X with A:=X.A.mark (some e),calm:=false,xe:=λ_ _=>False}
section
variable{X:Cx}{pins:List (Addr×Obj)}{σ:St}{H:Hp}{s:ai}{e:ae}
theorem Inv.inX(I:Inv X pins σ H s)(e:ae):Inv (X.inX e) pins σ H s:=
 ⟨⟨I.ok.mod,I.ok.kind,I.ok.glob,I.ok.blt,I.ok.above,I.ok.inj,I.ok.has,I.ok.cab,(λz=>nomatch z),I.ok.frames,I.ok.stk,I.ok.exf,I.ok.bs,I.ok.bsz,I.ok.noex,I.ok.exfs,I.ok.funs,I.ok.frf⟩,I.os,I.bare,I.base,I.loc,I.cell,I.free,I.freeC,I.pin,I.hok,I.len⟩
theorem Inv.outX(ok:X.Ok)(I:Inv (X.inX e) pins σ H s):Inv X pins σ H s:=⟨ok,I.os,I.bare,I.base,I.loc,I.cell,I.free,I.freeC,I.pin,I.hok,I.len⟩
theorem Inv.gone{M:Model}{A:Around}{E:ae->ai->Prop}{j:Nat}{n:Str}{pos:Pos}{Q:Unit->ai->Prop}(I:Inv X pins σ H s)(hN:X.N.Nodup)(hi:X.N[j]? =some n)(hl:X.env.scope.names.lookup n=some .local)
  (h:∀s',Inv X pins (σ.set j none) H s'->Q () s'):wpAny M A (do bindName X.env n .none;unbindBehindTheSuite X.env n pos) Q E s:=by
 obtain⟨m,hn,hlk⟩:=id I.loc
 have hcls:(X.env.scope.kind== .class||(X.env.scope.kind== .module&&X.env.locals !=X.env.globals))=false:=by rw[I.ok.kind];rfl
 have hiσ:j<σ.length:=by rw[I.len];exact(am.mp hi).1
 have cne:=I.cne
 have tracked:∀{a:Addr} {h':Heap},(∃o,s.heap.get? a=some o/\H a=none)->dW a s.heap h'->HOk X.prog X.w H h':=fun{a h'} ha hs b ob e=>by
  obtain⟨_,_,hfree⟩:=ha
  refine(I.hok b ob e).stay (λc w' hc q=>(hs.2 c ?_).trans q) (λ_ q=>q) λ_ _ q=>q
  rintro rfl
  rcases hc with rfl|hc
  ·rw[hfree]at e;cases e
  ·rw[hfree]at hc;cases hc
 refine wpAny_nameGoes_keeps hl hn hcls λh' v hn' hs=> ?_
 obtain⟨oL,_,_,hoL,_⟩:=id hn
 refine h _ ⟨I.ok,I.os,I.bare,⟨λb o e n hb hx=> ?_,λb o e n hb hx=> ?_,I.base.free,λb o e hx=> ?_,I.base.tups,I.base.frzs,I.base.tbls⟩,⟨_,hn',λk y v' e1 e2 e3=> ?_⟩,λy c e=> ?_,I.free,I.freeC,λp hp=> ?_,tracked ⟨oL,hoL,I.free⟩ hs,by simpa using I.len⟩
 ·exact(hs.2 b (aU (ba (aC e) I.ok.above))).trans (I.base.keep b o e n hb hx)
 ·obtain⟨sl,e1⟩:=I.base.slot b o e n hb hx
  exact⟨sl,(hs.2 b (aU (ba (aC e) I.ok.above))).trans e1⟩
 ·obtain⟨o',e1⟩:=I.base.there b o e hx
  exact⟨o',(hs.2 b (aU (ba (aC e) I.ok.above))).trans e1⟩
 ·by_cases hj:k=j
  ·subst hj
   rw[cE hiσ]at e2
   cases e2
  ·rw[cf (aG hj)]at e2
   obtain⟨u',r',q⟩:=hlk k y v' e1 e2 e3
   refine⟨u',r',?_⟩
   rcases q with⟨k,e⟩|⟨k,c,e,z⟩
   ·refine .inl ⟨k,?_⟩
    have:y≠n:=λe=>hj (qC hN e1 (e▸hi))
    simp[this,e]
   ·exact .inr ⟨k,c,e,z.sameBut hs (cne y c e)⟩
 ·obtain⟨w',z⟩:=I.cell y c e
  exact⟨w',z.sameBut hs (cne y c e)⟩
 ·obtain⟨e,n,ne,nf,d⟩:=I.pin p hp
  exact⟨(hs.2 p.1 ne).trans e,n,ne,nf,d⟩
end
noncomputable def Ends.drop(D:Ends)(j:Nat):Ends:={nx:=λσ H=>D.nx (σ.set j none) H,rt:=D.rt,bk:=λσ H=>D.bk (σ.set j none) H,ct:=λσ H=>D.ct (σ.set j none) H}
section
variable{X:Cx}{C:Addr}
theorem A5{xc n:Str}{np p3:Pos}{b0:Stmt}{suite:List Stmt}{tb:TS}{G:Addr}{j:Nat}{pins:List (Addr×Obj)}{σ:St}{H1:Hp}{s1 s':ai}{D:Ends}{E:XK}{ex:ae}{env:Env}{outer:List Env}(hst:X.stack=env::outer)(henv:X.env=env)
  (I2:Inv X pins σ H1 s1) (hq:nG X.prog X.w C X.stack H1 s1 E ex s')
  (q:PySem.W.excIn X.K C Ba "ValueError.__new__" =true) (qg:PySem.W.excIn X.K G Ba "ValueError.__new__" =true) (hup:lN X.K C G=true) (hgc:Gl X xc) (hmc:X.mg xc=some (.ref G)) (hN:X.N.Nodup) (hj:X.N[j]? =some n) (hl:X.env.scope.names.lookup n=some .local)
  (hE:∀H' x,E (.ref C) none H'->(∀b xs,H1 b=some (.tup xs)->H' b=some (.tup xs))->(∀b o u,H1 b=some (.frz o u)->H' b=some (.frz o u))->H' x=none->tb (D.drop j) (σ.set j (some (.ref x))) (upd H' x (vZ x C)))
  (hs:∀x:Addr,PSs (X.inX (.ref x)) (b0::suite) tb) (hdc:(xc==("__debug__" :Str))=false:=by decide):
  wpAny (aQ X.prog X.w) X.A (noteFrame ex X.env) (λ_ s₂=>wpAny (aQ X.prog X.w) X.A (setFlight ex none) (λ_ s₃=>wpAny (aQ X.prog X.w) X.A (handleBy ex X.env [.ExceptHandler (some (.Name xc np)) (some n) (b0::suite) p3]) (SP X pins D) X.xe s₃) X.xe s₂) X.xe s':=by
 obtain⟨x,T,H',rfl,tr,nx,nT,hx,hT,os,bare,un,hok,hEE⟩:=hq
 subst henv
 obtain⟨hh,g,d,tk,os'⟩:=s'
 have J:=I2.call' (ch:=[]) os un hok bare (λb z=>absurd z (by simp))
 have hstk:=J.stack
 rw[hst]at hstk
 have hfr:X.A.frames=some (X.env::outer):=by rw[J.ok.frames,hst]
 refine FF (base:=X.base) hfr hstk tr λh' hL=> ?_
 obtain⟨⟨T',tr',hT'⟩,k1,k2⟩:=hL
 rw[<-hst]at k1 k2
 have hTn:H' T'=none/\s1.heap.get? T'=none:=by
  rcases hT' with hT'|hT'
  ·cases au.mp hT'
   exact⟨hT,nT⟩
  ·refine⟨hok.none_of hT',?_⟩
   cases q0:s1.heap.get? T' with
   |none=>rfl
   |some o=>
    obtain⟨o',q'⟩:=un.there T' o q0 (by simp)
    rw[hT']at q';cases q'
 have un2:Un (kH X.stack) [] H1 H' s1.heap h':=ym (S:=[T]) un nx (λt ht=>by cases au.mp ht;exact nT) k1 λb o hb _ _ q0=>k2 b o hb q0
 have hok2:HOk X.prog X.w H' h':=vX (S:=[T]) hok hx (λt ht=>by cases au.mp ht;exact hT) J.stkFree k1
 have J2:=I2.call' (s':=⟨h',g,d,tk,os'⟩) (ch:=[]) os un2 hok2 bare (λb z=>absurd z (by simp))
 obtain⟨bm,ns,nm,qn,bs,hd,sn,sub,ab,col,dd,c0,c1,c2,c3,c5,mN,e1,e2,e3,e4⟩:=ox I2.ok.mod.kin q
 obtain⟨bm',ns',nm',qn',bs',hd',sn',sub',ab',col',dd',c0',c1',c2',c3',c5',mN',e1',e2',e3',e4'⟩:=ox I2.ok.mod.kin qg
 have hin:(aB C::bm).contains (.ref G)=true:=by
  unfold lN at hup
  split at hup
  ·rename_i ho
   have:=I2.ok.mod.kin _ _ ho
   rw[e1]at this
   injection this with this
   injection this with _ _ h3 _
   injection h3 with h3
   rw[<-h3]at hup
   exact hup
  ·cases hup
 refine wpAny_handleBy_cons (codeAny_handlers_test ?_) (by intro z;cases z)
 refine ja J2.ok.kind hgc (wF (by rw[J2.ok.glob];exact J2.mod.glob.keeps J2.bk) hmc ?_) hdc
 obtain⟨oe,vs',oT,ts,he1,he2,he3,he4,he5,he6,he7,he8⟩:=id tr'
 refine qV (J2.bk _ _ e1) (J2.bk _ _ e1') he1 he2 (e4'.hasType (by decide)) hin ?_
 refine codeAny_handlers_suite_as (AY (s:=⟨h',g,d,tk,os'⟩) tr' λh'' k3=> ?_)
 have un3:Un (kH X.stack) [] H1 H' s1.heap h'':=ym (S:=[T']) un2 nx (λt ht=>by cases au.mp ht;exact hTn.2) (λb o _ _ hS q0=>k3 b o (by simpa using hS) q0) λb o _ _ hS q0=>⟨o.slots,k3 b o (by simpa using hS) q0⟩
 have hok3:HOk X.prog X.w H' h'':=vX (S:=[T']) hok2 hx (λt ht=>by cases au.mp ht;exact hTn.1) J.stkFree λb o _ _ hS q0=>k3 b o (by simpa using hS) q0
 have J3:=I2.call' (s':=⟨h'',g,d,tk,os'⟩) (ch:=[]) os un3 hok3 bare (λb z=>absurd z (by simp))
 have hxe:h''.get? x=some oe:=k3 x oe (aG he5) he1
 have un4:Un (kH X.stack) [] H1 (upd H' x (vZ x C)) s1.heap h'':=⟨un3.keep,un3.slot,λb o q n hb=>by rw[br (λz=>by rw[z,nx]at q;cases q)];exact un3.free b o q n hb,un3.there,
  λb xs q=>by rw[br (cq (un3.tups b xs q) hx)];exact un3.tups b xs q,λb o u q=>by rw[br (cq (un3.frzs b o u q) hx)];exact un3.frzs b o u q,λb ps q=>by
   obtain⟨qs,e⟩:=un3.tbls b ps q
   exact⟨qs,by rw[br (cq e hx)];exact e⟩⟩
 have hok4:HOk X.prog X.w (upd H' x (vZ x C)) h'':=hok3.laidN (λ_ _ z=>z) hx ⟨⟨oe,hxe,he2⟩,⟨_,hxe⟩,XAt.stay⟩
 have J4:=I2.call' (s':=⟨h'',g,d,tk,os'⟩) (ch:=[]) os un4 hok4 bare (λb z=>absurd z (by simp))
 have ok:=I2.ok
 refine kc J4 hN hj (.inl hl) (v:= .ref x) rfl (λs4 J5=> ?_) (.inr hl)
 refine bc (hs x pins s4 _ _ (D.drop j) (J5.inX (.ref x)) (hE H' x hEE un.tups un.frzs hx)) (λf s5 h5=> ?_) λ_ _ z=>z.elim
 cases f with
 |next=>obtain⟨σ',H5,I5,q5⟩:=h5;exact(I5.outX ok).gone hN hj hl λs6 I6=>⟨_,H5,I6,q5⟩
 |brk=>obtain⟨σ',H5,I5,q5⟩:=h5;exact(I5.outX ok).gone hN hj hl λs6 I6=>⟨_,H5,I6,q5⟩
 |cont=>obtain⟨σ',H5,I5,q5⟩:=h5;exact(I5.outX ok).gone hN hj hl λs6 I6=>⟨_,H5,I6,q5⟩
 |ret u=>obtain⟨v,σ',H5,I5,r5,q5⟩:=h5;exact(I5.outX ok).gone hN hj hl λs6 I6=>⟨v,_,H5,I6,r5,q5⟩
end
noncomputable def Ie(sp:Sp)(t:TA)(C:Addr)(j:Nat)(tb:TS):TS:=λD σ H=>t σ H λvs H1=>sp vs H1 (λ_ H2=>D.nx σ H2) λ_ _ H2=>(∀b xs,H1 b=some (.tup xs)->H2 b=some (.tup xs))->(∀b o u,H1 b=some (.frz o u)->H2 b=some (.frz o u))->∀x,H2 x=none->tb (D.drop j) (σ.set j (some (.ref x))) (upd H2 x (vZ x C))
theorem Cb{X:Cx}{C G:Addr}{k j:Nat}{f:Addr}{fd:aW}{ps:List Str}{sp:Sp}{xf xc n:Str}{p pos np p1 p3 p4:Pos}{e:Expr}{es:List Expr}{t:TA}{b0:Stmt}{suite:List Stmt}{tb:TS}{env:Env}{outer:List Env}(hst:X.stack=env::outer)(henv:X.env=env)
  (F:FnOk X.prog X.w X.K X.mg X.base (nG X.prog X.w C) k f fd ps sp) (hr:Room k X.A) (hg:Gl X xf) (hm:X.mg xf=some (.ref f)) (hk:PySem.W.keepIn X.K (.ref f)=true) (hb:Binds X.K fd ps [])
  (q:PySem.W.excIn X.K C Ba "ValueError.__new__" =true) (qg:PySem.W.excIn X.K G Ba "ValueError.__new__" =true) (hup:lN X.K C G=true) (hgc:Gl X xc) (hmc:X.mg xc=some (.ref G)) (hN:X.N.Nodup) (hj:X.N[j]? =some n) (hl:X.env.scope.names.lookup n=some .local)
  (ha:PA X.nox (e::es) t) (hs:∀x:Addr,PSs (X.inX (.ref x)) (b0::suite) tb) (hdb:(xf==("__debug__" :Str))=false:=by decide) (hdc:(xc==("__debug__" :Str))=false:=by decide)
  (he:aq (e::es) X.env=(false,eval e X.env)::aq es X.env:=by rfl) (hpl:(bB pos (aq es X.env)).any (·.1)=false:=by rfl) (hsw:gC (.Call (.Name xf p) (e::es) [] pos) none p1.line X.env=pure false:=by rfl):
  PS X (.Try [.Expr (.Call (.Name xf p) (e::es) [] pos) p1] [.ExceptHandler (some (.Name xc np)) (some n) (b0::suite) p3] [] [] p4) (Ie sp t C j tb):=by
 intro pins s σ H D I h
 refine wpAny_Try_except ?_
 refine wpAny_execs_cons (wpAny_Expr_any ?_ I.quiet hsw)
 refine fL (mH I hg hm ?_ hdb)
 refine PySem.W.callWith_K (h₀:=X.base) I.ok.mod.kin hk (bc (ha pos pins s σ H _ (I.wish _) h) (λus s1 h1=> ?_) λ_ _ z=>z.elim) he hpl
 obtain⟨vs,H1,I1,r,q1⟩:=h1
 have I2:=I1.unwish
 refine⟨I2.kIn,?_⟩
 have hl':(us++[]).length=ps.length:=by rw[bz,<-r.length];exact F.len _ _ _ _ q1
 refine wpAny_call (mX (F.run X.A X.stack s1 H1 ⟨us,[]⟩ (us++[]) vs _ _ hr I2.env0 (hb s1 us I2.kIn hl') (by rw[bz];exact r) q1) λres s' hq=> ?_)
 cases res with
 |ok fl=>
  cases fl with
  |ret u=>
   obtain⟨v,H',I',_,q'⟩:=I2.after hq
   exact hZ (hZ ⟨σ,H',I',q'⟩)
  |next=>exact bN hq
  |brk=>exact bN hq
  |cont=>exact bN hq
 |error ex=>
  have hq':nG X.prog X.w C X.stack H1 s1 (λ_ _ H2=>(∀b xs,H1 b=some (.tup xs)->H2 b=some (.tup xs))->(∀b o u,H1 b=some (.frz o u)->H2 b=some (.frz o u))->∀x,H2 x=none->tb (D.drop j) (σ.set j (some (.ref x))) (upd H2 x (vZ x C))) ex s':=hq
  exact A5 hst henv I2 hq' q qg hup hgc hmc hN hj hl (λH' x hE tt ff hx=>hE tt ff x hx) hs hdc
end L2
namespace L3
open PySem L2 PySem.Spec PyProof.Rows
noncomputable abbrev D2.drop(D:D2)(j:Nat):D2:={nx:=λτ G=>D.nx (st τ j none) G,rt:=D.rt,bk:=λτ G=>D.bk (st τ j none) G,ct:=λτ G=>D.ct (st τ j none) G}
theorem RSt.drop{K:PySem.W.Frag}{H:Hp}{σ:L2.St}{τ:jo}(r:RSt K H σ τ)(j:Nat):RSt K H (σ.set j none) (st τ j none):=by
 rw[wY]
 refine⟨by simp[r.1],λi q e=> ?_⟩
 by_cases hj:j=i
 ·subst hj
  have hi:j<τ.length:=by
   have:=(am.mp e).1
   simpa using this
  rw[cE hi]at e
  cases e
 ·rw[cf hj]at e⊢
  exact r.2 i q e
theorem ClD.drop{K:PySem.W.Frag}{H:Hp}{D:L3.D2}{D':Ends}(c:ClD K H D D')(j:Nat):ClD K H (D.drop j) (D'.drop j):=
 ⟨λτ G σ H' q r rp k=>c.nx _ _ _ _ q (r.drop j) rp k,c.rt,λτ G σ H' q r rp k=>c.bk _ _ _ _ q (r.drop j) rp k,λτ G σ H' q r rp k=>c.ct _ _ _ _ q (r.drop j) rp k⟩
noncomputable abbrev Iu(sp:Eu)(t:A2)(C:Addr)(j:Nat)(tb:S2):S2:=λD τ G=>t τ G λps G1=>sp ps G1 (λ_ G2=>D.nx τ G2) λG2=>∀x,G2 x=none->tb (D.drop j) (st τ j (some (.ref x))) (up G2 x (.exc C))
theorem mJ{X:Cx}{C G:Addr}{k k' j:Nat}{f:Addr}{fd:aW}{ps:List Str}{sp:Eu}{xf xc n:Str}{p pos np p1 p3 p4:Pos}{e:Expr}{es:List Expr}{t:A2}{b0:Stmt}{suite:List Stmt}{tb:S2}{outer:List Env}
  (Cl:rA X.prog X.w X.K X.mg X.base C k xf f fd ps sp) (hr:Room k' X.A) (hk:k<=k') (q:PySem.W.excIn X.K C Ba "ValueError.__new__" =true) (qg:PySem.W.excIn X.K G Ba "ValueError.__new__" =true) (hup:lN X.K C G=true) (hmc:X.mg xc=some (.ref G)) (hN:X.N.Nodup)
  (ha:JA X.nox (e::es) t) (hs:∀x:Addr,JB (X.inX (.ref x)) (b0::suite) tb) (hj:X.N[j]? =some n:=by rfl) (hl:X.env.scope.names.lookup n=some .local:=by rfl) (hst:X.stack=X.env::outer:=by rfl)
  (hg:Gl X xf:=by rfl) (hgc:Gl X xc:=by rfl) (hdb:(xf==("__debug__" :Str))=false:=by decide) (hdc:(xc==("__debug__" :Str))=false:=by decide)
  (he:aq (e::es) X.env=(false,eval e X.env)::aq es X.env:=by rfl) (hpl:(bB pos (aq es X.env)).any (·.1)=false:=by rfl) (hsw:gC (.Call (.Name xf p) (e::es) [] pos) none p1.line X.env=pure false:=by rfl):
  JS X (.Try [.Expr (.Call (.Name xf p) (e::es) [] pos) p1] [.ExceptHandler (some (.Name xc np)) (some n) (b0::suite) p3] [] [] p4) (Iu sp t C j tb):=⟨λpins s1 σ H1 D I h=>by
 obtain⟨τ,G1,D2,rs,rp,q2,cl⟩:=h
 refine Cb (tb:=Di X.K tb) hst rfl (Cl.ok.mono hk) hr hg Cl.m Cl.kp Cl.b q qg hup hgc hmc hN hj hl ha.h (λx=>(hs x).h) hdb hdc he hpl hsw pins s1 σ H1 D I ⟨τ,G1,_,rs,rp,q2,λps G2 vs H2 q3 d3 r3 k3=> ?_⟩
 refine⟨ps,G2,_,_,d3,r3,q3,λv G3 v' H3 q4 _ r4 k4=>cl.nx _ _ _ _ q4 (rs.keep (k3.trans k4)) r4 (k3.trans k4),λG3 H3 q4 r4 tt ff x hx=> ?_⟩
 have k4:Keep X.K H2 H3:=FK tt ff
 have k5:Keep X.K H3 (upd H3 x (vZ x C)):=bE hx
 have k6:=(k3.trans k4).trans k5
 refine⟨_,_,D2.drop j,(rs.keep k6).set (p:= .ref x) (v:= .ref x) rfl j,r4.upd k5 (λa o e ne=>by rw[aL ne]at e;exact e) (λo e=>by rw[ao]at e;cases e;exact cr),q4 x (r4.none hx),((cl.drop j).keep k6)⟩⟩
noncomputable def AS(K:PySem.W.Frag):C2:=λps G Q=>match ps with
 |[.ref x,.ref c]=>∃D b,G x=some (.exc D)/\rP K D/\PySem.W.kitOne K (.ref D) (.ref c)=some b/\Q (.bl b) G
 |[.ref x,.ty T]=>∃D b,G x=some (.exc D)/\rP K D/\PySem.W.kitOne K (.ref D) (.type T)=some b/\Q (.bl b) G
 |[.ref x,.tup cs]=>∃(D:Addr) (az:List Addr) (b:Bool),cs=az.map PV.ref/\G x=some (.exc D)/\rP K D/\PySem.W.kitAny K (.ref D) (az.map aB)=some b/\Q (.bl b) G
 |_=>False
theorem y6{K:PySem.W.Frag}{H:Hp}:∀{az:List Addr} {vs:List V} {us:List ae},Dvs K H (az.map PV.ref) vs->Vals vs us->us=az.map aB
 |[],vs,us,d,r=>by
  obtain rfl:vs=[]:=d
  cases r;rfl
 |a::az,vs,us,d,r=>by
  obtain⟨v,vr,rfl,d1,d2⟩:=d
  obtain rfl:v= .ref a:=d1
  cases r with
  |cons r1 r2=>
   cases r1
   rw[y6 d2 r2];rfl
section
variable{X:Cx}{a b e:Expr}{t:A2}{es:List Expr}{p pos:Pos}
theorem ND:gx X (.builtin "isinstance") (pc X.K (AS X.K)):=by
 intro pins s σ H xs us Q I rs h
 obtain⟨ps,G,Q2,d,rp,h,cl⟩:=h
 unfold AS at h
 split at h
 ·rename_i x c
  obtain⟨v,vr,rfl,d1,v2,vr2,rfl,d2,d3⟩:=d
  obtain rfl:vr2=[]:=d3
  obtain rfl:v= .ref x:=d1
  obtain rfl:v2= .ref c:=d2
  obtain⟨D,b,hG,hx,hk,q⟩:=h
  exact ni pins s σ H _ us Q I rs ⟨x,D,.ref c,.ref c,b,rfl,rp x _ hG,hx,rfl,hk,cl _ _ _ _ q rfl rp .refl⟩
 ·rename_i x T
  obtain⟨v,vr,rfl,d1,v2,vr2,rfl,d2,d3⟩:=d
  obtain rfl:vr2=[]:=d3
  obtain rfl:v= .ref x:=d1
  obtain rfl:v2= .ty T:=d2
  obtain⟨D,b,hG,hx,hk,q⟩:=h
  exact ni pins s σ H _ us Q I rs ⟨x,D,.ty T,.type T,b,rfl,rp x _ hG,hx,rfl,hk,cl _ _ _ _ q rfl rp .refl⟩
 ·rename_i x cs
  obtain⟨v,vr,rfl,d1,v2,vr2,rfl,d2,d3⟩:=d
  obtain rfl:vr2=[]:=d3
  obtain rfl:v= .ref x:=d1
  obtain⟨a,ws,rfl,hs,dw⟩:=d2
  obtain⟨D,az,b,rfl,hG,hx,hk,q⟩:=h
  obtain⟨u,u2,rfl,ru,ru2⟩:=rs.two
  cases ru
  cases ru2
  obtain⟨its,rv,⟨o,ho,hc,n,hd⟩,_⟩:=I.tuple hs
  have hE:=rp x _ hG
  have pX:XAt x D s.heap:=(I.hok x _ hE).1
  have ei:=y6 dw rv
  subst ei
  obtain⟨oc,odd,oda,osl⟩:=o
  dsimp only at hc hd
  subst hc hd
  exact PySem.W.kia_tup (vL hx) I.kIn pX ho hk (λz=>nomatch z) λtk=>⟨.bl b,H,I.tok tk,rfl,cl _ _ _ _ q rfl rp .refl⟩
 ·exact h.elim
theorem Dx(B:BN X.mg)(ha:JA X (e::es) t)(hg:Gl X "isinstance" :=by rfl)(he:aq (e::es) X.env=(false,eval e X.env)::aq es X.env:=by rfl)(hpl:(bB pos (aq es X.env)).any (·.1)=false:=by rfl):JE X (.Call (.Name "isinstance" p) (e::es) [] pos) (v8 (AS X.K) t):=kG ND B.isinstance oU ha hg (by decide) (by decide) he hpl
theorem Kj{x:Str}{c:Addr}(hm:X.mg x=some (.ref c))(hg:Gl X x:=by rfl)(hd:(x==("__debug__" :Str))=false:=by decide):JE X (.Name x pos) (eC (.ref c)):=DA (v:= .ref c) hm rfl (λ_=>rfl) hg hd
theorem GX:bY "ValueError" =some (.type "ValueError"):=by decide+kernel
theorem Mx(hm:X.mg "ValueError" =none)(hg:Gl X "ValueError" :=by rfl):JE X (.Name "ValueError" pos) (eC (.ty "ValueError")):=Gh hm GX hg
end
end L3
namespace L2
open PySem PySem.Spec PyProof.Rows
noncomputable def O4(a:Addr)(o:Obj)(kvs:List (Key×V)):It:=
 ⟨λi H=>H a=some (.frz o (.dK kvs))/\i<kvs.length,λi H x H'=>H'=H/\∃k v,kvs[i]? =some (k,v)/\x=kV k,λi H=>H a=some (.frz o (.dK kvs))/\kvs.length<=i⟩
theorem Dm{P:aI}{w:aY}{k:Key}{u:ae}(h:(mixKind P w).is k u=true):RelV (kV k) u:=by
 rcases dM h with⟨i,t,rfl,rfl⟩|⟨x,t,rfl,rfl⟩
 ·exact⟨t,rfl⟩
 ·exact⟨t,rfl⟩
theorem DO{P:aI}{w:aY}{H:Hp}{h:Heap}{a:Addr}{o:Obj}{kvs:List (Key×V)}{es:Array DictEntry}{ep:Nat}(ok:HOk P w H h)(e:H a=some (.frz o (.dK kvs)))(he:o.data= .dict es ep):∃vs,KV kvs vs/\h.DictAt (mixKind P w) a vs ep:=by
 obtain⟨hg,z,_,vs,kv,dd⟩:=(show ObjOk P w H h a (.frz o (.dK kvs))from ok a _ e)
 refine⟨vs,kv,?_⟩
 obtain⟨o',es',ep',h1,h2,h3,h4⟩:=dd
 rw[hg]at h1;cases h1
 rw[he]at h3;cases h3
 exact⟨o,es,hg,h2,he,h4⟩
theorem zZ{P:aI}{w:aY}{K:PySem.W.Frag}{tg:Expr}(a it:Addr){o:Obj}{kvs:List (Key×V)}{es:Array DictEntry}{ep:Nat}(he:o.data= .dict es ep):rM P w K tg (O4 a o kvs) [it] it (λi h=>h.IsKeyIter it a i kvs.length ep) where
 mem:=by simp
 obj:=λi h st b hb=>by
  have e:b=it:=by simpa using hb
  subst e
  obtain⟨o,e,c,d⟩:=st
  exact⟨o,e,λv z=>by rw[d]at z;cases z⟩
 keep:=λi h h' st k=>by
  obtain⟨o,e,c,d⟩:=st
  exact⟨o,k it (by simp) o e,c,d⟩
 item:=by
  intro X hP hw hK hc i pins s σ H E I hf st hg
  subst hP hw hK
  obtain⟨hq,hx⟩:=hg
  obtain⟨vs,kv,dd⟩:=DO I.hok hq he
  have hl:=kv.length
  obtain⟨f0,f1,f2,f3,f4,f5⟩:=hf it (by simp)
  have hx':i<vs.length:=by ac_nf
  have e1:vs[i]? =some (vs[i].1,vs[i].2):=by rw[al hx']
  have e2:kvs[i]? =some (kvs[i].1,kvs[i].2):=by rw[al hx]
  have e3:kvs[i].1=vs[i].1:=by
   have:=congrArg (λl=>l[i]?) kv.keys
   simp only[aF,e1,e2,Option.map_some]at this
   exact a8 this
  refine wpAny_pyNext_dict_item (by rw[<-hl];exact st) dd e1 λkey h' hk st' sb=> ?_
  have I1:Inv X pins σ H {s with heap:=h'}:=I.turned (t':=s.toks) (λb o hb e=>(sb.2 b hb).trans e) f0 f1 f3 f4 f5
  obtain⟨o,e,c,d⟩:=id st'
  exact⟨key,rfl,vY (s:={s with heap:=h'}) e c d (by decide) ⟨_,H,I1,Dm hk,⟨rfl,_,_,e2,by rw[e3]⟩,by rw[hl];exact st',λb hb=>(hf b hb).1⟩⟩
 done:=by
  intro X hP hw hK hc i pins s σ H E I hf st hg
  subst hP hw hK
  obtain⟨hq,hx⟩:=hg
  obtain⟨vs,kv,dd⟩:=DO I.hok hq he
  have hl:=kv.length
  obtain⟨f0,f1,f2,f3,f4,f5⟩:=hf it (by simp)
  exact wpAny_pyNext_dict_end (I.ok.hd hc) (by rw[<-hl];exact st) dd (eA (by ac_nf)) λh' eb=>⟨rfl,I.turned (t':=s.toks) (λb o hb e=>eb b o hb e) f0 f1 f3 f4 f5⟩
 self:=λA i s Q E st h=>by
  exact wpAny_pyIter_slot st.typeIs wz (eB wz st.typeIs F.entry_dict_keyiterator_iter (aA ⟨_,rfl, "dict_keyiterator",_,st.typeIs,F.slot_dict_keyiterator_next.lookup,h⟩) (F.args_dict_keyiterator_iter_1 _))
noncomputable def OO(tl:TE):TI:=λσ H R=>tl σ H λx H1=>∃a kvs,x= .ref a/\Rd H1 a (.dK kvs)/\∀o H2,H2 a=some (.frz o (.dK kvs))->(H2=H1\/H1 a=some (.dK kvs)/\H2=upd H1 a (.frz o (.dK kvs)))->R (O4 a o kvs) H2
theorem Fi{X:Cx}{tg l:Expr}{tl:TE}(hl:PE X l tl):PI X tg l (OO tl):=by
 intro pins s σ H R I h
 refine dZ (hl pins s σ H _ I h) λv s1 hPl=> ?_
 obtain⟨x,H1,I1,r1,q1⟩:=hPl
 obtain⟨a,kvs,e,hq,q⟩:=q1
 subst e
 cases r1
 obtain⟨z,hd,vs,kv,dd⟩:=oQ I1.hok hq
 have hlen:=kv.length
 obtain⟨o,es,ep,h1,h2,h3,h4⟩:=id dd
 have hdt:s1.heap.DictAt (mixKind X.prog X.w) a vs ep:=⟨o,es,h1,h2,h3,h4⟩
 have key:∃H2,Inv X pins σ H2 s1/\H2 a=some (.frz o (.dK kvs))/\(H2=H1\/H1 a=some (.dK kvs)/\H2=upd H1 a (.frz o (.dK kvs))):=by
  rcases hq with hq|⟨o',hq⟩
  ·refine⟨_,mT (h':=s1.heap) (t':=s1.toks) I1 (by rw[hq];exact cz) ⟨rfl,λ_ _=>rfl⟩ ⟨o,h1⟩ (ob:= .frz o (.dK kvs)) ⟨h1,uo z hd kv dd⟩,cr,.inr ⟨hq,rfl⟩⟩
  ·have:o'=o:=by
    obtain⟨hg,_⟩:=(show ObjOk X.prog X.w H1 s1.heap a (.frz o' (.dK kvs))from I1.hok a _ hq)
    rw[h1]at hg;exact(a8 hg).symm
   subst this
   exact⟨H1,I1,hq,.inl rfl⟩
 obtain⟨H2,I2,e2,w2⟩:=key
 refine wpAny_pyIter_dict hd hdt ?_
 refine⟨s1.heap.objs.size,[s1.heap.objs.size],_,_,H2,rfl,I2.kept (t':=s1.toks) λb o e=>ak _ e,zZ a _ h3,⟨_,aJ _ rfl,rfl,by simp[hlen]⟩,λb hb=> ?_,q o H2 e2 w2⟩
 have e:b=s1.heap.objs.size:=by simpa using hb
 subst e
 exact I2.fpOk (av _) (I2.hok.fresh (av _))
end L2
namespace L3
open PySem L2
theorem xT{K:PySem.W.Frag}{H:Hp}:∀{ps:List (Key×PV)} {vs:List (Key×V)},DKv K H ps vs->ps.map (·.1)=vs.map (·.1)
 |[],vs,h=>by obtain rfl:vs=[]:=h;rfl
 |(x,p)::ps,vs,h=>by
  obtain⟨v,r,rfl,d,z⟩:=h
  rw[aE,aE,xT z]
noncomputable def vT(t:E2):rC:=λτ G R=>t τ G λp G1=>match p with
 | .ref a=>match G1 a with
  |some (.dK kvs)=>R (kvs.map λkv=>kP kv.1) (λG=>G a=some (.rd kvs)) (up G1 a (.rd kvs))
  |some (.rd kvs)=>R (kvs.map λkv=>kP kv.1) (λG=>G a=some (.rd kvs)) G1
  |_=>False
 |_=>False
theorem vM{K:PySem.W.Frag}{H:Hp}{a:Addr}{o:Obj}{kvs:List (Key×V)}(h:H a=some (.dK kvs)):Keep K H (L2.upd H a (.frz o (.dK kvs))):=kF h
theorem xL{K:PySem.W.Frag}{H1:Hp}{a:Addr}{o:Obj}{vs:List (Key×V)}{kvs:List (Key×PV)}(e:H1 a=some (.frz o (.dK vs)))(d:DKv K H1 kvs vs):wx K H1 (O4 a o vs) (kvs.map λkv=>kP kv.1) (λG=>G a=some (.rd kvs)):=by
 intro i H G kp rp hc
 have e':=kp.2 _ _ _ e
 have hl:=d.length
 refine⟨λh=>⟨e',by simp at h;ac_nf⟩,λh=>⟨e',by simp at h;ac_nf⟩,λx H' hi hy=> ?_⟩
 obtain⟨rfl,k,v,ek,rfl⟩:=hy
 have hk:(kvs.map (·.1))[i]? =some k:=by rw[xT d,aF,ek];rfl
 refine⟨kP k,?_,.refl,rp,Mn k⟩
 have:(kvs.map λkv=>kP kv.1)=(kvs.map (·.1)).map kP:=by rw[bT];rfl
 rw[this,aF,hk];rfl
theorem tZ{X:Cx}{tg l:Expr}{t:E2}(hl:JE X l t):JI X tg l (vT t):= .of (Fi hl.h) λσ H R hPl=>by
 obtain⟨τ,G,R2,rs,rp,q,cl⟩:=hPl
 refine⟨τ,G,_,rs,rp,q,λp G1 v H1 q1 d1 r1 k1=> ?_⟩
 cases p with
 |ref a=>
  obtain rfl:v= .ref a:=d1
  cases eg:G1 a with
  |none=>simp only[eg]at q1
  |some o=>
   cases o with
   |dK kvs=>
    simp only[eg]at q1
    obtain⟨vs,hH,dv⟩:=r1.dK eg
    refine⟨a,vs,rfl,.inl hH,λob H2 e2 w2=> ?_⟩
    rcases w2 with rfl|⟨_,rfl⟩
    ·rw[hH]at e2;cases e2
    ·have kk:Keep X.K H1 (L2.upd H1 a (.frz ob (.dK vs))):=vM hH
     have r2:Rep X.K (L2.upd H1 a (.frz ob (.dK vs))) (up G1 a (.rd kvs)):=by
      refine r1.upd kk (λb o e ne=>by rw[aL ne]at e;exact e) λo e=> ?_
      rw[ao]at e;cases e
      exact⟨vs,.inr ⟨ob,cr⟩,dv.keep kk⟩
     exact cl _ _ _ _ _ q1 r2 (k1.trans kk) (xL cr (dv.keep kk))
   |rd kvs=>
    simp only[eg]at q1
    obtain⟨vs,hH,dv⟩:=r1 a _ eg
    refine⟨a,vs,rfl,hH,λob H2 e2 w2=> ?_⟩
    rcases w2 with rfl|⟨hD,rfl⟩
    ·exact cl _ _ _ _ _ q1 r1 k1 (xL e2 dv)
    ·have kk:Keep X.K H1 (L2.upd H1 a (.frz ob (.dK vs))):=vM hD
     have r2:Rep X.K (L2.upd H1 a (.frz ob (.dK vs))) G1:=by
      refine r1.upd kk (λb o e ne=>e) λo e=> ?_
      rw[eg]at e;cases e
      exact⟨vs,.inr ⟨ob,cr⟩,dv.keep kk⟩
     exact cl _ _ _ _ _ q1 r2 (k1.trans kk) (xL cr (dv.keep kk))
   |_=>simp only[eg]at q1
 |_=>exact q1.elim
@[reducible] noncomputable def jZ (G:Gp) (a:Addr):Option (List (Key×PV)):=match G a with
 |some (.dK kvs)=>some kvs
 |some (.rd kvs)=>some kvs
 |_=>none
theorem jm{G:Gp}{a:Addr}{kvs:List (Key×PV)}(h:G a=some (.dK kvs)):jZ G a=some kvs:=by unfold jZ;rw[h]
theorem mV{G:Gp}{a:Addr}{kvs:List (Key×PV)}(h:G a=some (.rd kvs)):jZ G a=some kvs:=by unfold jZ;rw[h]
theorem Rep.dR{K:PySem.W.Frag}{H:Hp}{G:Gp}{a:Addr}{kvs:List (Key×PV)}(r:Rep K H G)(e:jZ G a=some kvs):∃vs,Rd H a (.dK vs)/\DKv K H kvs vs:=by
 cases eg:G a with
 |none=>simp[jZ,eg]at e
 |some o=>
  cases o with
  |dK k'=>
   simp[jZ,eg]at e;subst e
   obtain⟨vs,h,d⟩:=r a _ eg
   exact⟨vs,.inl h,d⟩
  |rd k'=>simp[jZ,eg]at e;subst e;exact r a _ eg
  |_=>simp[jZ,eg]at e
noncomputable def Gq:B2:=λp q G Q=>match p with
 | .ref a=>match jZ G a,tY q with
  |some kvs,some k=>match gU kvs k with
   |some v=>Q v G
   |none=>False
  |_,_=>False
 |_=>False
theorem lm{a:Addr}{G:Gp}{q v:PV}{kvs:List (Key×PV)}{k:Key}{Q:K2}(h:jZ G a=some kvs)(hk:tY q=some k)(hv:gU kvs k=some v)(hq:Q v G):Gq (.ref a) q G Q:=by
 unfold Gq
 simp only[h,hk,hv]
 exact hq
noncomputable def GB(x y z:PV)(G:Gp)(Q:K2):Prop:=match x with
 | .ref a=>match jZ G a,tY y with
  |some kvs,some k=>Q ((gU kvs k).getD z) G
  |_,_=>False
 |_=>False
theorem ug{a:Addr}{G:Gp}{q z:PV}{kvs:List (Key×PV)}{k:Key}{Q:K2}(h:jZ G a=some kvs)(hk:tY q=some k)(hq:Q ((gU kvs k).getD z) G):GB (.ref a) q z G Q:=by
 unfold GB
 simp only[h,hk]
 exact hq
noncomputable def Ku(x:PV)(G:Gp):Prop:=∃a kvs,x= .ref a/\jZ G a=some kvs
theorem qQ{a:Addr}{G:Gp}{kvs:List (Key×PV)}(h:jZ G a=some kvs):Ku (.ref a) G:=⟨a,kvs,rfl,h⟩
noncomputable abbrev Nt(td te tf:E2):E2:=λτ G Q=>td τ G λx G1=>Ku x G1/\te τ G1 λy G2=>tf τ G2 λz G3=>GB x y z G3 Q
noncomputable def zG(p:Addr)(x y:PV)(G:Gp)(Q:K2):Prop:=match tY x with
 |some k=>G p=some (.dK [])/\Q (.ref p) (up G p (.dK [(k,y)]))
 |none=>False
noncomputable abbrev Nv(tk tv:E2):E2:=λτ G Q=>∀p,G p=none->tk τ (up G p (.dK [])) λx G1=>tv τ G1 λy G2=>zG p x y G2 Q
section
variable{X:Cx}{d e f:Expr}{td te tf:E2}{pos apos cpos p:Pos}
theorem xJ(hu:X.A.units+200<gZ)(hd:JE X d td)(he:JE X e te)(hs:K9 e:=by exact λ_ _=>rfl):JE X (.Subscript d e pos) (jU Gq td te):=
 .of (Fo (by ac_nf) hd.h he.h hs) λσ H Q hPl=>by
  obtain⟨τ,G,Q2,rs,rp,q,cl⟩:=hPl
  refine⟨τ,G,_,rs,rp,q,λp1 G1 v1 H1 q1 d1 r1 k1=>⟨τ,G1,_,rs.keep k1,r1,q1,λp2 G2 v2 H2 q2 d2 r2 k2=> ?_⟩⟩
  unfold Gq at q2
  split at q2
  ·rename_i a
   split at q2
   ·rename_i kvs k eg ek
    split at q2
    ·rename_i v ev
     obtain rfl:v1= .ref a:=d1
     obtain rfl:=tX ek d2
     obtain⟨vs,hv,dv⟩:=r2.dR eg
     obtain⟨u,hu,du⟩:=(dv.val k).1 v ev
     exact⟨a,u,rfl,.inl ⟨vs,k,hv,rfl,hu.symm⟩,cl _ _ _ _ q2 du r2 (k1.trans k2)⟩
    ·exact q2.elim
   ·exact q2.elim
  ·exact q2.elim
theorem Kl(hu:X.A.units+200<gZ)(hd:JE X d td)(he:JE X e te)(hf:JE X f tf)(m:L2.M2 X d "get" apos e f cpos:=by exact⟨rfl,rfl,rfl,rfl⟩):JE X (.Call (.Attribute d "get" apos) [e,f] [] cpos) (Nt td te tf):=
 .of (Cr (by ac_nf) hd.h he.h hf.h m) λσ H Q hPl=>by
  obtain⟨τ,G,Q2,rs,rp,q,cl⟩:=hPl
  refine⟨τ,G,_,rs,rp,q,λp1 G1 v1 H1 q1 d1 r1 k1=> ?_⟩
  obtain⟨⟨a,kvs,rfl,ea⟩,q1⟩:=q1
  obtain rfl:v1= .ref a:=d1
  obtain⟨vs,hv,dv⟩:=r1.dR ea
  refine⟨a,rfl,.inl ⟨vs,hv⟩,τ,G1,_,rs.keep k1,r1,q1,λp2 G2 v2 H2 q2 d2 r2 k2=>⟨τ,G2,_,rs.keep (k1.trans k2),r2,q2,λp3 G3 v3 H3 q3 d3 r3 k3=> ?_⟩⟩
  unfold GB at q3
  dsimp only at q3
  split at q3
  ·rename_i kvs' k eg ek
   obtain rfl:=tX ek (d2.keep k3)
   obtain⟨vs',hv',dv'⟩:=r3.dR eg
   refine⟨_,.inl ⟨vs',k,hv',rfl,rfl⟩,cl _ _ _ _ q3 ?_ r3 ((k1.trans k2).trans k3)⟩
   cases ev:gU kvs' k with
   |none=>rw[(dv'.val k).2 ev];exact d3
   |some w'=>obtain⟨w2,hw,dw⟩:=(dv'.val k).1 w' ev;rw[hw];exact dw
  ·exact q3.elim
theorem Gk(he:JE X e te)(hf:JE X f tf):JE X (.Dict [some e] [f] p) (Nv te tf):=
 .of (Fn (Cf he.h hf.h Fa) rfl rfl (by simp) (by simp)) λσ H Q ⟨τ,G,Q2,rs,rp,q,cl⟩ a ha=>by
  have kn:Keep X.K H (L2.upd H a (.dK [])):=bE ha
  refine⟨τ,_,_,rs.keep kn,rp.newD ha (show DKv X.K H [] []from rfl),q a (rp.none ha),λp1 G1 v1 H1 q1 d1 r1 k1=>⟨τ,G1,_,rs.keep (kn.trans k1),r1,q1,λp2 G2 v2 H2 q2 d2 r2 k2=> ?_⟩⟩
  unfold zG at q2
  split at q2
  ·rename_i k ek
   obtain⟨eg,q2⟩:=q2
   obtain rfl:=tX ek (d1.keep k2)
   obtain⟨vs,hv,dv⟩:=r2.dK eg
   obtain rfl:vs=[]:=dv
   refine⟨hv,[(k,v2)],rfl,by simp,cl _ _ _ _ q2 rfl (r2.putD hv ?_) (((kn.trans k1).trans k2).trans (kF hv))⟩
   exact⟨v2,[],rfl,d2,rfl⟩
  ·exact q2.elim
end
theorem uq{a:Addr}{x y:PV}{k:Key}{G:Gp}{Q:K2}(hk:tY x=some k)(h:G a=some (.dK []))(hq:Q (.ref a) (up G a (.dK [(k,y)]))):zG a x y G Q:=by
 unfold zG;simp only[hk];exact⟨h,hq⟩
theorem xU{a:Addr}{i:Nat}{τ:jo}{G:Gp}{R:List PV->(Gp->Prop)->Gp->Prop}{kvs:List (Key×PV)}(e:gt τ i=some (.ref a))(h:G a=some (.rd kvs))(q:R (kvs.map λkv=>kP kv.1) (λG=>G a=some (.rd kvs)) G):vT (eV i) τ G R:=by
 unfold vT eV;simp only[e,h];exact q
theorem KG{a:Addr}{i:Nat}{τ:jo}{G:Gp}{R:List PV->(Gp->Prop)->Gp->Prop}{kvs:List (Key×PV)}(e:gt τ i=some (.ref a))(h:G a=some (.dK kvs))(q:R (kvs.map λkv=>kP kv.1) (λG=>G a=some (.rd kvs)) (up G a (.rd kvs))):vT (eV i) τ G R:=by
 unfold vT eV;simp only[e,h];exact q
theorem C9{i j:Int}{G:Gp}{Q:K2}(c:CMul i j)(q:Q (.int (i*j)) G):Ax (.int i) (.int j) G Q:=⟨c,q⟩
noncomputable def GW(G0 G:Gp):Prop:=∀a o,G0 a=some o->G a=some o\/∃kvs,o= .rd kvs/\G a=some (.dK kvs)
theorem GE.gw{G0 G:Gp}(h:GE G0 G):GW G0 G:=λa o e=> .inl (h a o e)
theorem Rep.weak{K:PySem.W.Frag}{H:Hp}{G0 G:Gp}(r:Rep K H G)(h:GW G0 G):Rep K H G0:=λa o e=>by
 rcases h a o e with h|⟨kvs,rfl,h⟩
 ·exact r a o h
 ·obtain⟨vs,hv,d⟩:=r a _ h
  exact⟨vs,.inl hv,d⟩
theorem GW.rd{G0 G:Gp}{a:Addr}{kvs:List (Key×PV)}(h:GE G0 G)(e:G a=some (.dK kvs)):GW (up G0 a (.rd kvs)) G:=λb o q=>by
 by_cases hb:b=a
 ·subst hb;rw[ao]at q;cases q;exact .inr ⟨kvs,rfl,e⟩
 ·rw[aL hb]at q;exact .inl (h b o q)
section
variable{P:aI}{w:aY}{K:PySem.W.Frag}{mg:Str->Option ae}{base:Heap}
theorem GD{x qual:Str}{st:Stmt}{f:Addr}{fd:aW}{N ps:List Str}{k:Nat}{sp:im}(F:Fun K x qual st f fd)(S:bj N ps (aM st))(len:∀vs G Q,sp vs G Q->vs.length=ps.length)
  (hbody:∀(cdv:ae) (A:Around) (outer:List Env) (s:ai) (H:Hp) (E:XK) (as:List PV) (G:Gp) (Q:K2),Room k (A.deeper (j3 qual (aM st) s.heap.objs.size f cdv))->sp as G Q->
   ∃t,JB (gO Hf P w K mg base N qual (aM st) f cdv A outer s H E).nox (ib st) t/\t {nx:=λ_ G'=>∃G0,GW G0 G'/\Q .non G0,rt:=λp G'=>∃G0,GW G0 G'/\Q p G0} (gW N as) G):iz P w K mg base (k+1) f fd ps sp:=by
 refine F.ok S (λvs H Q E h=> ?_) (λcdv A outer s H vs Q E hr h=> ?_)
 ·obtain⟨as,G,Q2,d,_,h,_⟩:=h
  rw[d.length];exact len _ _ _ h
 obtain⟨as,G,Q2,d,rp,h,cl⟩:=h
 obtain⟨t,j,q⟩:=hbody cdv A outer s H E as G Q2 hr h
 refine⟨_,j.h,gW N as,G,_,nQ d (by rw[len _ _ _ h,<-S.pre,bb];ac_nf),rp,q,⟨λτ G' σ H' ⟨G0,e0,q1⟩ _ r1 k1=>cl _ _ _ _ q1 rfl (r1.weak e0) k1,λp G' v H' ⟨G0,e0,q1⟩ d1 r1 k1=>cl _ _ _ _ q1 d1 (r1.weak e0) k1,λ_ _ _ _ q1=>q1.elim,λ_ _ _ _ q1=>q1.elim⟩⟩
end
noncomputable def xX(f:Nat->List (Tr×Nat)):Nat->Nat->List (List Tr×Nat)
 |0,e=>[([],e)]
 |n+1,e=>((f e).flatMap λt=>(xX f n t.2).map λu=>(t.1::u.1,u.2))++[([],e)]
theorem mL{α β:Type}{l:List α}{f g:α->List β}(h:∀x∈l,f x=g x):l.flatMap f=l.flatMap g:=by
 induction l with
 |nil=>rfl
 |cons x l ih=>rw[bI,bI,h x (by simp),ih λy hy=>h y (by simp[hy])]
mutual
noncomputable def bo(T:List Nat):Pt->Nat->List (Tr×Nat)
 | .none,_=>[]
 | .blank,e=>[(.blank,e)]
 | .sign s,e=>match T[e]? with
  |some c=>if c∈s.cps.toList then[(.sign ⟨#[c]⟩,e+1)]else[]
  |none=>[]
 | .row ps,e=>(ka T ps [([],e)]).map λs=>(.row s.1,s.2)
 | .pick ps,e=>eX T ps 0 e
 | .again p,e=>(xX (bo T p) (T.length+1-e) e).map λs=>(.again s.1,s.2)
 | .held n p,e=>(bo T p e).map λt=>(.held n t.1,t.2)
 | .price n p,e=>(bo T p e).map λt=>(.price n t.1,t.2)
noncomputable def ka(T:List Nat):List Pt->List (List Tr×Nat)->List (List Tr×Nat)
 |[],sm=>sm
 |p::ps,sm=>ka T ps (sm.flatMap λs=>(bo T p s.2).map λt=>(s.1++[t.1],t.2))
noncomputable def eX(T:List Nat):List Pt->Nat->Nat->List (Tr×Nat)
 |[],_,_=>[]
 |p::ps,k,e=>((bo T p e).map λt=>(.pick (k:Int) t.1,t.2))++eX T ps (k+1) e
end
theorem Es{f:Nat->List (Tr×Nat)}(h:∀e x,x∈f e->e<=x.2):∀(n e:Nat) x,x∈xX f n e->e<=x.2
 |0,e,x,hx=>by cases au.mp hx;exact av _
 |n+1,e,x,hx=>by
  rcases aR.mp hx with hx|hx
  ·obtain⟨t,ht,hx⟩:=bp.mp hx
   obtain⟨u,hu,rfl⟩:=ay.mp hx
   exact aO (h e t ht) (Es h n t.2 u hu)
  ·cases au.mp hx;exact av _
theorem Er{L:Nat}{f:Nat->List (Tr×Nat)}(h:∀e,e<=L->∀x,x∈f e->x.2<=L):∀(n e:Nat),e<=L->∀x,x∈xX f n e->x.2<=L
 |0,e,he,x,hx=>by cases au.mp hx;exact he
 |n+1,e,he,x,hx=>by
  rcases aR.mp hx with hx|hx
  ·obtain⟨t,ht,hx⟩:=bp.mp hx
   obtain⟨u,hu,rfl⟩:=ay.mp hx
   exact Er h n t.2 (h e he t ht) u hu
  ·cases au.mp hx;exact he
mutual
theorem lA(T:List Nat):∀(p:Pt) (e:Nat) x,x∈bo T p e->e<=x.2
 | .none,e,x,h=>by simp[bo]at h
 | .blank,e,x,h=>by simp[bo]at h;rw[h];exact av _
 | .sign s,e,x,h=>by
  unfold bo at h
  split at h
  ·split at h
   ·cases au.mp h;exact fS _
   ·cases h
  ·cases h
 | .row ps,e,x,h=>by
  unfold bo at h
  obtain⟨s,hs,rfl⟩:=ay.mp h
  exact tm T ps [([],e)] e (λs hs=>by cases au.mp hs;exact av _) s hs
 | .pick ps,e,x,h=>by unfold bo at h;exact yx T ps 0 e x h
 | .again p,e,x,h=>by
  unfold bo at h
  obtain⟨s,hs,rfl⟩:=ay.mp h
  exact Es (λe x hx=>lA T p e x hx) _ _ s hs
 | .held n p,e,x,h=>by
  unfold bo at h
  obtain⟨s,hs,rfl⟩:=ay.mp h
  exact lA T p e s hs
 | .price n p,e,x,h=>by
  unfold bo at h
  obtain⟨s,hs,rfl⟩:=ay.mp h
  exact lA T p e s hs
theorem tm(T:List Nat):∀(ps:List Pt) (sm:List (List Tr×Nat)) (e:Nat),(∀s∈sm,e<=s.2)->∀x,x∈ka T ps sm->e<=x.2
 |[],sm,e,hs,x,h=>by unfold ka at h;exact hs x h
 |p::ps,sm,e,hs,x,h=>by
  unfold ka at h
  refine tm T ps _ e (λs h2=> ?_) x h
  obtain⟨u,hu,h2⟩:=bp.mp h2
  obtain⟨t,ht,rfl⟩:=ay.mp h2
  exact aO (hs u hu) (lA T p u.2 t ht)
theorem yx(T:List Nat):∀(ps:List Pt) (k e:Nat) x,x∈eX T ps k e->e<=x.2
 |[],k,e,x,h=>by simp[eX]at h
 |p::ps,k,e,x,h=>by
  unfold eX at h
  rcases aR.mp h with h|h
  ·obtain⟨t,ht,rfl⟩:=ay.mp h
   exact lA T p e t ht
  ·exact yx T ps (k+1) e x h
end
mutual
theorem fE(T:List Nat):∀(p:Pt) (e:Nat),e<=T.length->∀x,x∈bo T p e->x.2<=T.length
 | .none,e,he,x,h=>by simp[bo]at h
 | .blank,e,he,x,h=>by simp[bo]at h;rw[h];exact he
 | .sign s,e,he,x,h=>by
  unfold bo at h
  split at h
  ·rename_i c ec
   split at h
   ·cases au.mp h;exact(am.mp ec).1
   ·cases h
  ·cases h
 | .row ps,e,he,x,h=>by
  unfold bo at h
  obtain⟨s,hs,rfl⟩:=ay.mp h
  exact yo T ps [([],e)] (λs hs=>by cases au.mp hs;exact he) s hs
 | .pick ps,e,he,x,h=>by unfold bo at h;exact yt T ps 0 e he x h
 | .again p,e,he,x,h=>by
  unfold bo at h
  obtain⟨s,hs,rfl⟩:=ay.mp h
  exact Er (λe he x hx=>fE T p e he x hx) _ _ he s hs
 | .held n p,e,he,x,h=>by
  unfold bo at h
  obtain⟨s,hs,rfl⟩:=ay.mp h
  exact fE T p e he s hs
 | .price n p,e,he,x,h=>by
  unfold bo at h
  obtain⟨s,hs,rfl⟩:=ay.mp h
  exact fE T p e he s hs
theorem yo(T:List Nat):∀(ps:List Pt) (sm:List (List Tr×Nat)),(∀s∈sm,s.2<=T.length)->∀x,x∈ka T ps sm->x.2<=T.length
 |[],sm,hs,x,h=>by unfold ka at h;exact hs x h
 |p::ps,sm,hs,x,h=>by
  unfold ka at h
  refine yo T ps _ (λs h2=> ?_) x h
  obtain⟨u,hu,h2⟩:=bp.mp h2
  obtain⟨t,ht,rfl⟩:=ay.mp h2
  exact fE T p u.2 (hs u hu) t ht
theorem yt(T:List Nat):∀(ps:List Pt) (k e:Nat),e<=T.length->∀x,x∈eX T ps k e->x.2<=T.length
 |[],k,e,he,x,h=>by simp[eX]at h
 |p::ps,k,e,he,x,h=>by
  unfold eX at h
  rcases aR.mp h with h|h
  ·obtain⟨t,ht,rfl⟩:=ay.mp h
   exact fE T p e he t ht
  ·exact yt T ps (k+1) e he x h
end
mutual
theorem j9(T:List Nat):∀(p:Pt) (e:Nat),gY p=false->∀x,x∈bo T p e->e<x.2
 | .none,e,hc,x,h=>by simp[bo]at h
 | .blank,e,hc,x,h=>by simp[gY]at hc
 | .sign s,e,hc,x,h=>by
  unfold bo at h
  split at h
  ·split at h
   ·cases au.mp h;exact gf _
   ·cases h
  ·cases h
 | .row ps,e,hc,x,h=>by
  unfold bo at h
  obtain⟨s,hs,rfl⟩:=ay.mp h
  exact yp T ps [([],e)] e (by simpa [gY]using hc) (λs hs=>by cases au.mp hs;exact av _) s hs
 | .pick ps,e,hc,x,h=>by unfold bo at h;exact yw T ps 0 e (by simpa [gY]using hc) x h
 | .again p,e,hc,x,h=>by simp[gY]at hc
 | .held n p,e,hc,x,h=>by
  unfold bo at h
  obtain⟨s,hs,rfl⟩:=ay.mp h
  exact j9 T p e (by simpa [gY]using hc) s hs
 | .price n p,e,hc,x,h=>by
  unfold bo at h
  obtain⟨s,hs,rfl⟩:=ay.mp h
  exact j9 T p e (by simpa [gY]using hc) s hs
theorem yp(T:List Nat):∀(ps:List Pt) (sm:List (List Tr×Nat)) (e:Nat),El ps=false->(∀s∈sm,e<=s.2)->∀x,x∈ka T ps sm->e<x.2
 |[],sm,e,hc,hs,x,h=>by simp[El]at hc
 |p::ps,sm,e,hc,hs,x,h=>by
  unfold ka at h
  cases hp:gY p with
  |true=>
   refine yp T ps _ e (by simpa [El,hp]using hc) (λs h2=> ?_) x h
   obtain⟨u,hu,h2⟩:=bp.mp h2
   obtain⟨t,ht,rfl⟩:=ay.mp h2
   exact aO (hs u hu) (lA T p u.2 t ht)
  |false=>
   refine tm T ps _ (e+1) (λs h2=> ?_) x h
   obtain⟨u,hu,h2⟩:=bp.mp h2
   obtain⟨t,ht,rfl⟩:=ay.mp h2
   exact gP (hs u hu) (j9 T p u.2 hp t ht)
theorem yw(T:List Nat):∀(ps:List Pt) (k e:Nat),Ek ps=false->∀x,x∈eX T ps k e->e<x.2
 |[],k,e,hc,x,h=>by simp[eX]at h
 |p::ps,k,e,hc,x,h=>by
  unfold eX at h
  have hc':gY p=false/\Ek ps=false:=by simpa [Ek]using hc
  rcases aR.mp h with h|h
  ·obtain⟨t,ht,rfl⟩:=ay.mp h
   exact j9 T p e hc'.1 t ht
  ·exact yw T ps (k+1) e hc'.2 x h
end
theorem Eo{L:Nat}{f:Nat->List (Tr×Nat)}(h:∀e,e<=L->∀x,x∈f e->e<x.2/\x.2<=L):∀(n m e:Nat),e<=L->L+1-e<=n->L+1-e<=m->xX f n e=xX f m e
 |0,m,e,he,hn,_=>by ac_nf
 |n+1,0,e,he,_,hm=>by ac_nf
 |n+1,m+1,e,he,hn,hm=>by
  unfold xX
  congr 1
  refine mL λt ht=> ?_
  obtain⟨h1,h2⟩:=h e he t ht
  rw[Eo h n m t.2 h2 (by ac_nf) (by ac_nf)]
theorem rW{T:List Nat}{p:Pt}{e:Nat}(hc:gY p=false)(he:e<=T.length):bo T (.again p) e=((bo T p e).flatMap λt=>(bo T (.again p) t.2).map λu=>(Tr.again (t.1::(match u.1 with| .again ts=>ts|_=>[])),u.2))++[(.again [],e)]:=by
 have hf:∀e,e<=T.length->∀x,x∈bo T p e->e<x.2/\x.2<=T.length:=λe he x hx=>⟨j9 T p e hc x hx,fE T p e he x hx⟩
 conv=>lhs;unfold bo
 have e1:T.length+1-e=(T.length-e)+1:=by ac_nf
 rw[e1]
 unfold xX
 rw[aS,List.map_flatMap]
 congr 1
 refine mL λt ht=> ?_
 obtain⟨h1,h2⟩:=hf e he t ht
 conv=>rhs;unfold bo
 rw[Eo hf (T.length-e) (T.length+1-t.2) t.2 h2 (by ac_nf) (by ac_nf),bT,bT]
 rfl
noncomputable def jV{α:Type}(l:List (α×Nat))(j:Nat):Nat:=l.countP λs=>s.2==j
noncomputable def nT(T:List Nat)(p:Pt)(e j:Nat):Nat:=jV (bo T p e) j
noncomputable def iy:Nat->(Nat->Nat)->Nat
 |0,_=>0
 |n+1,f=>iy n f+f n
theorem fF{n:Nat}{f g:Nat->Nat}(h:∀k,k<n->f k=g k):iy n f=iy n g:=by
 induction n with
 |zero=>rfl
 |succ n ih=>simp only[iy];rw[ih λk hk=>h k (by ac_nf),h n (by ac_nf)]
theorem uP{n:Nat}{f g:Nat->Nat}:iy n (λk=>f k+g k)=iy n f+iy n g:=by
 induction n with
 |zero=>rfl
 |succ n ih=>simp only[iy];ac_nf
theorem nO{n:Nat}:iy n (λ_=>0)=0:=by
 induction n with
 |zero=>rfl
 |succ n ih=>simp only[iy];ac_nf
theorem qe{n i:Nat}{g:Nat->Nat}(h:i<n):iy n (λk=>if i=k then g k else 0)=g i:=by
 induction n with
 |zero=>ac_nf
 |succ n ih=>
  simp only[iy]
  by_cases e:i=n
  ·subst e
   rw[if_pos rfl,fF (g:=λ_=>0) λk hk=>if_neg (by ac_nf),nO]
   ac_nf
  ·rw[if_neg e,ih (by ac_nf)];ac_nf
theorem kN{α β:Type}(l:List (α×Nat))(f:α->β)(j:Nat):jV (l.map λs=>(f s.1,s.2)) j=jV l j:=by
 unfold jV;rw[List.countP_map];rfl
theorem lP{α:Type}(l m:List (α×Nat))(j:Nat):jV (l++m) j=jV l j+jV m j:=by unfold jV;rw[List.countP_append]
theorem mZ{α:Type}(x:α)(e j:Nat):jV [(x,e)] j=if e=j then 1 else 0:=by
 unfold jV
 by_cases h:e=j
 ·rw[if_pos h,List.countP_cons_of_pos (by simpa using h)];rfl
 ·rw[if_neg h,List.countP_cons_of_neg (by simpa using h)];rfl
theorem NW{α:Type}{n:Nat}{g:Nat->Nat}:∀(l:List (α×Nat)),(∀s∈l,s.2<n)->(l.map λs=>g s.2).sum=iy n λk=>jV l k*g k
 |[],_=>by
  show 0=_
  rw[fF (g:=λ_=>0) λk _=>by simp[jV],nO]
 |s::l,h=>by
  have e:∀k,jV (s::l) k*g k=jV l k*g k+if s.2=k then g k else 0:=λk=>by
   have:jV (s::l) k=jV [s] k+jV l k:=lP [s] l k
   rw[this,mZ s.1 s.2 k,Nat.add_mul]
   split<;>simp[fC]
  rw[aE,cA,NW l λs hs=>h s (by simp[hs]),fF λk _=>e k,uP,qe (h s (by simp))]
  ac_nf
theorem oS{α β:Type}(l:List (α×Nat))(F:α×Nat->List (β×Nat))(j:Nat):jV (l.flatMap F) j=(l.map λs=>jV (F s) j).sum:=by
 unfold jV;rw[List.countP_flatMap];rfl
noncomputable def rZ(T:List Nat)(p:Pt)(w:Nat->Nat):Nat->Nat:=λj=>iy (T.length+1) λk=>w k*nT T p k j
noncomputable def qt(T:List Nat):List Pt->(Nat->Nat)->Nat->Nat
 |[],w=>w
 |p::ps,w=>qt T ps (rZ T p w)
theorem uK(T:List Nat):∀(ps:List Pt) (sm:List (List Tr×Nat)),(∀s∈sm,s.2<=T.length)->∀j,jV (ka T ps sm) j=qt T ps (jV sm) j
 |[],sm,_,j=>by unfold ka qt;rfl
 |p::ps,sm,h,j=>by
  unfold ka qt
  rw[uK T ps _ (λs h2=>by
   obtain⟨u,hu,h2⟩:=bp.mp h2
   obtain⟨t,ht,rfl⟩:=ay.mp h2
   exact fE T p u.2 (h u hu) t ht) j]
  congr 1
  funext i
  rw[oS]
  have:(sm.map λs=>jV ((bo T p s.2).map λt=>(s.1++[t.1],t.2)) i)=sm.map λs=>nT T p s.2 i:=gu λs _=>kN (bo T p s.2) (λt=>s.1++[t]) i
  rw[this]
  exact NW (g:=λk=>nT T p k i) sm λs hs=>rn (h s hs)
theorem Ju{T:List Nat}{ps:List Pt}{e j:Nat}(he:e<=T.length):nT T (.row ps) e j=qt T ps (λk=>if e=k then 1 else 0) j:=by
 show jV (bo T (.row ps) e) j=_
 unfold bo
 rw[kN (ka T ps [([],e)]) Tr.row,uK T ps _ (λs hs=>by cases au.mp hs;exact he)]
 congr 1
 funext k
 exact mZ _ e k
theorem uL(T:List Nat):∀(ps:List Pt) (k e j:Nat),jV (eX T ps k e) j=(ps.map λp=>nT T p e j).sum
 |[],k,e,j=>by unfold eX;rfl
 |p::ps,k,e,j=>by
  unfold eX
  rw[lP,kN (bo T p e) (Tr.pick (k:Int)),uL T ps (k+1) e j,aE,cA]
  rfl
theorem zj{T:List Nat}{ps:List Pt}{e j:Nat}:nT T (.pick ps) e j=(ps.map λp=>nT T p e j).sum:=by
 show jV (bo T (.pick ps) e) j=_
 unfold bo
 exact uL T ps 0 e j
theorem iL{T:List Nat}{p:Pt}{e j:Nat}(hc:gY p=false)(he:e<=T.length):nT T (.again p) e j=(if e=j then 1 else 0)+iy (T.length+1) λk=>nT T p e k*nT T (.again p) k j:=by
 show jV (bo T (.again p) e) j=_
 rw[rW hc he,lP,mZ,oS]
 have:((bo T p e).map λt=>jV ((bo T (.again p) t.2).map λu=>(Tr.again (t.1::(match u.1 with| .again ts=>ts|_=>[])),u.2)) j)=(bo T p e).map λt=>nT T (.again p) t.2 j:=gu λt _=>kN (bo T (.again p) t.2) (λu=>Tr.again (t.1::(match u with| .again ts=>ts|_=>[]))) j
 rw[this,NW (g:=λk=>nT T (.again p) k j) (bo T p e) λs hs=>rn (fE T p e he s hs)]
 exact fC _ _
theorem zk{T:List Nat}{n:Str}{p:Pt}{e j:Nat}:nT T (.held n p) e j=nT T p e j:=by
 show jV (bo T (.held n p) e) j=_
 unfold bo
 exact kN (bo T p e) (Tr.held n) j
theorem vC{T:List Nat}{n:Int}{p:Pt}{e j:Nat}:nT T (.price n p) e j=nT T p e j:=by
 show jV (bo T (.price n p) e) j=_
 unfold bo
 exact kN (bo T p e) (Tr.price n) j
theorem C6{T:List Nat}{e j:Nat}:nT T .blank e j=if e=j then 1 else 0:=mZ _ e j
theorem kj{T:List Nat}{p:Pt}{e j:Nat}(he:e<=T.length)(hj:T.length<j):nT T p e j=0:=by
 show List.countP _ _=0
 rw[List.countP_eq_zero]
 intro x hx
 have:=fE T p e he x hx
 simp;ac_nf
theorem kh{T:List Nat}{p:Pt}{e j:Nat}(hc:gY p=false)(hj:j<=e):nT T p e j=0:=by
 show List.countP _ _=0
 rw[List.countP_eq_zero]
 intro x hx
 have:=j9 T p e hc x hx
 simp;ac_nf
noncomputable abbrev Ws:=List (Nat×Nat)
noncomputable def eR(ws:Ws):List (Key×PV):=ws.map λw=>(.inl (w.1:Int),.int (w.2:Int))
noncomputable def jR:Ws->Nat->Nat
 |[],_=>0
 |w::ws,j=>if w.1=j then w.2 else jR ws j
noncomputable def iO:Ws->Nat->Nat->Ws
 |[],j,c=>[(j,c)]
 |w::ws,j,c=>if w.1=j then(j,c)::ws else w::iO ws j c
theorem kJ(w:Nat×Nat)(ws:Ws):eR (w::ws)=(.inl (w.1:Int),.int (w.2:Int))::eR ws:=rfl
theorem qK{i j:Nat}(h:¬i=j):¬(il (i:Int):Key)=il (j:Int):=λe=>h (iF.mp (il.inj e))
theorem eO(k:Key)(p:PV)(kvs:List (Key×PV))(x:Key):gU ((k,p)::kvs) x=if k=x then some p else gU kvs x:=by
 unfold gU
 by_cases h:k=x
 ·rw[if_pos h,List.find?_cons_of_pos (by simpa using h)];rfl
 ·rw[if_neg h,List.find?_cons_of_neg (by simpa using h)]
theorem mh:∀(ws:Ws) (j:Nat),(∀w∈ws,0<w.2)->gU (eR ws) (.inl (j:Int))=if jR ws j=0 then none else some (.int (jR ws j:Int))
 |[],j,_=>rfl
 |w::ws,j,h=>by
  rw[kJ,eO]
  unfold jR
  by_cases e:w.1=j
  ·have:=h w (by simp)
   rw[if_pos (by rw[e]),if_pos e,if_neg (by ac_nf)]
  ·rw[if_neg (qK e),if_neg e]
   exact mh ws j λx hx=>h x (by simp[hx])
theorem uF{ws:Ws}{j:Nat}(h:∀w∈ws,0<w.2):(gU (eR ws) (.inl (j:Int))).getD (.int 0)= .int (jR ws j:Int):=by
 rw[mh ws j h]
 split
 ·rename_i e;rw[e];rfl
 ·rfl
theorem rH{k:Key}{p v:PV}{kvs:List (Key×PV)}(h:k∉kvs.map (·.1)):jf ((k,p)::kvs) k v=(k,v)::kvs:=by
 unfold jf
 rw[if_pos (by simp)]
 rw[aE,if_pos rfl]
 congr 1
 have:∀kv∈kvs,(if kv.1=k then(kv.1,v)else kv)=kv:=λkv hk=>if_neg λe=>h (ay.mpr ⟨kv,hk,e⟩)
 rw[gu this,List.map_id']
theorem lj{k x:Key}{p v:PV}{kvs:List (Key×PV)}(h:¬k=x):jf ((k,p)::kvs) x v=(k,p)::jf kvs x v:=by
 unfold jf
 have e:(((k,p)::kvs).any λkv=>decide (kv.1=x))=(kvs.any λkv=>decide (kv.1=x)):=by
  rw[dX];simp[h]
 rw[e]
 split
 ·rw[aE,if_neg h]
 ·rfl
theorem qu:∀(ws:Ws) (j c:Nat),(ws.map (·.1)).Nodup->jf (eR ws) (.inl (j:Int)) (.int (c:Int))=eR (iO ws j c)
 |[],j,c,_=>rfl
 |w::ws,j,c,h=>by
  have h':=bu.mp (show(w.1::ws.map (·.1)).Nodup from h)
  rw[kJ]
  unfold iO
  by_cases e:w.1=j
  ·rw[if_pos e,e,rH,kJ]
   intro hm
   obtain⟨kv,hk,e2⟩:=ay.mp hm
   obtain⟨x,hx,rfl⟩:=ay.mp hk
   have:x.1=j:=iF.mp (il.inj e2)
   exact h'.1 (ay.mpr ⟨x,hx,by rw[this,e]⟩)
  ·rw[if_neg e,lj (qK e),qu ws j c h'.2,kJ]
theorem zq:∀(ws:Ws) (j c i:Nat),jR (iO ws j c) i=if j=i then c else jR ws i
 |[],j,c,i=>by unfold iO jR;rfl
 |w::ws,j,c,i=>by
  unfold iO
  by_cases e:w.1=j
  ·rw[if_pos e]
   unfold jR
   by_cases e2:j=i
   ·rw[if_pos e2,if_pos e2]
   ·rw[if_neg e2,if_neg e2,if_neg (by rw[e];exact e2)]
  ·rw[if_neg e]
   unfold jR
   rw[zq ws j c i]
   by_cases e2:w.1=i
   ·rw[if_pos e2,if_pos e2,if_neg (λz=>e (by rw[e2,z]))]
   ·rw[if_neg e2,if_neg e2]
theorem mz:∀{ws:Ws} {j c:Nat} {x:Nat×Nat},x∈iO ws j c->x=(j,c)\/x∈ws
 |[],j,c,x,h=>by unfold iO at h;exact .inl (au.mp h)
 |w::ws,j,c,x,h=>by
  unfold iO at h
  split at h
  ·rcases aD.mp h with h|h
   ·exact .inl h
   ·exact .inr (by simp[h])
  ·rcases aD.mp h with h|h
   ·exact .inr (by simp[h])
   ·rcases mz h with h|h
    ·exact .inl h
    ·exact .inr (by simp[h])
theorem kC:∀{ws:Ws} {j c:Nat},(ws.map (·.1)).Nodup->((iO ws j c).map (·.1)).Nodup
 |[],j,c,h=>by unfold iO;simp
 |w::ws,j,c,h=>by
  have h':=bu.mp (show(w.1::ws.map (·.1)).Nodup from h)
  unfold iO
  by_cases e:w.1=j
  ·rw[if_pos e]
   exact bu.mpr ⟨by rw[<-e];exact h'.1,h'.2⟩
  ·rw[if_neg e]
   refine bu.mpr ⟨λhm=> ?_,kC h'.2⟩
   obtain⟨x,hx,ex⟩:=ay.mp hm
   rcases mz hx with rfl|hx
   ·exact e ex.symm
   ·exact h'.1 (ay.mpr ⟨x,hx,ex⟩)
structure Wy(ws:Ws)(n:Nat)(f:Nat->Nat):Prop where
 nd:(ws.map (·.1)).Nodup
 lt:∀w∈ws,w.1<n
 pos:∀w∈ws,0<w.2
 val:∀j,jR ws j=f j
theorem Wy.nil{n:Nat}:Wy [] n λ_=>0:=⟨by simp,by simp,by simp,λ_=>rfl⟩
theorem Wy.one{n e:Nat}(h:e<n):Wy [(e,1)] n λk=>if e=k then 1 else 0:=⟨by simp,by simpa using h,by simp,λj=>rfl⟩
theorem Wy.congr{ws:Ws}{n:Nat}{f g:Nat->Nat}(h:Wy ws n f)(e:∀j,f j=g j):Wy ws n g:=⟨h.nd,h.lt,h.pos,λj=>(h.val j).trans (e j)⟩
theorem mE:∀(n:Nat) (l:List Nat),l.Nodup->(∀x∈l,x<n)->l.length<=n
 |0,l,_,hl=>by
  cases l with
  |nil=>exact av _
  |cons x l=>exact absurd (hl x (by simp)) (gJ _)
 |n+1,l,hn,hl=>by
  have h1:=mE n (l.filter (· !=n)) (hn.filter _) λx hx=>by
   have:=hl x (cL.mp hx).1
   have h2:=(cL.mp hx).2
   simp at h2
   ac_nf
  have h2:=List.nodup_iff_count.mp hn n
  have h3:=List.length_eq_countP_add_countP (p:=(· !=n)) (l:=l)
  rw[sN (p:=(· !=n))]at h3
  have h4:l.countP (λa=>decide (¬(a !=n)=true))=l.count n:=by
   unfold List.count
   congr 1
   funext a
   by_cases e:a=n<;>simp[e]
  ac_nf
theorem Wy.len{ws:Ws}{n:Nat}{f:Nat->Nat}(h:Wy ws n f):ws.length<=n:=by
 have:=mE n (ws.map (·.1)) h.nd λx hx=>by obtain⟨w,hw,rfl⟩:=ay.mp hx;exact h.lt w hw
 simpa using this
theorem Wy.put{ws:Ws}{n k c:Nat}{f:Nat->Nat}(h:Wy ws n f)(hk:k<n)(hc:0<c):Wy (iO ws k (jR ws k+c)) n λj=>f j+if k=j then c else 0:=
 ⟨kC h.nd,λw hw=>by rcases mz hw with rfl|hw;exact hk;exact h.lt w hw,λw hw=>by rcases mz hw with rfl|hw;(show 0<jR ws k+c;ac_nf);exact h.pos w hw,λj=>by
  rw[zq]
  by_cases e:k=j
  ·rw[if_pos e,if_pos e,e,h.val]
  ·rw[if_neg e,if_neg e,h.val];ac_nf⟩
noncomputable def lR(t:Nat):Ws->Ws->Ws
 |ws,[]=>ws
 |ws,w::ms=>lR t (iO ws w.1 (jR ws w.1+w.2*t)) ms
theorem sM(t:Nat):∀(ms ws:Ws) (w:Nat×Nat),lR t ws (ms++[w])=iO (lR t ws ms) w.1 (jR (lR t ws ms) w.1+w.2*t)
 |[],ws,w=>rfl
 |m::ms,ws,w=>by
  show lR t (iO ws m.1 (jR ws m.1+m.2*t)) (ms++[w])=_
  rw[sM t ms]
  rfl
theorem mF:∀{ms:Ws} {j:Nat},j∉ms.map (·.1)->jR ms j=0
 |[],_,_=>rfl
 |w::ms,j,h=>by
  unfold jR
  rw[aE,aD,not_or]at h
  rw[if_neg (aG h.1),mF h.2]
theorem Wy.add{t n:Nat}(ht:0<t):∀{ms ws:Ws} {f:Nat->Nat},Wy ws n f->(ms.map (·.1)).Nodup->(∀w∈ms,w.1<n)->(∀w∈ms,0<w.2)->Wy (lR t ws ms) n λj=>f j+jR ms j*t
 |[],ws,f,h,_,_,_=>h.congr λj=>by simp[jR]
 |m::ms,ws,f,h,nd,lt,ps=>by
  have nd':=bu.mp (show(m.1::ms.map (·.1)).Nodup from nd)
  refine(Wy.add ht (ms:=ms) (h.put (lt m (by simp)) (Nat.mul_pos (ps m (by simp)) ht)) nd'.2 (λw hw=>lt w (by simp[hw])) λw hw=>ps w (by simp[hw])).congr λj=> ?_
  show f j+(if m.1=j then m.2*t else 0)+jR ms j*t=f j+(if m.1=j then m.2 else jR ms j)*t
  by_cases e:m.1=j
  ·rw[if_pos e,if_pos e,mF (by rw[<-e];exact nd'.1)];ac_nf
  ·rw[if_neg e,if_neg e];ac_nf
theorem Wy.put_part{t n i:Nat}{ms ws:Ws}{f g:Nat->Nat}(ht:0<t)(h:Wy ws n f)(hm:Wy ms n g):Wy (lR t ws (ms.take i)) n λj=>f j+jR (ms.take i) j*t:=
 h.add ht (hm.nd.sublist ((List.take_sublist i ms).map _)) (λw hw=>hm.lt w (eL hw)) λw hw=>hm.pos w (eL hw)
theorem Bb{t i:Nat}{ms ws:Ws}{w:Nat×Nat}(h:ms[i]? =some w):lR t ws (ms.take (i+1))=iO (lR t ws (ms.take i)) w.1 (jR (lR t ws (ms.take i)) w.1+w.2*t):=by
 rw[lV,h]
 exact sM t _ ws w
theorem oj:∀{ms:Ws} {i:Nat} {w:Nat×Nat},(ms.map (·.1)).Nodup->ms[i]? =some w->jR ms w.1=w.2
 |[],i,w,_,h=>by simp at h
 |m::ms,0,w,nd,h=>by
  simp at h;subst h
  unfold jR;rw[if_pos rfl]
 |m::ms,i+1,w,nd,h=>by
  have nd':=bu.mp (show(m.1::ms.map (·.1)).Nodup from nd)
  have h':ms[i]? =some w:=by simpa using h
  have hm:w∈ms:=ax h'
  unfold jR
  rw[if_neg (λe=>nd'.1 (ay.mpr ⟨w,hm,e.symm⟩))]
  exact oj nd'.2 h'
theorem KB{n:Nat}{h:Nat->Nat}:∀{ws:Ws},(ws.map (·.1)).Nodup->(∀w∈ws,w.1<n)->(ws.map λw=>h w.1*w.2).sum=iy n λk=>jR ws k*h k
 |[],_,_=>by
  show 0=_
  rw[fF (g:=λ_=>0) λk _=>by simp[jR],nO]
 |w::ws,nd,lt=>by
  have nd':=bu.mp (show(w.1::ws.map (·.1)).Nodup from nd)
  rw[aE,cA,KB nd'.2 λx hx=>lt x (by simp[hx])]
  have e:∀k,jR (w::ws) k*h k=jR ws k*h k+if w.1=k then w.2*h k else 0:=λk=>by
   show(if w.1=k then w.2 else jR ws k)*h k=_
   by_cases e:w.1=k
   ·rw[if_pos e,if_pos e,mF (by rw[<-e];exact nd'.1)];ac_nf
   ·rw[if_neg e,if_neg e];ac_nf
  rw[fF λk _=>e k,uP,qe (g:=λk=>w.2*h k) (lt w (by simp)),i7]
  ac_nf
noncomputable def oi(l:List Nat):Str:=⟨l.toArray⟩
theorem ia(l:List Nat):(oi l).length=l.length:=by
 show l.toArray.size=_
 rw[aw]
theorem zp(l:List Nat):(oi l).cps.toList=l:=List.toList_toArray
theorem qd{n:Nat}{f:Nat->Nat}(h:iy n f≠0):∃k,k<n/\f k≠0:=by
 induction n with
 |zero=>exact absurd rfl h
 |succ n ih=>
  by_cases e:f n=0
  ·obtain⟨k,hk,h2⟩:=ih (by intro z;apply h;show iy n f+f n=0;ac_nf)
   exact⟨k,by ac_nf,h2⟩
  ·exact⟨n,by ac_nf,e⟩
theorem C5{T:List Nat}{p:Pt}{e j:Nat}(h:nT T p e j≠0):e<=j:=by
 have:0<nT T p e j:=fA h
 obtain⟨x,hx,hp⟩:=List.countP_pos_iff.mp this
 have h1:=lA T p e x hx
 have h2:x.2=j:=by simpa using hp
 ac_nf
noncomputable def dl(e:Nat):Nat->Nat:=λk=>if e=k then 1 else 0
theorem y0{T:List Nat}{lo:Nat}:∀(ps:List Pt) {w:Nat->Nat},(∀k,w k≠0->lo<=k)->∀k,qt T ps w k≠0->lo<=k
 |[],w,h,k,hk=>h k hk
 |p::ps,w,h,k,hk=>by
  refine y0 ps (w:=rZ T p w) (λj hj=> ?_) k hk
  obtain⟨i,_,hi⟩:=qd hj
  have h1:w i≠0:=λz=>hi (by rw[z,Nat.zero_mul])
  have h2:nT T p i j≠0:=λz=>hi (by rw[z,Nat.mul_zero])
  exact aO (h i h1) (C5 h2)
theorem Nz{e k:Nat}(h:dl e k≠0):e<=k:=by
 unfold dl at h
 split at h
 ·ac_nf
 ·exact absurd rfl h
theorem sj(T:List Nat)(c:Pt):∀(ps:List Pt) (w:Nat->Nat),qt T (ps++[c]) w=rZ T c (qt T ps w)
 |[],w=>rfl
 |p::ps,w=>sj T c ps (rZ T p w)
theorem uS{T:List Nat}{p:Pt}{e j:Nat}(he:e<=T.length):rZ T p (dl e) j=nT T p e j:=by
 show iy (T.length+1) (λk=>dl e k*nT T p k j)=_
 rw[fF (g:=λk=>if e=k then nT T p k j else 0) λk _=>by unfold dl;split<;>simp]
 exact qe (by ac_nf)
noncomputable def Iz:Pt->Bool
 | .row _=>true
 | .held _ _=>true
 | .price _ _=>true
 | .blank=>true
 |_=>false
theorem kE{T:List Nat}{q:Pt}{e j:Nat}(h:Iz q=true)(he:e<=T.length):nT T q e j=qt T (cF q) (dl e) j:=by
 cases q with
 |row ps=>exact Ju he
 |held n p=>rw[zk];exact(uS he).symm
 |price n p=>rw[vC];exact(uS he).symm
 |blank=>exact C6
 |_=>cases h
theorem Wy.key{ws:Ws}{n:Nat}{f:Nat->Nat}{i:Nat}{w:Nat×Nat}(h:Wy ws n f)(e:ws[i]? =some w):f w.1=w.2/\0<w.2/\w.1<n:=by
 have hm:=ax e
 exact⟨by rw[<-h.val,oj h.nd e],h.pos w hm,h.lt w hm⟩
theorem Wy.read{ws:Ws}{n:Nat}{f:Nat->Nat}{i:Nat}{w:Nat×Nat}(h:Wy ws n f)(e:ws[i]? =some w):gU (eR ws) (.inl (w.1:Int))=some (.int (w.2:Int)):=by
 rw[mh ws w.1 h.pos,oj h.nd e,if_neg (by have:=h.pos w (ax e);ac_nf)]
structure Cs(T:List Nat)(p:Pt):Prop where
 len:T.length<=900
 siz:size p<=10000
 big:∀q∈makes p,∀e,e<=T.length->∀j,nT T q e j<2^64
 ag:∀q,Pt.again q∈makes p->gY q=false
noncomputable def GS(T:List Nat)(m pa tb:Addr):List (Str×PV):=[("signs",.str (oi T)),("makes",.ref m),("parts",.ref pa),("table",.ref tb)]
structure Tb(C:Addr)(G:Gp)(a:Addr)(T:List Nat)(p:Pt)(D:Nat->Nat->Prop)(dx m pa tb:Addr)(ts:List Addr):Prop where
 ins:G a=some (.ins C dx (GS T m pa tb))
 mks:G m=some (.lst (bJ (makes p)))
 pts:G pa=some (.lst (fZ p))
 tbl:G tb=some (.lst (ts.map PV.ref))
 tl:ts.length=size p
 row:∀(i:Nat) (t:Addr),ts[i]? =some t->∃kvs,G t=some (.dK kvs)/\∀q,(makes p)[i]? =some q->∀e,D i e->e<=T.length->∃d ws,gU kvs (.inl (e:Int))=some (.ref d)/\G d=some (.rd (eR ws))/\Wy ws (T.length+1) (nT T q e)
theorem Tb.ge{C a dx m pa tb:Addr}{G G':Gp}{T:List Nat}{p:Pt}{D:Nat->Nat->Prop}{ts:List Addr}(h:Tb C G a T p D dx m pa tb ts)(g:GE G G'):Tb C G' a T p D dx m pa tb ts:=
 ⟨g _ _ h.ins,g _ _ h.mks,g _ _ h.pts,g _ _ h.tbl,h.tl,λi t e=>by
  obtain⟨kvs,h1,h3⟩:=h.row i t e
  refine⟨kvs,g _ _ h1,λq hq e he hl=> ?_⟩
  obtain⟨d,ws,h4,h5,h6⟩:=h3 q hq e he hl
  exact⟨d,ws,h4,g _ _ h5,h6⟩⟩
noncomputable def Dn(n e:Nat):Nat->Nat->Prop:=λi k=>e<k\/k=e/\n<i
theorem K0{α:Type}{ts:List Addr}{i:Nat}{t:Addr}(h:ts[i]? =some t):(ts.map PV.ref)[i]? =some (.ref t):=by rw[aF,h];rfl
theorem EL{α:Type}{l:List α}{i:Nat}{x:α}(h:l[i]? =some x):l=l.take i++x::l.drop (i+1):=by
 obtain⟨hi,rfl⟩:=am.mp h
 rw[List.getElem_cons_drop hi,er]
theorem gD{p qq cc:Pt}{n i:Nat}{x:PV}(hq:(makes p)[n]? =some qq)(hcc:(cF qq)[i]? =some cc)(hx:((cJ (n+1) (cF qq)).map cI)[i]? =some x):∃j:Nat,x= .int (j:Int)/\(makes p)[j]? =some cc/\n<j:=by
 have e1:=EL hcc
 have hi:=(am.mp hcc).1
 refine⟨n+1+ck ((cF qq).take i),?_,uX hq e1,by ac_nf⟩
 rw[e1,ls,aS,bX (by rw[ap,eD,bb];ac_nf),ap,eD,bb,iR (by ac_nf),Nat.sub_self]at hx
 simp only[cJ,aE,yd]at hx
 exact(a8 hx).symm
theorem Tb.read{C a dx m pa tb:Addr}{G:Gp}{T:List Nat}{p cc:Pt}{D:Nat->Nat->Prop}{ts:List Addr}{j k:Nat}(h:Tb C G a T p D dx m pa tb ts)(hj:(makes p)[j]? =some cc)(hd:D j k)(hk:k<=T.length):
  ∃t d kvs ms,(ts.map PV.ref)[j]? =some (.ref t)/\G t=some (.dK kvs)/\gU kvs (.inl (k:Int))=some (.ref d)/\G d=some (.rd (eR ms))/\Wy ms (T.length+1) (nT T cc k):=by
 have hjl:=(am.mp hj).1
 rw[bO,<-h.tl]at hjl
 obtain⟨kvs,h1,h3⟩:=h.row j ts[j] (al hjl)
 obtain⟨d,ws,h4,h5,h6⟩:=h3 cc hj k hd hk
 exact⟨ts[j],d,kvs,ws,by rw[aF,al hjl];rfl,h1,h4,h5,h6⟩
theorem Wy.big{T:List Nat}{p cc:Pt}{ms:Ws}{k:Nat}(cs:Cs T p)(hc:cc∈makes p)(hk:k<=T.length)(h:Wy ms (T.length+1) (nT T cc k)):∀w∈ms,w.2<2^64:=λw hw=>by
 obtain⟨i,hi⟩:=fI.mp hw
 rw[<-(h.key hi).1]
 exact cs.big cc hc k hk _
theorem jk(ws:Ws):(eR ws).map (λkv=>kP kv.1)=ws.map λw=>PV.int (w.1:Int):=by unfold eR;rw[bT];rfl
theorem zt{ws:Ws}{i:Nat}{x:PV}(h:(ws.map λw=>PV.int (w.1:Int))[i]? =some x):∃w,ws[i]? =some w/\x= .int (w.1:Int):=by
 rw[aF]at h
 cases e:ws[i]? with
 |none=>rw[e]at h;cases h
 |some w=>rw[e]at h;cases h;exact⟨w,rfl,rfl⟩
noncomputable def xo(T:List Nat)(c:Pt)(ws:Ws)(j:Nat):Nat:=(ws.map λw=>nT T c w.1 j*w.2).sum
theorem ss{T:List Nat}{c:Pt}{ws:Ws}{i j:Nat}{w:Nat×Nat}(h:ws[i]? =some w):xo T c (ws.take (i+1)) j=xo T c (ws.take i) j+nT T c w.1 j*w.2:=by
 unfold xo
 rw[lV,h]
 simp
theorem vo{T:List Nat}{c:Pt}{ws:Ws}{f:Nat->Nat}{j:Nat}(h:Wy ws (T.length+1) f):xo T c ws j=rZ T c f j:=by
 unfold xo
 rw[KB (h:=λk=>nT T c k j) h.nd h.lt]
 exact fF λk _=>by rw[h.val]
theorem pW{k k':Key}{v:PV}:∀(kvs:List (Key×PV)),gU (jf kvs k v) k'=if k=k' then some v else gU kvs k'
 |[]=>by
  show gU [(k,v)] k'=_
  rw[eO]
 |(x,p)::kvs=>by
  by_cases e:x=k
  ·subst e
   unfold jf
   rw[if_pos (by simp),aE,if_pos rfl,eO]
   by_cases e2:x=k'
   ·rw[if_pos e2,if_pos e2]
   ·rw[if_neg e2,if_neg e2,eO,if_neg e2]
    clear p
    induction kvs with
    |nil=>rfl
    |cons y ys ih=>
     obtain⟨y1,y2⟩:=y
     rw[aE]
     by_cases e3:y1=x
     ·rw[if_pos e3,eO,eO,ih,e3,if_neg e2,if_neg e2]
     ·rw[if_neg e3,eO,eO,ih]
  ·rw[lj e,eO,eO,pW kvs]
   by_cases e2:k=k'
   ·rw[if_pos e2,if_pos e2,if_neg (by rw[<-e2];exact e)]
   ·rw[if_neg e2,if_neg e2]
theorem vn{k:Key}{v:PV}(kvs:List (Key×PV)):(jf kvs k v).length<=kvs.length+1:=by
 unfold jf
 split
 ·rw[ap];ac_nf
 ·rw[aN];exact av _
section
variable{C a dx m pa tb t d:Addr}{G:Gp}{T:List Nat}{p q:Pt}{D D':Nat->Nat->Prop}{ts:List Addr}{n e:Nat}{kvs:List (Key×PV)}{ws:Ws}
theorem Tb.mono(h:Tb C G a T p D dx m pa tb ts)(hd:∀j e,e<=T.length->D' j e->D j e):Tb C G a T p D' dx m pa tb ts:=
 ⟨h.ins,h.mks,h.pts,h.tbl,h.tl,λi t e=>by
  obtain⟨kvs,h1,h3⟩:=h.row i t e
  exact⟨kvs,h1,λq hq e he hl=>h3 q hq e (hd _ _ hl he) hl⟩⟩
theorem Tb.mono'(h:Tb C G a T p D dx m pa tb ts)(hd:∀j e,j<size p->e<=T.length->D' j e->D j e):Tb C G a T p D' dx m pa tb ts:=
 ⟨h.ins,h.mks,h.pts,h.tbl,h.tl,λi t e=>by
  obtain⟨kvs,h1,h3⟩:=h.row i t e
  have hi:=(am.mp e).1
  rw[h.tl]at hi
  exact⟨kvs,h1,λq hq e he hl=>h3 q hq e (hd _ _ hi hl he) hl⟩⟩
theorem Tb.write(h:Tb C G a T p D dx m pa tb ts)(nd:ts.Nodup)(ht:ts[n]? =some t)(hq:(makes p)[n]? =some q)(hk:G t=some (.dK kvs))(hd:G d=none)(hw:Wy ws (T.length+1) (nT T q e))
  (hD:∀j k,k<=T.length->D' j k->D j k\/(j=n/\k=e)):Tb C (up (up G d (.rd (eR ws))) t (.dK (jf kvs (.inl (e:Int)) (.ref d)))) a T p D' dx m pa tb ts:=by
 have nt:∀{b:Addr} {o:MO},G b=some o->(∀k,o≠ .dK k)->up (up G d (.rd (eR ws))) t (.dK (jf kvs (.inl (e:Int)) (.ref d))) b=some o:=fun{b o} hb ho=>by
  rw[aL (λz=>by rw[z,hk]at hb;cases hb;exact ho _ rfl),aL (aZ hb hd)];exact hb
 refine⟨nt h.ins (by simp),nt h.mks (by simp),nt h.pts (by simp),nt h.tbl (by simp),h.tl,λi t' hi=> ?_⟩
 obtain⟨kvs',h1,h3⟩:=h.row i t' hi
 by_cases e1:i=n
 ·subst e1
  rw[ht]at hi;cases hi
  rw[hk]at h1;cases h1
  refine⟨_,ao,λq' hq' k hk' hl=> ?_⟩
  rw[hq]at hq';cases hq'
  rw[pW]
  by_cases e2:k=e
  ·subst e2
   exact⟨d,ws,if_pos rfl,by rw[aL (λz=>by rw[z,hk]at hd;cases hd),ao],hw⟩
  ·rcases hD i k hl hk' with z|⟨_,z⟩
   ·obtain⟨d',ws',h4,h5,h6⟩:=h3 q hq k z hl
    exact⟨d',ws',by rw[if_neg (qK (aG e2))];exact h4,nt h5 (by simp),h6⟩
   ·exact absurd z e2
 ·have net:t'≠t:=λz=>by
   subst z
   have h1:=(am.mp hi)
   have h2:=(am.mp ht)
   obtain⟨a1,b1⟩:=h1
   obtain⟨a2,b2⟩:=h2
   have pw:=wv.mp nd
   rcases Nat.lt_or_gt_of_ne e1 with z|z
   ·exact pw i n a1 a2 z (by rw[b1,b2])
   ·exact pw n i a2 a1 z (by rw[b1,b2])
  refine⟨kvs',by rw[aL net,aL (aZ h1 hd)];exact h1,λq' hq' k hk' hl=> ?_⟩
  rcases hD i k hl hk' with z|⟨z,_⟩
  ·obtain⟨d',ws',h4,h5,h6⟩:=h3 q' hq' k z hl
   exact⟨d',ws',h4,nt h5 (by simp),h6⟩
  ·exact absurd z e1
end
section
end
theorem rY{n i:Nat}{f:Nat->Nat}(h:i<n):f i<=iy n f:=by
 induction n with
 |zero=>ac_nf
 |succ n ih=>
  simp only[iy]
  by_cases e:i=n
  ·subst e;ac_nf
  ·have:=ih (by ac_nf);ac_nf
noncomputable def bG{α:Type}(o:Nat->Nat)(l:List (α×Nat)):Nat:=(l.map λx=>o x.2).sum
noncomputable def pk{α:Type}(o:Nat->Nat):List (α×Nat)->Nat->Option (α×Nat×Nat)
 |[],_=>none
 |x::l,k=>if k<o x.2 then some (x.1,x.2,k)else pk o l (k-o x.2)
section
variable{α β:Type}{o:Nat->Nat}
theorem pk_cons(x:α×Nat)(l:List (α×Nat))(k:Nat):pk o (x::l) k=if k<o x.2 then some (x.1,x.2,k)else pk o l (k-o x.2):=rfl
theorem iG:bG o ([]:List (α×Nat))=0:=rfl
theorem gl(x:α×Nat)(l:List (α×Nat)):bG o (x::l)=o x.2+bG o l:=by unfold bG;rw[aE,cA]
theorem j7(l m:List (α×Nat)):bG o (l++m)=bG o l+bG o m:=by unfold bG;rw[aS,List.sum_append]
theorem l9(f:α->β)(l:List (α×Nat)):bG o (l.map λx=>(f x.1,x.2))=bG o l:=by unfold bG;rw[bT];rfl
theorem y9:∀(l:List (α×Nat)) (k:Nat),k<bG o l->∃a e r,pk o l k=some (a,e,r)/\(a,e)∈l/\r<o e
 |[],k,h=>by rw[iG]at h;ac_nf
 |x::l,k,h=>by
  unfold pk
  by_cases e:k<o x.2
  ·rw[if_pos e];exact⟨x.1,x.2,k,rfl,by simp,e⟩
  ·rw[if_neg e]
   rw[gl]at h
   obtain⟨a,e',r,h1,h2,h3⟩:=y9 l (k-o x.2) (by ac_nf)
   exact⟨a,e',r,h1,by simp[h2],h3⟩
theorem pG:∀(l m:List (α×Nat)) (k:Nat),k<bG o l->pk o (l++m) k=pk o l k
 |[],m,k,h=>by rw[iG]at h;ac_nf
 |x::l,m,k,h=>by
  rw[iu]
  unfold pk
  by_cases e:k<o x.2
  ·rw[if_pos e,if_pos e]
  ·rw[if_neg e,if_neg e]
   rw[gl]at h
   exact pG l m _ (by ac_nf)
theorem mC:∀(l m:List (α×Nat)) (k:Nat),bG o l<=k->pk o (l++m) k=pk o m (k-bG o l)
 |[],m,k,h=>by rw[iG];rfl
 |x::l,m,k,h=>by
  rw[gl]at h⊢
  rw[iu]
  conv=>lhs;unfold pk
  rw[if_neg (by ac_nf),mC l m _ (by ac_nf)]
  congr 1
  ac_nf
theorem nZ(f:α->β):∀(l:List (α×Nat)) (k:Nat),pk o (l.map λx=>(f x.1,x.2)) k=(pk o l k).map λy=>(f y.1,y.2)
 |[],k=>rfl
 |x::l,k=>by
  rw[aE]
  unfold pk
  by_cases e:k<o x.2
  ·rw[if_pos e,if_pos e];rfl
  ·rw[if_neg e,if_neg e];exact nZ f l _
theorem tO{γ:Type}(F:Nat->List (β×Nat))(g:α->β->γ):∀(l:List (α×Nat)) (k:Nat),pk o (l.flatMap λt=>(F t.2).map λu=>(g t.1 u.1,u.2)) k=(pk (λe=>bG o (F e)) l k).bind λy=>(pk o (F y.2.1) y.2.2).map λz=>(g y.1 z.1,z.2)
 |[],k=>rfl
 |x::l,k=>by
  rw[bI]
  rw[pk_cons]
  have hw:bG o ((F x.2).map λu=>(g x.1 u.1,u.2))=bG o (F x.2):=l9 (g x.1) (F x.2)
  by_cases e:k<bG o (F x.2)
  ·rw[if_pos e,pG _ _ _ (by rw[hw];exact e),nZ (g x.1) (F x.2) k]
   rfl
  ·rw[if_neg e,mC _ _ _ (by rw[hw];ac_nf),hw]
   exact tO F g l _
theorem iB{γ:Type}(F:Nat->List (β×Nat))(g:α->β->γ):∀(l:List (α×Nat)),bG o (l.flatMap λt=>(F t.2).map λu=>(g t.1 u.1,u.2))=bG (λe=>bG o (F e)) l
 |[]=>rfl
 |x::l=>by rw[bI,j7,l9 (g x.1) (F x.2),gl,iB F g l]
theorem Bw{n:Nat}(l:List (α×Nat))(h:∀s∈l,s.2<n):bG o l=iy n λk=>jV l k*o k:=NW l h
end
theorem ED{T:List Nat}{p:Pt}{e:Nat}{o:Nat->Nat}(he:e<=T.length):bG o (bo T p e)=iy (T.length+1) λj=>nT T p e j*o j:=Bw _ λs hs=>rn (fE T p e he s hs)
noncomputable def c8(T:List Nat):List Pt->Nat->List (List Tr×Nat)
 |[],e=>[([],e)]
 |p::ps,e=>(bo T p e).flatMap λt=>(c8 T ps t.2).map λu=>(t.1::u.1,u.2)
theorem rX(T:List Nat):∀(ps:List Pt) (sm:List (List Tr×Nat)),ka T ps sm=sm.flatMap λs=>(c8 T ps s.2).map λu=>(s.1++u.1,u.2)
 |[],sm=>by
  unfold ka c8
  induction sm with
  |nil=>rfl
  |cons s sm ih=>rw[bI,<-ih];simp
 |p::ps,sm=>by
  unfold ka
  rw[rX T ps]
  induction sm with
  |nil=>rfl
  |cons s sm ih=>
   rw[bI,List.flatMap_append,ih,bI]
   congr 1
   conv=>rhs;unfold c8
   rw[List.map_flatMap,List.flatMap_map]
   refine mL λt ht=> ?_
   rw[bT]
   refine gu λu hu=> ?_
   simp
theorem iH(T:List Nat)(ps:List Pt)(e:Nat):bo T (.row ps) e=(c8 T ps e).map λs=>(.row s.1,s.2):=by
 unfold bo
 rw[rX]
 simp
theorem kf{α:Type}{L:Nat}:∀(l:List (α×Nat)) (k:Nat),pk (dl L) l k=((l.filter λt=>t.2==L)[k]?).map λt=>(t.1,t.2,0)
 |[],k=>by simp[pk]
 |x::l,k=>by
  unfold pk dl
  by_cases e:L=x.2
  ·rw[if_pos e,ye (by simp[e])]
   cases k with
   |zero=>simp
   |succ k=>
    rw[if_neg (by ac_nf)]
    have:=kf (L:=L) l k
    unfold dl at this
    simpa using this
  ·rw[if_neg e,if_neg (by ac_nf),yf (by simp;exact λh=>e h.symm)]
   have:=kf (L:=L) l (k-0)
   unfold dl at this
   simpa using this
end L3
namespace L2
open PySem PySem.Spec PyProof.Rows
noncomputable def Lx(td ty:TE):TE:=λσ H Q=>td σ H λx H1=>∃a,x= .ref a/\O5 H1 a/\ty σ H1 λy H2=>∃b kvs more,y= .ref b/\H2 a=some (.dK kvs)/\Rd H2 b (.dK more)/\a≠b/\kvs.length+more.length<=aK/\Q .non (upd H2 a (.dK (jy kvs more)))
theorem Fm{X:Cx}{o e:Expr}{apos cpos:Pos}{td ty:TE}(ho:PE X o td)(he:PE X e ty)(m:M1 X o "update" apos e cpos):PE X (.Call (.Attribute o "update" apos) [e] [] cpos) (Lx td ty):=by
 intro pins s σ H Q I h
 refine wpAny_Call_method m.base m.few m.line PySem.F.plainAttrs_dict PySem.F.slot_dict_update PySem.F.type_dict_update (dZ (ho pins s σ H _ I h) λu s1 hPl=> ?_)
 obtain⟨x,H1,I1,rx,a,ex,d,q1⟩:=hPl
 subst ex
 obtain rfl:u=aB a:=rx
 obtain⟨t1,t2,_⟩:=DF I1 d
 refine⟨t1,t2,?_⟩
 rw[m.trees]
 refine hJ rfl (lU (i9 (dZ (he pins s1 σ H1 _ I1 q1) λiv s2 ⟨y,H2,I2,ry,b,kvs,more,ey,ea,eb,ne,hl,q2⟩=>pj ?_)))
 subst ey
 obtain rfl:iv=aB b:=ry
 obtain⟨z,hd,vs,rel,dd⟩:=DY I2.hok ea
 obtain⟨z',hd',ms,rel',dm⟩:=oQ I2.hok eb
 refine call_meetsIn PySem.F.slot_dict_update dd.typeIs PySem.F.entry_dict_update (PySem.F.args_dict_update_2 _ _) (meets_dict_update (mixKind X.prog X.w) a b ne hd') ⟨vs,ms,dd,dm,by rw[<-rel.length,<-rel'.length];exact hl,λh' dd' dm' hs=> ?_⟩
 have he':∃q,h'.get? a=some q:=let⟨q,_,_,hq,_⟩:=dd';⟨q,hq⟩
 have hz:(jy kvs more).length<=aK:=aO (i0 more kvs) hl
 exact⟨.non,_,mT (t':=s2.toks) I2 (by rw[ea];exact cz) hs he' (uo hz hd (rel'.merge rel) dd'),rfl,q2⟩
end L2
namespace L3
open PySem L2
noncomputable def yB(C:Addr)(f:Str)(x:PV)(tv:E2)(τ:jo)(G:Gp)(Q:Gp->Prop):Prop:=match x with
 | .ref a=>match G a with
  |some (.ins C' _ fs)=>C'=C/\match fs.lookup f with
   |some (.int i)=>tv τ G λy G1=>match y with
    | .int j=>match G1 a with
     |some (.ins C'' dx' fs')=>C''=C/\fs'.length<1000/\Q (up G1 a (.ins C dx' (ig f (.int (i-j)) fs')))
     |_=>False
    |_=>False
   |_=>False
  |_=>False
 |_=>False
noncomputable abbrev B4(C:Addr)(ta tv:E2)(f:Str):S2:=λD τ G=>ta τ G λx G1=>yB C f x tv τ G1 λG3=>D.nx τ G3
theorem AH{X:Cx}{C:Addr}{o value:Expr}{f:Str}{ta tv:E2}{pos tpos:Pos}(c:Cls X.K C)(n:NoAttr X.K C f)(ha:JE X o ta)(hv:JE X value tv):
  JS X (.AugAssign (.Attribute o f tpos) .Sub value pos) (B4 C ta tv f):= .of (so ha.h hv.h Kx) λD σ H ⟨τ,G,D2,rs,rp,q,cl⟩=>by
 refine⟨τ,G,_,rs,rp,q,λx G1 u H1 q1 d1 r1 k1=> ?_⟩
 unfold yB at q1
 split at q1
 ·rename_i a
  split at q1
  ·rename_i C' dx fs hG
   obtain⟨rfl,q1⟩:=q1
   split at q1
   ·rename_i i hl
    obtain rfl:u= .ref a:=d1
    obtain⟨vs,hH,df⟩:=r1 a _ hG
    obtain⟨w',hw,dw⟩:=mO df hl
    obtain rfl:w'= .int i:=dw
    refine⟨a,_,dx,vs,_,rfl,hH,c,n,hw,τ,G1,_,rs.keep k1,r1,q1,λy G2 v H2 q2 d2 r2 k2=> ?_⟩
    split at q2
    ·rename_i j
     split at q2
     ·rename_i C'' dx' fs' hG2
      obtain⟨rfl,hl2,q2⟩:=q2
      obtain rfl:v= .int j:=d2
      obtain⟨vs2,hH2,df2⟩:=r2 a _ hG2
      have kk:Keep X.K H2 (L2.upd H2 a (.ins C'' dx' (iP f (.int (i-j)) vs2))):=km hH2
      exact⟨i,j,rfl,rfl,dx',vs2,hH2,by rw[pM df2];exact hl2,cl.nx _ _ _ _ q2 (rs.keep ((k1.trans k2).trans kk)) (r2.putI hH2 (pL (q:= .int (i-j)) rfl df2)) ((k1.trans k2).trans kk)⟩
     ·exact q2.elim
    ·exact q2.elim
   ·exact q1.elim
  ·exact q1.elim
 ·exact q1.elim
noncomputable def AB(kvs more:List (Key×PV)):List (Key×PV):=more.foldl (λacc kv=>jf acc kv.1 kv.2) kvs
theorem DKv.merge{K:PySem.W.Frag}{H:Hp}:∀{more:List (Key×PV)} {ms:List (Key×V)} {kvs:List (Key×PV)} {vs:List (Key×V)},DKv K H more ms->DKv K H kvs vs->DKv K H (AB kvs more) (jy vs ms)
 |[],ms,kvs,vs,h,g=>by obtain rfl:ms=[]:=h;exact g
 |(x,p)::more,ms,kvs,vs,h,g=>by
  obtain⟨v,r,rfl,d,z⟩:=h
  show DKv K H (AB (jf kvs x p) more) (jy (jQ vs x v) r)
  exact DKv.merge z (g.put d)
noncomputable def EF(x y:PV)(G:Gp)(Q:K2):Prop:=match x,y with
 | .ref a,.ref b=>match G a,jZ G b with
  |some (.dK kvs),some more=>a≠b/\kvs.length+more.length<=16000000/\Q .non (up G a (.dK (AB kvs more)))
  |_,_=>False
 |_,_=>False
theorem Ia{a b:Addr}{G:Gp}{kvs more:List (Key×PV)}{Q:K2}(h:G a=some (.dK kvs))(h2:jZ G b=some more)(ne:a≠b)(hl:kvs.length+more.length<=16000000)(q:Q .non (up G a (.dK (AB kvs more)))):EF (.ref a) (.ref b) G Q:=by
 unfold EF;simp only[h,h2];exact⟨ne,hl,q⟩
noncomputable abbrev OR(td te:E2):E2:=λτ G Q=>td τ G λx G1=>Ku x G1/\te τ G1 λy G2=>EF x y G2 Q
theorem AJ{X:Cx}{d e:Expr}{td te:E2}{apos cpos:Pos}(hd:JE X d td)(he:JE X e te)(m:L2.M1 X d "update" apos e cpos:=by exact⟨rfl,rfl,rfl,rfl⟩):JE X (.Call (.Attribute d "update" apos) [e] [] cpos) (OR td te):=
 .of (Fm hd.h he.h m) λσ H Q hPl=>by
  obtain⟨τ,G,Q2,rs,rp,q,cl⟩:=hPl
  refine⟨τ,G,_,rs,rp,q,λp1 G1 v1 H1 q1 d1 r1 k1=> ?_⟩
  obtain⟨⟨a,kvs,rfl,ea⟩,q1⟩:=q1
  obtain rfl:v1= .ref a:=d1
  obtain⟨vs,hv,dv⟩:=r1.dR ea
  refine⟨a,rfl,.inl ⟨vs,hv⟩,τ,G1,_,rs.keep k1,r1,q1,λp2 G2 v2 H2 q2 d2 r2 k2=> ?_⟩
  unfold EF at q2
  cases p2 with
  |ref b=>
   simp only at q2
   split at q2
   ·rename_i kv2 more eg em
    obtain⟨ne,hl,q2⟩:=q2
    obtain rfl:v2= .ref b:=d2
    obtain⟨vs2,hv2,dv2⟩:=r2.dK eg
    obtain⟨ms,hm,dm⟩:=r2.dR em
    exact⟨b,vs2,ms,rfl,hv2,hm,ne,by rw[dv2.length,dm.length,gA];ac_nf,cl _ _ _ _ q2 rfl (r2.putD hv2 (dm.merge dv2)) ((k1.trans k2).trans (kF hv2))⟩
   ·exact q2.elim
  |_=>exact q2.elim
end L3
namespace PySem
section
variable{prog:aI}{w:aY}{A:Around}{E:ae->ai->Prop}{s:ai}{d:Addr}
noncomputable def HR(kvs:List (L2.Key×ae))(prog:aI)(w:aY):Nat->ae->Prop:=λi v=>∃k x,kvs[i]? =some (k,x)/\(L2.mixKind prog w).is k v=true
theorem ma{R:Result->ai->Prop}{kvs:List (L2.Key×ae)}{ep:Nat}(hh:A.handled=none)(hd:(d==eY)=false)(hm:s.heap.DictAt (L2.mixKind prog w) d kvs ep)(S:Addr)(hne:S≠d)(res:ae)(c:Nat)(hS:s.heap.get? S=some {cls:= .type "list",dict:=none,data:= .seq #[] c,slots:= #[]})(hn:kvs.length<=aK)
  (hR:∀(s':ai) acc' c',(∀b o,b≠S->s.heap.get? b=some o->s'.heap.get? b=some o)->s'.gens=s.gens->s'.os=s.os->s'.heap.get? S=some {cls:= .type "list",dict:=none,data:= .seq acc' c',slots:= #[]}->ItemsOf (HR kvs prog w) acc' kvs.length->R (.ok (.ret res)) s'):
  wpAny (aQ prog w) A.in1 (eZ (.ref S) (.ref d) res)
   (λfin s'=>match fin with| .done f=>R (.ok f) s'| .again c'=>c'.quiet=true/\codeAny (aQ prog w) A c' R s') (λe s'=>R (.error e) s') s:=by
 unfold eZ
 have h1:pR (.ref S) (.ref d)=false:=by simp[pR,hne]
 have hT1:s.TypeIs (.ref d) "dict" :=hm.dictOf.typeIs
 refine aa (wpAny_typeOf hT1 ?_)
 rw[if_neg (by rw[h1];decide)]
 refine aa (wpAny_pyIter_dict hd hm ?_)
 have hm2:(s.heap.push {cls:= .type "dict_keyiterator",data:= .fields #[.ref d,.int 0 0,.int kvs.length 0,.int ep 0]}).DictAt (L2.mixKind prog w) d kvs ep:=hm.at' λo e=>ak _ e
 have hI:(s.heap.push {cls:= .type "dict_keyiterator",data:= .fields #[.ref d,.int 0 0,.int kvs.length 0,.int ep 0]}).IsKeyIter s.heap.objs.size d 0 kvs.length ep:=⟨_,aJ _ rfl,rfl,rfl⟩
 have kp2:∀b o,s.heap.get? b=some o->(s.heap.push {cls:= .type "dict_keyiterator",data:= .fields #[.ref d,.int 0 0,.int kvs.length 0,.int ep 0]}).get? b=some o:=λb o q=>ak _ q
 have hdl:d<s.heap.objs.size:=by obtain⟨o,es,ho,_⟩:=hm;exact aC ho
 have hSl:S<s.heap.objs.size:=aC hS
 generalize s.heap.push {cls:= .type "dict_keyiterator",data:= .fields #[.ref d,.int 0 0,.int kvs.length 0,.int ep 0]}=g2 at hm2 hI kp2⊢
 refine aa (dH ?_)
 unfold cb.List.listLengthHint
 have hT2:ai.TypeIs {s with heap:=g2} (.ref d) "dict" :=hm2.dictOf.typeIs
 refine aa (wpAny_specialOf hT2 F.slot_dict_len.lookup ?_)
 wp_delta
 refine aa (wpAny_isInstance (T:= "dict") (v:= .ref d) (b:=true) hT2 (by rw[isSubtype_type];kernel_rfl) ?_)
 show wpAny _ A.in1 (typeOf (aB d)>>=_) _ _ _
 refine aa (wpAny_typeOf hT2 ?_)
 refine aA ?_
 have nI:d≠s.heap.objs.size:=aU hdl
 have nL:S≠s.heap.objs.size:=aU hSl
 have hSf:S∉[s.heap.objs.size,d]:=by
  simp only[aD,bi,or_false,not_or]
  exact⟨nL,hne⟩
 show wpAny _ A.in1 (rule "list.extend.makes-room" >>=λ_=>cb.List.listTouch (.ref S)>>=λ_=>
  again (.builtin "list.extend.loop" ⟨[.ref S,.ref s.heap.objs.size,res],[]⟩)) _ _ _
 refine aa (wpAny_rule ?_)
 refine aa ?_
 show wpAny _ A.in1 (updateSeq S (·.push .none)>>=λ_=>updateSeq S (·.pop)) _ _ _
 have hL2:=kp2 _ _ hS
 refine aa (nw (s:={s with heap:=g2}) hL2 rfl ?_)
 have hL3:=fK (eS (·.push bn)) hL2 rfl
 refine nw (hz:=by seq_fits) hL3 rfl ?_
 have hL4:=fK (eS (·.pop)) hL3 rfl
 have oth:∀b o,b≠S->g2.get? b=some o->((g2.update S (eS (·.push bn))).update S (eS (·.pop))).get? b=some o:=
  λb o hb e=>(cj _ _ (aG hb)).trans ((cj _ _ (aG hb)).trans e)
 have hh1:A.in1.handled=none:=by simp[hh]
 have W:=(Walks.dictKeys (prog:=prog) (w:=w) (knd:=L2.mixKind prog w) hh1 s.heap.objs.size d nI kvs ep).toS
 refine aA ⟨plainId_quiet F.plain_extend_loop _,codeAny_extend_loopS W hn _ hSf _ kvs.length 0 _ _ _ rfl (bK _)
  (W.frame 0 {s with heap:=g2} _ s.toks ⟨hI,hm2⟩ (av _) λb hb o e=>oth b o (λh=>hSf (h▸hb)) e) hL4 (ItemsOf.nil _) λs' acc' c' hmv hS'' hacc=> ?_⟩
 refine hR s' acc' c' (λb o hb e=> ?_) hmv.gens hmv.os hS'' hacc
 have hbl:b<s.heap.objs.size:=aC e
 refine hmv.heap b o ?_ (oth b o hb (kp2 b o e))
 simp only[aD,bi,or_false,not_or]
 exact⟨hb,aU hbl⟩
theorem rf{Q:ae->ai->Prop}{kvs:List (L2.Key×ae)}{ep:Nat}(hh:A.handled=none)(hd:(d==eY)=false)(hm:s.heap.DictAt (L2.mixKind prog w) d kvs ep)(hn:kvs.length<=aK)
  (hQ:∀(s':ai) acc' c',(∀b o,s.heap.get? b=some o->s'.heap.get? b=some o)->s'.gens=s.gens->s'.os=s.os->s'.heap.get? s.heap.objs.size=some {cls:= .type "list",dict:=none,data:= .seq acc' c',slots:= #[]}->ItemsOf (HR kvs prog w) acc' kvs.length->Q (.ref s.heap.objs.size) s'):
  wpAny (aQ prog w) A (call (.type "list") [.ref d]) Q E s:=by
 refine callType_codes (Q₁:=λobj s₁=>obj= .ref s.heap.objs.size/\s₁={s with heap:=s.heap.push {cls:= .type "list",data:= .seq #[]}}) F.called_list (F.typeCall_list_1 _) F.entry_list_init
  (code_list_new _ ⟨rfl,rfl⟩) λobj s₁ h₁=> ?_
 obtain⟨rfl,rfl⟩:=h₁
 have hS:(s.heap.push {cls:= .type "list",data:= .seq #[]}).get? s.heap.objs.size=some {cls:= .type "list",data:= .seq #[]}:=aJ _ rfl
 have hdl:d<s.heap.objs.size:=by obtain⟨o,es,ho,_⟩:=hm;exact aC ho
 have hne:s.heap.objs.size≠d:=i6 hdl
 have hm1:(s.heap.push {cls:= .type "list",data:= .seq #[]}).DictAt (L2.mixKind prog w) d kvs ep:=hm.at' λo e=>ak _ e
 refine⟨⟨_,hS,rfl⟩,F.args_list_init_2 _ _,?_⟩
 show wpAny _ _ (do let old <-cb.List.listItems (.ref s.heap.objs.size);cb.List.listUpdate (.ref s.heap.objs.size) (λ_=> #[]);letGo old.toList.reverse;eZ (.ref s.heap.objs.size) (.ref d) .none) _ _ _
 refine aa ?_
 unfold cb.List.listItems
 refine aa (dN hS rfl (aA ?_))
 show wpAny _ _ (updateSeq s.heap.objs.size (λ_=> #[])>>=λ_=>letGo (#[]:Array ae).toList.reverse>>=λ_=>eZ (.ref s.heap.objs.size) (.ref d) .none) _ _ _
 refine aa (nw hS rfl ?_)
 have hS₂:=fK (eS (λ_=>(#[]:Array ae))) hS rfl
 have oth:∀b o,b≠s.heap.objs.size->(s.heap.push {cls:= .type "list",data:= .seq #[]}).get? b=some o->((s.heap.push {cls:= .type "list",data:= .seq #[]}).update s.heap.objs.size (eS (λ_=>(#[]:Array ae)))).get? b=some o:=
  λb o hb e=>(cj _ _ (aG hb)).trans e
 refine aa (wpAny_letGo ?_)
 have hm2:=hm1.at' λo e=>oth d o (aG hne) e
 refine ma (A:=A.in1) (by simp[hh]) hd hm2 _ hne .none _ hS₂ hn λs' acc' c' hk g o hS' hacc=> ?_
 exact⟨rfl,hQ s' acc' c' (λb o e=>hk b o (aU (aC e)) (oth b o (aU (aC e)) (ak _ e))) g o hS' hacc⟩
end
end PySem
namespace L3
open PySem L2
noncomputable def qI:C2:=λps G Q=>match ps with
 |[.ref a]=>match jZ G a with
  |some kvs=>∀c,G c=none->Q (.ref c) (up G c (.lst (kvs.map λkv=>kP kv.1)))
  |none=>False
 |_=>False
theorem zr{a:Addr}{G:Gp}{kvs:List (Key×PV)}{Q:K2}(h:jZ G a=some kvs)(q:∀c,G c=none->Q (.ref c) (up G c (.lst (kvs.map λkv=>kP kv.1)))):qI [.ref a] G Q:=by
 unfold qI;simp only[h];exact q
theorem Dl{K:PySem.W.Frag}{H:Hp}:∀(ks:List Key),Dvs K H (ks.map kP) (ks.map kV)
 |[]=>rfl
 |k::ks=>⟨_,_,rfl,Mn k,Dl ks⟩
theorem GV{X:Cx}(hc:X.calm=true):gx X (.type "list") (pc X.K qI):=by
 intro pins s σ H xs us Q I rs h
 obtain⟨ps,G,Q2,d,rp,h,cl⟩:=h
 unfold qI at h
 split at h
 ·rename_i a
  split at h
  ·rename_i kvs ea
   obtain⟨v,rfl,dv⟩:=fk d
   obtain rfl:v= .ref a:=dv
   obtain⟨u,rfl,ru⟩:=rs.one
   obtain rfl:u=aB a:=ru
   obtain⟨vs,hv,dk⟩:=rp.dR ea
   obtain⟨z,hd,ws,kv,dd⟩:=oQ I.hok hv
   obtain⟨ep,da⟩:=dd.dictAt
   have hl:=kv.length
   have hl2:=dk.length
   refine rf (I.ok.hd hc) hd da (by ac_nf) λs' acc c hk g o hS hacc=> ?_
   have hn:s.heap.get? s.heap.objs.size=none:=by
    cases e:s.heap.get? s.heap.objs.size with
    |none=>rfl
    |some o=>exact absurd (aC e) (cU _)
   have hHl:H s.heap.objs.size=none:=I.hok.none_of hn
   obtain⟨hp',g',d',t',o'⟩:=s'
   obtain rfl:g'=s.gens:=g
   obtain rfl:o'=s.os:=o
   have e1:(kvs.map λkv=>kP kv.1)=(vs.map (·.1)).map kP:=by rw[<-xT dk,bT];rfl
   refine⟨.ref s.heap.objs.size,upd H s.heap.objs.size (.lst ((vs.map (·.1)).map kV)),I.call (ch:=[]) (Un.laidN hk hn hHl) (I.hok.laidN hk hHl ?_) I.bare (λb z=>absurd z (by simp)),rfl,cl _ _ _ _ (h _ (rp.none hHl)) rfl ?_ (bE hHl)⟩
   ·refine⟨by simp;ac_nf,acc.toList,c,yi ?_ λi x u hx hu=> ?_,by simpa using hS⟩
    ·rw[gj,ap,ap]
     have:=hacc.1
     ac_nf
    ·obtain⟨k,x',hkx,hkv⟩:=hacc.2 i u (by rw[<-Array.getElem?_toList];exact hu)
     have e3:(ws.map (·.1))[i]? =some k:=by rw[aF,hkx];rfl
     rw[<-kv.keys]at e3
     rw[aF,e3]at hx
     cases hx
     exact Dm hkv
   ·rw[e1]
    exact rp.new hHl (Dl _)
  ·exact h.elim
 ·exact h.elim
theorem Dw{X:Cx}{e:Expr}{es:List Expr}{t:A2}{p pos:Pos}(B:BN X.mg)(hc:X.calm=true)(ha:JA X (e::es) t)(hg:Gl X "list" :=by rfl)(he:aq (e::es) X.env=(false,eval e X.env)::aq es X.env:=by rfl)(hpl:(bB pos (aq es X.env)).any (·.1)=false:=by rfl):
  JE X (.Call (.Name "list" p) (e::es) [] pos) (v8 qI t):=qO (GV hc) B.list oB ha hg (by decide) (by decide) he hpl
structure rB(K:PySem.W.Frag)(C:Addr)(f:Str):Prop where
 c:Cls K C
 n:NoAttr K C f
theorem Km{X:Cx}{C:Addr}{e:Expr}{f:Str}{t:E2}{pos:Pos}(h:rB X.K C f)(he:JE X e t)(hb:cg e f X.env (eval e X.env)=eval e X.env:=by rfl):JE X (.Attribute e f pos) (Nu C t f):=HE h.c h.n he hb
theorem zU{prog:aI}{w:aY}{A:Around}{E:ae->ai->Prop}{s:ai}{z TI TO i1 i2 l1 l2:Addr}{k:Nat}{xs ys:Array ae}{c1 c2:ae}{a b:ae}{Q:ae->ai->Prop}
  (d:[z,TI,TO,i1,i2].Nodup) (hz:IsZip s.heap z TI TO .none) (hTI:dY s.heap TI (.ref i1) (.ref i2)) (hTO:dY s.heap TO a b)
  (h1:s.heap.IsTupleIter i1 l1 k) (h2:s.heap.IsListIter i2 l2 k) (t1:s.heap.IsTuple l1 xs) (t2:s.heap.IsList l2 ys) (n1:l1∉[z,TI,TO,i1,i2]) (n2:l2∉[z,TI,TO,i1,i2]) (hx:xs[k]? =some c1) (hy:ys[k]? =some c2)
  (hQ:∀h':Heap,IsZip h' z TI TO (rawInt ↑s.heap.objs.size)->(∃a b,dY h' TO a b)->h'.IsTupleIter i1 l1 (k+1)->h'.IsListIter i2 l2 (k+1)->
   dY h' s.heap.objs.size c1 c2->h'.objs.size=s.heap.objs.size+1->
   (∀c o,c≠z->c≠TO->c≠i1->c≠i2->s.heap.get? c=some o->h'.get? c=some o)->Q (.ref s.heap.objs.size) {s with heap:=h'}):
  wpAny (aQ prog w) A (cb.«zip.__next__» {pos:=[.ref z]}) (λfin s'=>∃v,fin=Fin.done (Flow.ret v)/\Q v s') E s:=by
 simp only[bu,aD,bi,or_false,not_or]at d n1 n2
 obtain⟨⟨zTI,zTO,z1,z2⟩,⟨TITO,TI1,rC⟩,⟨TO1,TO2⟩,i12,_⟩:=d
 obtain⟨lz1,_,lO1,l11,l12⟩:=n1
 obtain⟨lz2,_,lO2,l21,l22⟩:=n2
 refine aa (show wpAny _ _ (pure (aB z,([]:List ae))) _ _ _ from aA ?_)
 refine aa (bw hz rfl rfl ?_)
 refine aa (bw hz rfl rfl ?_)
 refine aa (dN hTI rfl ?_)
 refine aa (aa (bw hz rfl rfl (aA ?_)))
 simp only[if_true]
 refine aa (wpAny_rule (aa (bw hz rfl rfl ?_)))
 refine aa (eF hz (by simp) λh₁ hz₁ hs₁=> ?_)
 have hz1:IsZip h₁ z TI TO .ellipsis:=hz₁
 refine aa ?_
 simp only[List.zipIdx_cons,List.zipIdx_nil,lf,List.forIn_nil]
 refine aa (aa (kS ?_))
 change wpAny _ _ (bind (bC (aB i1)) λx=>pure (some x)) _ _ _
 refine aa (iS (h1.extBut hs₁.extBut (aG z1)) (t1.extBut hs₁.extBut lz1) hx λh₂ j2 sb2=>aA ?_)
 have hTO2:dY h₂ TO a b:=sb2.extBut _ _ TO1 (hs₁.extBut _ _ (aG zTO) hTO)
 refine aa (dN hTO2 rfl (aa (o5 hTO2 λh₃ p3 sb3=>aa (wpAny_letGo (aA ?_)))))
 refine aa (aa (kS ?_))
 change wpAny _ _ (bind (bC (aB i2)) λx=>pure (some x)) _ _ _
 have k2:h₃.IsListIter i2 l2 k:=((h2.extBut hs₁.extBut (aG z2)).extBut sb2.extBut (aG i12)).extBut sb3.extBut (aG TO2)
 have t2':h₃.IsList l2 ys:=((t2.extBut hs₁.extBut lz2).extBut sb2.extBut l21).extBut sb3.extBut lO2
 refine aa (wpAny_nextOf_list_item k2 t2' hy λh₄ j4 sb4=>aA ?_)
 have hTO4:dY h₄ TO c1 b:=sb4.extBut _ _ TO2 p3
 refine aa (dN hTO4 rfl (aa (o5 hTO4 λh₅ p5 sb5=>aa (wpAny_letGo (aA (aA ?_))))))
 have hTO5:dY h₅ TO c1 c2:=p5
 refine aa (dN hTO5 rfl (aa (wpAny_newTuple ?_)))
 have sz5:h₅.objs.size=s.heap.objs.size:=by rw[sb5.1,sb4.1,sb3.1,sb2.1,hs₁.1]
 have hz5:IsZip h₅ z TI TO .ellipsis:=sb5.extBut _ _ zTO (sb4.extBut _ _ z2 (sb3.extBut _ _ zTO (sb2.extBut _ _ z1 hz1)))
 rw[sz5]
 have zl:z<s.heap.objs.size:=aC hz
 refine aa (aa (eF (s:={s with heap:=h₅.push _}) (ak _ hz5) (by simp) λh₆ hz6 sb6=> ?_))
 refine eF hz6 (by simp) λh₇ hz7 sb7=>aA ⟨_,rfl,?_⟩
 have up:∀c o,c≠z->h₅.get? c=some o->h₇.get? c=some o:=λc o n e=>sb7.extBut _ _ n (sb6.extBut _ _ n (ak _ e))
 have j1:h₅.IsTupleIter i1 l1 (k+1):=((j2.extBut sb3.extBut (aG TO1)).extBut sb4.extBut i12).extBut sb5.extBut (aG TO1)
 have j2':h₅.IsListIter i2 l2 (k+1):=j4.extBut sb5.extBut (aG TO2)
 refine hQ h₇ hz7 ⟨_,_,up _ _ (aG zTO) hTO5⟩ (j1.extBut (λc o n e=>up c o n e) (aG z1)) (j2'.extBut (λc o n e=>up c o n e) (aG z2)) ?_ ?_ ?_
 ·refine sb7.extBut _ _ (i6 zl) (sb6.extBut _ _ (i6 zl) ?_)
  rw[<-sz5]
  exact aJ _ rfl
 ·rw[sb7.1,sb6.1,cW,sz5]
 ·intro c o n1 n2 n3 n4 e
  exact up c o n1 (sb5.extBut _ _ n2 (sb4.extBut _ _ n4 (sb3.extBut _ _ n2 (sb2.extBut _ _ n3 (hs₁.extBut _ _ n1 e)))))
theorem rK{prog:aI}{w:aY}{A:Around}{E:ae->ai->Prop}{s:ai}{z TI TO i1 i2 l1 l2:Addr}{k:Nat}{xs ys:Array ae}{c1 c2:ae}{a b:ae}{Q:Option ae->ai->Prop}
  (d:[z,TI,TO,i1,i2].Nodup) (hz:IsZip s.heap z TI TO .none) (hTI:dY s.heap TI (.ref i1) (.ref i2)) (hTO:dY s.heap TO a b)
  (h1:s.heap.IsTupleIter i1 l1 k) (h2:s.heap.IsListIter i2 l2 k) (t1:s.heap.IsTuple l1 xs) (t2:s.heap.IsList l2 ys) (n1:l1∉[z,TI,TO,i1,i2]) (n2:l2∉[z,TI,TO,i1,i2]) (hx:xs[k]? =some c1) (hy:ys[k]? =some c2)
  (hQ:∀h':Heap,IsZip h' z TI TO (rawInt ↑s.heap.objs.size)->(∃a b,dY h' TO a b)->h'.IsTupleIter i1 l1 (k+1)->h'.IsListIter i2 l2 (k+1)->
   dY h' s.heap.objs.size c1 c2->h'.objs.size=s.heap.objs.size+1->
   (∀c o,c≠z->c≠TO->c≠i1->c≠i2->s.heap.get? c=some o->h'.get? c=some o)->Q (some (.ref s.heap.objs.size)) {s with heap:=h'}):
  wpAny (aQ prog w) A (pyNext (.ref z)) Q E s:=by
 have hT:s.TypeIs (.ref z) "zip" :=⟨_,hz,rfl⟩
 exact aa (kU (cS hT gR (eB gR hT F.entry_zip_next
  (zU d hz hTI hTO h1 h2 t1 t2 n1 n2 hx hy λh' a1 a2 a3 a4 a5 a6 a7=>aA (hQ h' a1 a2 a3 a4 a5 a6 a7)) (rN (aB z)))))
theorem Bm(l1 l2:Addr):
  Meets (cb.«zip.__new__» {pos:=[.type "zip",.ref l1,.ref l2]}) λA R s=>
   (∃xs ys,s.heap.IsTuple l1 xs/\s.heap.IsList l2 ys)/\
   ∀h':Heap,IsZip h' (s.heap.objs.size+4) (s.heap.objs.size+2) (s.heap.objs.size+3) .none->dY h' (s.heap.objs.size+2) (.ref s.heap.objs.size) (.ref (s.heap.objs.size+1))->dY h' (s.heap.objs.size+3) .none .none->
    h'.IsTupleIter s.heap.objs.size l1 0->h'.IsListIter (s.heap.objs.size+1) l2 0->h'.objs.size=s.heap.objs.size+5->(∀c o,s.heap.get? c=some o->h'.get? c=some o)->
    R (.ok (.ret (.ref (s.heap.objs.size+4)))) {s with heap:=h'}:=by
 refine Meets.of_wp λprog w A R s h=> ?_
 obtain⟨⟨xs,ys,t1,t2⟩,h⟩:=h
 refine aa (aa (show wpAny _ _ (pure _) _ _ _ from aA ?_))
 refine wpAny_ite_false rfl (aa (wpAny_of_eq sub_zip (wpAny_ite_false rfl (aA (wpAny_ite_false rfl ?_)))))
 refine aa (aa ?_)
 refine aa (aa (dH (wpAny_pyIter_tuple t1 (aA ?_))))
 refine aa (aa (dH (sX (t2.push _) (aA ?_))))
 refine aA (aA ?_)
 refine aa (wpAny_newTuple ?_ (show 2<=aK by decide))
 refine aa (wpAny_newTuple ?_ (show 2<=aK by decide))
 refine aa (Jt ?_ (show 5<=aK+2 by decide))
 have z1:=cW s.heap {cls:=bv "tuple_iterator",data:=cZ #[aB l1,dB 0 0]}
 generalize e1:s.heap.push {cls:=bv "tuple_iterator",data:=cZ #[aB l1,dB 0 0]}=g1 at*
 have z2:=cW g1 {cls:=bv "list_iterator",data:=cZ #[aB l2,dB 0 0]}
 have p1:g1.get? s.heap.objs.size=some {cls:=bv "tuple_iterator",data:=cZ #[aB l1,dB 0 0]}:=by rw[<-e1];exact aJ _ rfl
 have q1:∀c o,s.heap.get? c=some o->g1.get? c=some o:=λc o q=>by rw[<-e1];exact ak _ q
 have p2:=aJ g1 (o:={cls:=bv "list_iterator",data:=cZ #[aB l2,dB 0 0]}) rfl
 have q2:∀c o,g1.get? c=some o->(g1.push {cls:=bv "list_iterator",data:=cZ #[aB l2,dB 0 0]}).get? c=some o:=λc o q=>ak _ q
 generalize g1.push {cls:=bv "list_iterator",data:=cZ #[aB l2,dB 0 0]}=g2 at*
 rw[z1]at z2 p2
 refine aA ⟨_,rfl,?_⟩
 have z3:=cW g2 {cls:=bv "tuple",data:=eM #[aB s.heap.objs.size,aB g1.objs.size]}
 have p3:=aJ g2 (o:={cls:=bv "tuple",data:=eM #[aB s.heap.objs.size,aB g1.objs.size]}) rfl
 have q3:∀c o,g2.get? c=some o->(g2.push {cls:=bv "tuple",data:=eM #[aB s.heap.objs.size,aB g1.objs.size]}).get? c=some o:=λc o q=>ak _ q
 show R (Except.ok (Flow.ret (aB ((g2.push {cls:=bv "tuple",data:=eM #[aB s.heap.objs.size,aB g1.objs.size]}).push {cls:=bv "tuple",data:=eM #[bn,bn]}).objs.size))) {s with heap:=(((g2.push {cls:=bv "tuple",data:=eM #[aB s.heap.objs.size,aB g1.objs.size]}).push {cls:=bv "tuple",data:=eM #[bn,bn]}).push {cls:=bv "zip",data:=cZ #[bn,eP false,eP false,aB g2.objs.size,aB (g2.push {cls:=bv "tuple",data:=eM #[aB s.heap.objs.size,aB g1.objs.size]}).objs.size]})}
 generalize g2.push {cls:=bv "tuple",data:=eM #[aB s.heap.objs.size,aB g1.objs.size]}=g3 at*
 have z4:=cW g3 {cls:=bv "tuple",data:=eM #[bn,bn]}
 have p4:=aJ g3 (o:={cls:=bv "tuple",data:=eM #[bn,bn]}) rfl
 have q4:∀c o,g3.get? c=some o->(g3.push {cls:=bv "tuple",data:=eM #[bn,bn]}).get? c=some o:=λc o q=>ak _ q
 generalize g3.push {cls:=bv "tuple",data:=eM #[bn,bn]}=g4 at*
 have s2:g2.objs.size=s.heap.objs.size+2:=z2
 have s3:g3.objs.size=s.heap.objs.size+3:=by rw[z3,s2]
 have s4:g4.objs.size=s.heap.objs.size+4:=by rw[z4,s3]
 rw[s2,s3,s4]
 have z5:=cW g4 {cls:=bv "zip",data:=cZ #[bn,eP false,eP false,aB (s.heap.objs.size+2),aB (s.heap.objs.size+3)]}
 have p5:=aJ g4 (o:={cls:=bv "zip",data:=cZ #[bn,eP false,eP false,aB (s.heap.objs.size+2),aB (s.heap.objs.size+3)]}) rfl
 have q5:∀c o,g4.get? c=some o->(g4.push {cls:=bv "zip",data:=cZ #[bn,eP false,eP false,aB (s.heap.objs.size+2),aB (s.heap.objs.size+3)]}).get? c=some o:=λc o q=>ak _ q
 rw[s4]at z5 p5
 rw[s3]at p4
 rw[s2,z1]at p3
 exact h _ p5 (q5 _ _ (q4 _ _ p3)) (q5 _ _ p4) ⟨_,q5 _ _ (q4 _ _ (q3 _ _ (q2 _ _ p1))),rfl,rfl⟩ ⟨_,q5 _ _ (q4 _ _ (q3 _ _ p2)),rfl,rfl⟩ z5 λc o q=>q5 _ _ (q4 _ _ (q3 _ _ (q2 _ _ (q1 _ _ q))))
theorem A6{prog:aI}{w:aY}{A:Around}{E:ae->ai->Prop}{s:ai}{l1 l2:Addr}{xs ys:Array ae}{Q:ae->ai->Prop}(t1:s.heap.IsTuple l1 xs)(t2:s.heap.IsList l2 ys)
  (h:∀h':Heap,IsZip h' (s.heap.objs.size+4) (s.heap.objs.size+2) (s.heap.objs.size+3) .none->dY h' (s.heap.objs.size+2) (.ref s.heap.objs.size) (.ref (s.heap.objs.size+1))->dY h' (s.heap.objs.size+3) .none .none->
    h'.IsTupleIter s.heap.objs.size l1 0->h'.IsListIter (s.heap.objs.size+1) l2 0->h'.objs.size=s.heap.objs.size+5->(∀c o,s.heap.get? c=some o->h'.get? c=some o)->
    Q (.ref (s.heap.objs.size+4)) {s with heap:=h'}):
  wpAny (aQ prog w) A (call (.type "zip") [.ref l1,.ref l2]) Q E s:=
 callType_new F.called_zip (by decide) (F.typeCall_zip_2 _ _) (F.newCall_zip_2 _ _) (λobj=>F.args_object_init_3 obj _ _) F.entry_zip_new (Bm l1 l2)
  ⟨⟨xs,ys,t1,t2⟩,λh' a1 a2 a3 a4 a5 a6 a7=>⟨⟨_,a1,rfl⟩,h h' a1 a2 a3 a4 a5 a6 a7⟩⟩
theorem Bn{prog:aI}{w:aY}{A:Around}{E:ae->ai->Prop}{s:ai}{z TI TO i1 i2 l1 l2:Addr}{k:Nat}{xs ys:Array ae}{c1:ae}{a b:ae}{Q:Fin->ai->Prop}
  (hh:A.handled=none) (d:[z,TI,TO,i1,i2].Nodup) (hz:IsZip s.heap z TI TO .none) (hTI:dY s.heap TI (.ref i1) (.ref i2)) (hTO:dY s.heap TO a b)
  (h1:s.heap.IsTupleIter i1 l1 k) (h2:s.heap.IsListIter i2 l2 k) (t1:s.heap.IsTuple l1 xs) (t2:s.heap.IsList l2 ys) (n1:l1∉[z,TI,TO,i1,i2]) (n2:l2∉[z,TI,TO,i1,i2]) (hx:xs[k]? =some c1) (hy:ys[k]? =none)
  (hE:∀(h':Heap) (e:Addr),(∀c o,c≠z->c≠TO->c≠i1->c≠i2->s.heap.get? c=some o->h'.get? c=some o)->(∃o,h'.get? e=some o/\o.cls= .type "StopIteration")->E (.ref e) {s with heap:=h'}):
  wpAny (aQ prog w) A (cb.«zip.__next__» {pos:=[.ref z]}) Q E s:=by
 simp only[bu,aD,bi,or_false,not_or]at d n1 n2
 obtain⟨⟨zTI,zTO,z1,z2⟩,⟨TITO,TI1,rC⟩,⟨TO1,TO2⟩,i12,_⟩:=d
 obtain⟨lz1,_,lO1,l11,l12⟩:=n1
 obtain⟨lz2,_,lO2,l21,l22⟩:=n2
 refine aa (show wpAny _ _ (pure (aB z,([]:List ae))) _ _ _ from aA ?_)
 refine aa (bw hz rfl rfl ?_)
 refine aa (bw hz rfl rfl ?_)
 refine aa (dN hTI rfl ?_)
 refine aa (aa (bw hz rfl rfl (aA ?_)))
 simp only[if_true]
 refine aa (wpAny_rule (aa (bw hz rfl rfl ?_)))
 refine aa (eF hz (by simp) λh₁ hz₁ hs₁=> ?_)
 have hz1:IsZip h₁ z TI TO .ellipsis:=hz₁
 refine aa ?_
 simp only[List.zipIdx_cons,List.zipIdx_nil,lf,List.forIn_nil]
 refine aa (aa (kS ?_))
 change wpAny _ _ (bind (bC (aB i1)) λx=>pure (some x)) _ _ _
 refine aa (iS (h1.extBut hs₁.extBut (aG z1)) (t1.extBut hs₁.extBut lz1) hx λh₂ j2 sb2=>aA ?_)
 have hTO2:dY h₂ TO a b:=sb2.extBut _ _ TO1 (hs₁.extBut _ _ (aG zTO) hTO)
 refine aa (dN hTO2 rfl (aa (o5 hTO2 λh₃ p3 sb3=>aa (wpAny_letGo (aA ?_)))))
 refine aa (aa (kS ?_))
 change wpAny _ _ (bind (bC (aB i2)) λx=>pure (some x)) _ _ _
 have k2:h₃.IsListIter i2 l2 k:=((h2.extBut hs₁.extBut (aG z2)).extBut sb2.extBut (aG i12)).extBut sb3.extBut (aG TO2)
 have t2':h₃.IsList l2 ys:=((t2.extBut hs₁.extBut lz2).extBut sb2.extBut l21).extBut sb3.extBut lO2
 refine aa (wpAny_nextOf_list_end hh k2 t2' hy λh₄ e sb4 he=> ?_)
 have hz4:IsZip h₄ z TI TO .ellipsis:=sb4 _ _ z2 (sb3.extBut _ _ zTO (sb2.extBut _ _ z1 hz1))
 obtain⟨o,ho,hc⟩:=he
 refine eF hz4 (by simp) λh₅ hz5 sb5=>hE h₅ e (λc u n1 n2 n3 n4 q=> ?_) ⟨o,sb5.extBut _ _ (λq=> ?_) ho,hc⟩
 ·exact sb5.extBut _ _ n1 (sb4 _ _ n4 (sb3.extBut _ _ n2 (sb2.extBut _ _ n3 (hs₁.extBut _ _ n1 q))))
 ·subst q
  rw[show h₄.get? e=_ from hz4]at ho
  cases ho
  exact absurd (bv.inj hc) (by decide)
theorem tQ{prog:aI}{w:aY}{A:Around}{E:ae->ai->Prop}{s:ai}{z TI TO i1 i2 l1 l2:Addr}{k:Nat}{xs ys:Array ae}{c1:ae}{a b:ae}{Q:Option ae->ai->Prop}
  (hh:A.handled=none) (d:[z,TI,TO,i1,i2].Nodup) (hz:IsZip s.heap z TI TO .none) (hTI:dY s.heap TI (.ref i1) (.ref i2)) (hTO:dY s.heap TO a b)
  (h1:s.heap.IsTupleIter i1 l1 k) (h2:s.heap.IsListIter i2 l2 k) (t1:s.heap.IsTuple l1 xs) (t2:s.heap.IsList l2 ys) (n1:l1∉[z,TI,TO,i1,i2]) (n2:l2∉[z,TI,TO,i1,i2]) (hx:xs[k]? =some c1) (hy:ys[k]? =none)
  (hQ:∀h':Heap,(∀c o,c≠z->c≠TO->c≠i1->c≠i2->s.heap.get? c=some o->h'.get? c=some o)->Q none {s with heap:=h'}):
  wpAny (aQ prog w) A (pyNext (.ref z)) Q E s:=by
 have hT:s.TypeIs (.ref z) "zip" :=⟨_,hz,rfl⟩
 exact aa (kU (cS hT gR (eB gR hT F.entry_zip_next
  (Bn hh d hz hTI hTO h1 h2 t1 t2 n1 n2 hx hy λh' e hk ⟨o,ho,hc⟩=>aa (wpAny_isInstance ⟨o,ho,hc⟩ isSubtype_stop (aA (hQ h' hk)))) (rN (aB z)))))
noncomputable def La(K:PySem.W.Frag)(a1 a2:Addr):It:=
 ⟨λi H=>∃xs ys x y,SqT K H a1 xs/\SqL K H a2 ys/\xs[i]? =some x/\ys[i]? =some y,
  λi H v H'=>∃p,H p=none/\v= .ref p/\∀xs ys,SqT K H a1 xs->SqL K H a2 ys->∃x y,xs[i]? =some x/\ys[i]? =some y/\H'=upd H p (.tup [x,y]),
  λi H=>∃xs ys,SqT K H a1 xs/\SqL K H a2 ys/\(xs.length<=i\/ys.length<=i)⟩
theorem zX{P:aI}{w:aY}{K:PySem.W.Frag}{elts:List Expr}{x1:Nat}{pos:Pos}{a1 a2:Addr}{z TI TO i1 i2:Addr}(d:[z,TI,TO,i1,i2].Nodup)(n1:a1∉[z,TI,TO,i1,i2])(n2:a2∉[z,TI,TO,i1,i2]):
  rM P w K (.Tuple elts x1 pos) (La K a1 a2) [z,TI,TO,i1,i2] z (λi h=>IsZip h z TI TO .none/\dY h TI (.ref i1) (.ref i2)/\(∃a b,dY h TO a b)/\h.IsTupleIter i1 a1 i/\h.IsListIter i2 a2 i) where
 mem:=by simp
 obj:=λi h st b hb=>by
  obtain⟨hz,hTI,⟨a,c,hTO⟩,⟨o1,e1,_,d1⟩,⟨o2,e2,_,d2⟩⟩:=st
  have hb':b=z\/b=TI\/b=TO\/b=i1\/b=i2:=by simpa using hb
  rcases hb' with rfl|rfl|rfl|rfl|rfl
  ·exact⟨_,hz,λv q=>by cases (show cZ _=Data.cell v from q)⟩
  ·exact⟨_,hTI,λv q=>by cases (show eM _ _=Data.cell v from q)⟩
  ·exact⟨_,hTO,λv q=>by cases (show eM _ _=Data.cell v from q)⟩
  ·exact⟨o1,e1,λv q=>by rw[d1]at q;cases q⟩
  ·exact⟨o2,e2,λv q=>by rw[d2]at q;cases q⟩
 keep:=λi h h' st k=>by
  obtain⟨hz,hTI,⟨a,c,hTO⟩,⟨o1,e1,c1,d1⟩,⟨o2,e2,c2,d2⟩⟩:=st
  exact⟨k z (by simp) _ hz,k TI (by simp) _ hTI,⟨a,c,k TO (by simp) _ hTO⟩,⟨o1,k i1 (by simp) o1 e1,c1,d1⟩,⟨o2,k i2 (by simp) o2 e2,c2,d2⟩⟩
 item:=by
  intro X hP hw hK hc i pins s σ H E I hf st hg
  subst hP hw hK
  obtain⟨hz,hTI,⟨a,b,hTO⟩,h1,h2⟩:=st
  obtain⟨xs,ys,x,y,sq1,sq2,hx,hy⟩:=hg
  obtain⟨us1,rv1,p1,_⟩:=I.tuple sq1
  obtain⟨us2,rv2,p2,_⟩:=I.list sq2
  obtain⟨u,hu,ru⟩:=rv1.get hx
  obtain⟨v,hv,rv⟩:=rv2.get hy
  have lts:∀b∈[z,TI,TO,i1,i2],b<s.heap.objs.size:=λb hb=>by
   have hb':b=z\/b=TI\/b=TO\/b=i1\/b=i2:=by simpa using hb
   rcases hb' with rfl|rfl|rfl|rfl|rfl
   ·exact aC hz
   ·exact aC hTI
   ·exact aC hTO
   ·obtain⟨o,e,_⟩:=h1;exact aC e
   ·obtain⟨o,e,_⟩:=h2;exact aC e
  refine rK d hz hTI hTO h1 h2 (show s.heap.IsTuple a1 us1.toArray from p1) p2.isList n1 n2 (c1:=u) (c2:=v) (by simpa using hu) (by simpa using hv) λg1 gz gTO gi1 gi2 gT gsz gk=> ?_
  refine⟨_,rfl,wpAny_letOwnedTupleGo_zip gz λg2 hz2 hs2=> ?_⟩
  replace hs2:dW z g1 g2:=hs2
  have hpn:H s.heap.objs.size=none:=I.hok.fresh (av _)
  have k2:∀b o,b∉[z,TI,TO,i1,i2]->s.heap.get? b=some o->g2.get? b=some o:=λb o n q=>by
   simp only[aD,bi,or_false,not_or]at n
   exact hs2.extBut b o n.1 (gk b o n.1 n.2.2.1 n.2.2.2.1 n.2.2.2.2 q)
  have hTI2:dY g2 TI (.ref i1) (.ref i2):=by
   simp only[bu,aD,bi,or_false,not_or]at d
   exact hs2.extBut _ _ (aG d.1.1) (gk _ _ (aG d.1.1) d.2.1.1 d.2.1.2.1 d.2.1.2.2 hTI)
  have ht2:g2.get? s.heap.objs.size=some {cls:= .type "tuple",data:= .seq #[u,v]}:=hs2.extBut _ _ (i6 (lts z (by simp))) gT
  have ne1:∀b o,H b=some o->b∉[z,TI,TO,i1,i2]:=λb o q hb=>by rw[(hf b hb).1]at q;cases q
  have lt:∀b o,s.heap.get? b=some o->b≠s.heap.objs.size:=λb o q=>aU (aC q)
  have hok:HOk X.prog X.w (upd H s.heap.objs.size (.tup [x,y])) g2:=λb o q=>by
   by_cases hb:b=s.heap.objs.size
   ·subst hb
    rw[cr]at q
    cases q
    refine⟨(by show 2<=aK;decide),[u,v],.cons ru (.cons rv .nil),⟨_,ht2,rfl,_,rfl⟩⟩
   ·rw[br hb]at q
    refine(I.hok b o q).stay (λc v hc' z=> ?_) (λc z=>by rw[br (cq z hpn)];exact z) λc xs z=>by rw[br (cq z hpn)];exact z
    refine k2 c v ?_ z
    rcases hc' with rfl|hc'
    ·exact ne1 _ _ q
    ·exact ne1 _ _ hc'
  have un:Un (kH X.stack) [z,TI,TO,i1,i2] H (upd H s.heap.objs.size (.tup [x,y])) s.heap g2:=by
   refine⟨λb o q _ _ hb=>k2 b o hb q,λb o q _ _ hb=>⟨o.slots,k2 b o hb q⟩,λb o q n _=>by rw[br (lt b o q)];exact n,
    λb o q hb=>⟨o,k2 b o hb q⟩,λb xs q=>by rw[br (cq q hpn)];exact q,λb o xs q=>by rw[br (cq q hpn)];exact q,λb ps q=>⟨#[],by rw[br (cq q hpn),q];simp⟩⟩
  have I2:Inv X pins σ (upd H s.heap.objs.size (.tup [x,y])) {s with heap:=g2}:=I.call' (s':={s with heap:=g2}) rfl un hok I.bare λb hb=>by
   have q:=hf b hb
   exact⟨q.2.2.2.1,q.2.1,q.2.2.2.2.1,q.2.2.2.2.2⟩
  obtain⟨a',b',gTO⟩:=gTO
  have d':=d
  simp only[bu,aD,bi,or_false,not_or]at d'
  refine⟨.ref s.heap.objs.size,_,I2,rfl,⟨s.heap.objs.size,hpn,rfl,λxs' ys' h1 h2=>⟨x,y,by rw[I.tuple_inj h1 sq1];exact hx,by rw[I.list_inj h2 sq2];exact hy,rfl⟩⟩,⟨hz2,hTI2,⟨_,_,hs2.extBut _ _ (aG d'.1.2.1) gTO⟩,gi1.extBut hs2.extBut (aG d'.1.2.2.1),gi2.extBut hs2.extBut (aG d'.1.2.2.2)⟩,λb hb=> ?_⟩
  rw[br (aU (lts b hb))]
  exact(hf b hb).1
 done:=by
  intro X hP hw hK hc i pins s σ H E I hf st hg
  subst hP hw hK
  obtain⟨hz,hTI,⟨a,b,hTO⟩,h1,h2⟩:=st
  obtain⟨xs,ys,sq1,sq2,hx⟩:=hg
  obtain⟨us1,rv1,p1,_⟩:=I.tuple sq1
  obtain⟨us2,rv2,p2,_⟩:=I.list sq2
  have hl:=rv1.length
  have hl2:=rv2.length
  have fin:∀g2:Heap,(∀c o,c≠z->c≠TO->c≠i1->c≠i2->s.heap.get? c=some o->g2.get? c=some o)->Inv X pins σ H {s with heap:=g2}:=λg2 gk=>by
   have k2:∀b o,b∉[z,TI,TO,i1,i2]->s.heap.get? b=some o->g2.get? b=some o:=λb o n q=>by
    simp only[aD,bi,or_false,not_or]at n
    exact gk b o n.1 n.2.2.1 n.2.2.2.1 n.2.2.2.2 q
   have ne1:∀b o,H b=some o->b∉[z,TI,TO,i1,i2]:=λb o q hb=>by rw[(hf b hb).1]at q;cases q
   have hok:HOk X.prog X.w H g2:=λb o q=>by
    refine(I.hok b o q).stay (λc v hc' z=> ?_) (λc z=>z) λc xs z=>z
    refine k2 c v ?_ z
    rcases hc' with rfl|hc'
    ·exact ne1 _ _ q
    ·exact ne1 _ _ hc'
   have un:Un (kH X.stack) [z,TI,TO,i1,i2] H H s.heap g2:=by
    refine⟨λb o q _ _ hb=>k2 b o hb q,λb o q _ _ hb=>⟨o.slots,k2 b o hb q⟩,λb o q n _=>n,
     λb o q hb=>⟨o,k2 b o hb q⟩,λb xs q=>q,λb o xs q=>q,λb ps q=>⟨#[],by rw[q];simp⟩⟩
   exact I.call' (s':={s with heap:=g2}) rfl un hok I.bare λb hb=>by
    have q:=hf b hb
    exact⟨q.2.2.2.1,q.2.1,q.2.2.2.2.1,q.2.2.2.2.2⟩
  by_cases hx1:xs.length<=i
  ·exact tP (I.ok.hd hc) d hz hTI hTO h1 (show s.heap.IsTuple a1 us1.toArray from p1) n1 (by simp;ac_nf) λg2 gk=>⟨rfl,fin g2 gk⟩
  ·obtain⟨u,hu,_⟩:=rv1.get (al (show i<xs.length by ac_nf))
   exact tQ (I.ok.hd hc) d hz hTI hTO h1 h2 (show s.heap.IsTuple a1 us1.toArray from p1) p2.isList n1 n2 (c1:=u) (by simpa using hu) (by simp;ac_nf) λg2 gk=>⟨rfl,fin g2 gk⟩
 self:=λ_ _ _ _ _ st h=>wpAny_pyIter_zip st.1 h
noncomputable def Nd(K:PySem.W.Frag)(ta:TA):TI:=λσ H R=>ta σ H λvs H1=>∃a b xs ys,vs=[.ref a,.ref b]/\SqT K H1 a xs/\SqL K H1 b ys/\R (La K a b) H1
theorem Fg{X:Cx}{a b:Expr}{ta:TA}{p pos:Pos}{elts:List Expr}{x1:Nat}{tp:Pos}(hg:Gl X "zip")(hm:X.mg "zip" =none)(ha:PA X [a,b] ta)(hs:aq [a,b] X.env=(false,eval a X.env)::aq [b] X.env:=by rfl)(hpl:((bB pos (aq [b] X.env)).any λx=>x.fst)=false:=by rfl):
  PI X (.Tuple elts x1 tp) (.Call (.Name "zip" p) [a,b] [] pos) (Nd X.K ta):=by
 intro pins s σ H R I h
 refine fL (lI (u:= .type "zip") I hg hm (by decide+kernel) ?_)
 refine dG (dZ (ha pos pins s σ H _ I h) λus s1 hPl=> ?_) hs hpl
 obtain⟨vs,H1,I1,r1,q1⟩:=hPl
 obtain⟨a,b,xs,ys,rfl,sq1,sq2,q⟩:=q1
 obtain⟨u,v,rfl,r,r'⟩:=r1.two
 cases r
 cases r'
 obtain⟨us1,rv1,p1,_⟩:=I1.tuple sq1
 obtain⟨us2,rv2,p2,_⟩:=I1.list sq2
 have l1:a<s1.heap.objs.size:=by obtain⟨o,e,_⟩:=(show s1.heap.IsTuple a us1.toArray from p1);exact aC e
 have l2:b<s1.heap.objs.size:=by obtain⟨o,n,e,_⟩:=p2;exact aC e
 refine A6 (show s1.heap.IsTuple a us1.toArray from p1) p2.isList λh' hz hTI hTO hi1 hi2 hz' hk=> ?_
 refine wpAny_pyIter_zip hz ?_
 have nin:∀c,c<s1.heap.objs.size->c∉[s1.heap.objs.size+4,s1.heap.objs.size+2,s1.heap.objs.size+3,s1.heap.objs.size,s1.heap.objs.size+1]:=λc hc=>by
  simp only[aD,bi,or_false,not_or]
  refine⟨?_,?_,?_,?_,?_⟩<;>exact aU (by ac_nf)
 refine⟨s1.heap.objs.size+4,[s1.heap.objs.size+4,s1.heap.objs.size+2,s1.heap.objs.size+3,s1.heap.objs.size,s1.heap.objs.size+1],_,_,H1,rfl,I1.kept (t':=s1.toks) λb o e=>hk b o e,zX ?_ (nin a l1) (nin b l2),⟨hz,hTI,⟨_,_,hTO⟩,hi1,hi2⟩,λb hb=> ?_,q⟩
 ·exact nd5 s1.heap.objs.size
 ·have hle:s1.heap.objs.size<=b:=by
   have hb':b=s1.heap.objs.size+4\/b=s1.heap.objs.size+2\/b=s1.heap.objs.size+3\/b=s1.heap.objs.size\/b=s1.heap.objs.size+1:=by simpa using hb
   rcases hb' with rfl|rfl|rfl|rfl|rfl<;>first|exact Nat.le_add_right _ _|exact av _
  exact I1.fpOk hle (I1.hok.fresh hle)
theorem Gw{K:PySem.W.Frag}{H1:Hp}{a b:Addr}{us:List V}{xs ys:List PV}(s1:SqT K H1 a us)(d1:Dvs K H1 xs us):wx K H1 (La K a b) (iZ xs ys) (λG=>lk G b=some ys):=λi H G k r c=>by
 have q1:=k.1 _ _ s1
 have e1:=d1.keep k
 obtain⟨vs,q2,e2⟩:=fP r c
 have hpl:=lD (xs:=xs) (ys:=ys)
 refine⟨λhi=> ?_,λhi=>⟨us,vs,q1,q2,?_⟩,λv H' hi h=> ?_⟩
 ·rw[hpl]at hi
  obtain⟨u,hu,_⟩:=e1.at (al (show i<xs.length by ac_nf))
  obtain⟨v,hv,_⟩:=e2.at (al (show i<ys.length by ac_nf))
  exact⟨us,vs,u,v,q1,q2,hu,hv⟩
 ·rw[e1.length,e2.length];ac_nf
 ·obtain⟨p,hp,rfl,h⟩:=h
  obtain⟨u,v,hu,hv,rfl⟩:=h us vs q1 q2
  obtain⟨x,hx,dx⟩:=e1.get hu
  obtain⟨y,hy,dy⟩:=e2.get hv
  have kn:Keep K H (upd H p (.tup [u,v])):=bE hp
  exact⟨.tup [x,y],n6 hx hy,kn,r.tup hp,p,_,rfl,.of cr,.cons (dx.keep kn) (.cons (dy.keep kn) .nil)⟩
noncomputable abbrev OJ(t:A2):rC:=λτ G R=>t τ G λps G1=>∃b xs ys,ps=[.tup xs,.ref b]/\lk G1 b=some ys/\R (iZ xs ys) (λG=>lk G b=some ys) G1
theorem FZ{X:Cx}{a b:Expr}{ta:A2}{p pos tp:Pos}{elts:List Expr}{x1:Nat}(hm:X.mg "zip" =none)(ha:JA X [a,b] ta)(hg:Gl X "zip" :=by rfl)(hs:aq [a,b] X.env=(false,eval a X.env)::aq [b] X.env:=by rfl)(hpl:((bB pos (aq [b] X.env)).any λx=>x.fst)=false:=by rfl):
  JI X (.Tuple elts x1 tp) (.Call (.Name "zip" p) [a,b] [] pos) (OJ ta):= .of (Fg hg hm ha.h hs hpl) λσ H R ⟨τ,G,R2,rs,rp,h,cl⟩=>by
 refine⟨τ,G,_,rs,rp,h,λps G1 vs H1 q d r k=> ?_⟩
 obtain⟨b,xs,ys,rfl,c2,q⟩:=q
 obtain⟨v,vr,rfl,d1,u,vr2,rfl,d2,d3⟩:=d
 obtain rfl:vr2=[]:=d3
 obtain⟨a,us,rfl,s1,e1⟩:=d1
 obtain rfl:u= .ref b:=d2
 obtain⟨ws,q2,e2⟩:=fP r c2
 exact⟨a,b,us,ws,rfl,s1,q2,cl _ _ _ _ _ q r k (Gw s1 e1)⟩
structure Ev(P:aI)(w:aY)(K:PySem.W.Frag)(mg:Str->Option ae)(base:Heap)(n:Str)(C f:Addr)(fd:aW)(k:Nat)(ps:List Str)(sp:im):Prop where
 c:Mk K C f
 ok:iz P w K mg base k f fd ps sp
 b:Binds K fd ps []
 g:mg n=some (.ref C)
theorem pJ{X:Cx}{C f':Addr}{fd:aW}{k k':Nat}{ps:List Str}{x:Str}{e:Expr}{es:List Expr}{t:A2}{p pos:Pos}{sp:im}(M:Ev X.prog X.w X.K X.mg X.base x C f' fd k ps sp)(hr:Room k' X.A)(hk:k+1<=k')(ha:JA X (e::es) t)(hg:Gl X x:=by rfl)
  (hdb:(x==("__debug__" :Str))=false:=by decide) (he:aq (e::es) X.env=(false,eval e X.env)::aq es X.env:=by rfl) (hpl:(bB pos (aq es X.env)).any (·.1)=false:=by rfl):
  JE X (.Call (.Name x p) (e::es) [] pos) (HN C sp t):=Dz M.c M.ok M.b hr hk M.g ha hg hdb he hpl
theorem Ga{X:Cx}{K:PySem.W.Frag}{D:Addr}{e:Expr}{es:List Expr}{t:A2}{p pos:Pos}(xk:rP K D)(hK:X.K=K)(B:BN X.mg)(ha:JA X (e::es) t)(hg:Gl X "isinstance" :=by rfl)(he:aq (e::es) X.env=(false,eval e X.env)::aq es X.env:=by rfl)(hpl:(bB pos (aq es X.env)).any (·.1)=false:=by rfl):JE X (.Call (.Name "isinstance" p) (e::es) [] pos) (v8 (AS K) t):=by
 subst hK
 exact Dx B ha hg he hpl
theorem xI{X:Cx}{C:Addr}{o value:Expr}{f:Str}{ta tv:E2}{pos tpos:Pos}(h:rB X.K C f)(ha:JE X o ta)(hv:JE X value tv):
  JS X (.AugAssign (.Attribute o f tpos) .Add value pos) (vj C ta tv f):=sx h.c h.n ha hv
theorem Et{T:List Nat}{f:Nat->List (Tr×Nat)}(h:∀e x,x∈f e->T.take e++tz x.1=T.take x.2):∀(n e:Nat) x,x∈xX f n e->T.take e++iI (gy x.1)=T.take x.2
 |0,e,x,hx=>by cases au.mp hx;exact bz _
 |n+1,e,x,hx=>by
  rcases aR.mp hx with hx|hx
  ·obtain⟨t,ht,hx⟩:=bp.mp hx
   obtain⟨u,hu,rfl⟩:=ay.mp hx
   rw[qb,<-cH,h e t ht]
   exact Et h n t.2 u hu
  ·cases au.mp hx;exact bz _
theorem tu(t:Tr):iI (gy [t])=tz t:=by rw[qb];exact bz _
mutual
theorem ju(T:List Nat):∀(p:Pt) (e:Nat) x,x∈bo T p e->T.take e++tz x.1=T.take x.2
 | .none,e,x,h=>by simp[bo]at h
 | .blank,e,x,h=>by
  simp only[bo,au]at h
  rw[h]
  exact bz _
 | .sign s,e,x,h=>by
  unfold bo at h
  split at h
  ·rename_i c hc
   split at h
   ·cases au.mp h
    show T.take e++tz (.sign ⟨#[c]⟩)=T.take (e+1)
    rw[BF,bZ,hc]
    rfl
   ·cases h
  ·cases h
 | .row ps,e,x,h=>by
  rw[iH]at h
  obtain⟨s,hs,rfl⟩:=ay.mp h
  show T.take e++tz (.row s.1)=_
  rw[mn rfl]
  exact yZ T ps e s hs
 | .pick ps,e,x,h=>by unfold bo at h;exact yz T ps 0 e x h
 | .again p,e,x,h=>by
  unfold bo at h
  obtain⟨s,hs,rfl⟩:=ay.mp h
  show T.take e++tz (.again s.1)=_
  rw[mn rfl]
  exact Et (λe x hx=>ju T p e x hx) _ _ s hs
 | .held n p,e,x,h=>by
  unfold bo at h
  obtain⟨s,hs,rfl⟩:=ay.mp h
  show T.take e++tz (.held n s.1)=_
  rw[mn rfl]
  show T.take e++iI (gy [s.1])=_
  rw[tu]
  exact ju T p e s hs
 | .price n p,e,x,h=>by
  unfold bo at h
  obtain⟨s,hs,rfl⟩:=ay.mp h
  show T.take e++tz (.price n s.1)=_
  rw[mn rfl]
  show T.take e++iI (gy [s.1])=_
  rw[tu]
  exact ju T p e s hs
theorem yZ(T:List Nat):∀(ps:List Pt) (e:Nat) x,x∈c8 T ps e->T.take e++iI (gy x.1)=T.take x.2
 |[],e,x,h=>by unfold c8 at h;cases au.mp h;exact bz _
 |p::ps,e,x,h=>by
  unfold c8 at h
  obtain⟨t,ht,hx⟩:=bp.mp h
  obtain⟨u,hu,rfl⟩:=ay.mp hx
  rw[qb,<-cH,ju T p e t ht]
  exact yZ T ps t.2 u hu
theorem yz(T:List Nat):∀(ps:List Pt) (k e:Nat) x,x∈eX T ps k e->T.take e++tz x.1=T.take x.2
 |[],k,e,x,h=>by unfold eX at h;cases h
 |p::ps,k,e,x,h=>by
  unfold eX at h
  rcases aR.mp h with h|h
  ·obtain⟨s,hs,rfl⟩:=ay.mp h
   show T.take e++tz (.pick (k:Int) s.1)=_
   rw[mn rfl]
   show T.take e++iI (gy [s.1])=_
   rw[tu]
   exact ju T p e s hs
  ·exact yz T ps (k+1) e x h
end
noncomputable def fine(B:Nat)(t:Tr):Prop:=wt t/\kW t<=B
theorem HL{B:Nat}:∀{ts:List Tr},(∀t∈ts,fine B t)->(∀c∈ts,wt c)/\fD ts<=ts.length*B
 |[],_=>⟨by simp,by simp[fD]⟩
 |t::ts,h=>by
  obtain⟨h1,h2⟩:=HL (ts:=ts) λc hc=>h c (by simp[hc])
  have h3:=h t (by simp)
  refine⟨λc hc=> ?_,?_⟩
  ·rcases aD.mp hc with rfl|hc
   ·exact h3.1
   ·exact h1 c hc
  ·simp only[fD,aT]
   rw[Nat.add_mul,Nat.one_mul]
   have:=h3.2
   ac_nf
theorem jD{B:Nat}{t:Tr}(h1:Ll t)(h2:∀c∈fc t,fine B c)(h3:(fc t).length<=5):fine (6*B+1) t:=by
 obtain⟨a,b⟩:=HL h2
 refine⟨Lk h1 a,?_⟩
 rw[ml]
 have:(fc t).length*B<=5*B:=Nat.mul_le_mul_right _ h3
 ac_nf
noncomputable def fB:Nat->Nat
 |0=>0
 |n+1=>6*fB n+1
theorem mM{m n:Nat}(h:m<=n):fB m<=fB n:=by
 induction n with
 |zero=>rw[Nat.le_zero.mp h];exact av _
 |succ n ih=>
  rcases cP n m with z|z
  ·rw[show m=n+1 by ac_nf];exact av _
  ·have:=ih z
   show fB m<=6*fB n+1
   ac_nf
theorem fine.mono{A B:Nat}{t:Tr}(h:fine A t)(l:A<=B):fine B t:=⟨h.1,aO h.2 l⟩
theorem wu{L B:Nat}{f:Nat->List (Tr×Nat)}(h:∀e,e<=L->∀x,x∈f e->fine B x.1/\e<x.2/\x.2<=L):∀(n e:Nat),e<=L->∀x,x∈xX f n e->(∀t∈x.1,fine B t)/\x.1.length+e<=L
 |0,e,he,x,hx=>by cases au.mp hx;exact⟨by simp,by simpa using he⟩
 |n+1,e,he,x,hx=>by
  rcases aR.mp hx with hx|hx
  ·obtain⟨t,ht,hx⟩:=bp.mp hx
   obtain⟨u,hu,rfl⟩:=ay.mp hx
   obtain⟨h1,h2,h3⟩:=h e he t ht
   obtain⟨h4,h5⟩:=wu h n t.2 h3 u hu
   refine⟨λc hc=> ?_,?_⟩
   ·rcases aD.mp hc with rfl|hc
    ·exact h1
    ·exact h4 c hc
   ·simp only[aT];ac_nf
  ·cases au.mp hx;exact⟨by simp,by simpa using he⟩
theorem BG{T:List Nat}{a b:Nat}(ha:a<=T.length)(hb:b<=T.length)(h:T.take a=T.take b):a=b:=by
 have:=congrArg cG h
 rw[bb,bb]at this
 ac_nf
theorem tj{T:List Nat}{p:Pt}{e:Nat}{x y:Tr×Nat}(he:e<=T.length)(hx:x∈bo T p e)(hy:y∈bo T p e)(h:x.1=y.1):x=y:=by
 have h1:=ju T p e x hx
 have h2:=ju T p e y hy
 rw[h,h2]at h1
 have:=BG (fE T p e he y hy) (fE T p e he x hx) h1
 exact Prod.ext h this.symm
theorem zi{α:Type}{l:List (Tr×Nat)}{F:Nat->List (α×Nat)}{g:Tr->α->α}(hl:l.Nodup)(hu:∀x∈l,∀y∈l,x.1=y.1->x=y)(hF:∀x∈l,(F x.2).Nodup)(hg:∀t u t' u',g t u=g t' u'->t=t'/\u=u'):
  (l.flatMap λt=>(F t.2).map λu=>(g t.1 u.1,u.2)).Nodup:=by
 induction l with
 |nil=>exact List.nodup_nil
 |cons x l ih=>
  rw[bI,jN]
  obtain⟨hx,hl'⟩:=bu.mp hl
  refine⟨?_,ih hl' (λa ha b hb=>hu a (by simp[ha]) b (by simp[hb])) (λa ha=>hF a (by simp[ha])),?_⟩
  ·have h1:=hF x (by simp)
   rw[List.Nodup,List.pairwise_map]
   refine List.Pairwise.imp (fun{a b} hab=> ?_) h1
   intro h
   have h2:g x.1 a.1=g x.1 b.1:=congrArg Prod.fst h
   have h3:a.2=b.2:=(lc h).2
   exact hab (Prod.ext (hg _ _ _ _ h2).2 h3)
  ·intro a ha b hb hab
   obtain⟨u,hu1,rfl⟩:=ay.mp ha
   obtain⟨t,ht,hb2⟩:=bp.mp hb
   obtain⟨v,hv,rfl⟩:=ay.mp hb2
   have h2:g x.1 u.1=g t.1 v.1:=congrArg Prod.fst hab
   have h3:=hu x (by simp) t (by simp[ht]) (hg _ _ _ _ h2).1
   rw[h3]at hx
   exact hx ht
theorem qD{α β:Type}{l:List (α×Nat)}{f:α->β}(h:l.Nodup)(hf:∀a b,f a=f b->a=b):(l.map λx=>(f x.1,x.2)).Nodup:=by
 rw[List.Nodup,List.pairwise_map]
 refine List.Pairwise.imp (fun{a b} hab=> ?_) h
 intro z
 exact hab (Prod.ext (hf _ _ (lc z).1) (lc z).2)
theorem Ep{L:Nat}{f:Nat->List (Tr×Nat)}(h1:∀e,e<=L->(f e).Nodup)(h2:∀e,e<=L->∀x∈f e,∀y∈f e,x.1=y.1->x=y)(h3:∀e,e<=L->∀x∈f e,x.2<=L):∀(n e:Nat),e<=L->(xX f n e).Nodup
 |0,e,he=>by unfold xX;simp
 |n+1,e,he=>by
  unfold xX
  rw[jN]
  refine⟨zi (F:=λj=>xX f n j) (g:=λt u=>t::u) (h1 e he) (h2 e he) (λx hx=>Ep h1 h2 h3 n x.2 (h3 e he x hx)) (λt u t' u' h=>by injection h with a b;exact⟨a,b⟩),by simp,?_⟩
  intro a ha b hb hab
  obtain⟨t,_,hx⟩:=bp.mp ha
  obtain⟨u,_,rfl⟩:=ay.mp hx
  rw[au.mp hb]at hab
  have:(t.1::u.1)=([]:List Tr):=congrArg Prod.fst hab
  cases this
mutual
theorem nK{T:List Nat}:∀(p:Pt) (e:Nat),e<=T.length->(bo T p e).Nodup
 | .none,e,he=>by simp[bo]
 | .blank,e,he=>by simp[bo]
 | .sign s,e,he=>by
  unfold bo
  split
  ·split
   ·simp
   ·simp
  ·simp
 | .row ps,e,he=>by
  rw[iH]
  exact qD (f:=Tr.row) (yX ps e he) λa b h=>by injection h
 | .pick ps,e,he=>by unfold bo;exact yq ps 0 e he
 | .again p,e,he=>by
  unfold bo
  exact qD (f:=Tr.again) (Ep (L:=T.length) (λe he=>nK p e he) (λe he x hx y hy h=>tj he hx hy h) (λe he x hx=>fE T p e he x hx) _ e he) λa b h=>by injection h
 | .held n p,e,he=>by
  unfold bo
  exact qD (f:=Tr.held n) (nK p e he) λa b h=>by injection h
 | .price n p,e,he=>by
  unfold bo
  exact qD (f:=Tr.price n) (nK p e he) λa b h=>by injection h
theorem yX{T:List Nat}:∀(ps:List Pt) (e:Nat),e<=T.length->(c8 T ps e).Nodup
 |[],e,he=>by unfold c8;simp
 |p::ps,e,he=>by
  unfold c8
  exact zi (F:=λj=>c8 T ps j) (g:=λt u=>t::u) (nK p e he) (λx hx y hy h=>tj he hx hy h) (λx hx=>yX ps x.2 (fE T p e he x hx)) λt u t' u' h=>by injection h with a b;exact⟨a,b⟩
theorem yq{T:List Nat}:∀(ps:List Pt) (k e:Nat),e<=T.length->(eX T ps k e).Nodup
 |[],k,e,he=>by unfold eX;simp
 |p::ps,k,e,he=>by
  unfold eX
  rw[jN]
  refine⟨qD (f:=Tr.pick (k:Int)) (nK p e he) λa b h=>(by injection h),yq ps (k+1) e he,?_⟩
  intro a ha b hb hab
  obtain⟨s,hs,rfl⟩:=ay.mp ha
  obtain⟨i,hi,t2,h2⟩:=yu ps (k+1) e b hb
  rw[<-hab]at h2
  change Tr.pick (k:Int) s.1=Tr.pick (i:Int) t2 at h2
  injection h2 with h3 _
  ac_nf
theorem yu{T:List Nat}:∀(ps:List Pt) (k e:Nat) (x:Tr×Nat),x∈eX T ps k e->∃i:Nat,k<=i/\∃t,x.1=Tr.pick (i:Int) t
 |[],k,e,x,h=>by unfold eX at h;cases h
 |p::ps,k,e,x,h=>by
  unfold eX at h
  rcases aR.mp h with h|h
  ·obtain⟨s,hs,rfl⟩:=ay.mp h
   exact⟨k,av _,s.1,rfl⟩
  ·obtain⟨i,hi,t,ht⟩:=yu ps (k+1) e x h
   exact⟨i,by ac_nf,t,ht⟩
end
noncomputable def Gy:B2:=λp q G Q=>match q with
 | .ref a=>match lk G a with
  |some ps=>c7 100 p=true/\dL 100 ps=true/\(∀y∈ps,i3 y p=false)/\Q (.bl false) G
  |none=>False
 |_=>False
theorem M5{a:Addr}{p:PV}{ps:List PV}{G:Gp}{Q:K2}(h:lk G a=some ps)(f1:c7 100 p=true)(f2:dL 100 ps=true)(n:∀y∈ps,i3 y p=false)(q:Q (.bl false) G):Gy p (.ref a) G Q:=by
 unfold Gy;simp only[h];exact⟨f1,f2,n,q⟩
section
variable{X:Cx}{pins:List (Addr×Obj)}{σ:L2.St}{H:Hp}{s:ai}
theorem xi{n:Nat}{p:PV}{ps:List PV}(h:dL n (p::ps)=true):c7 n p=true/\dL n ps=true:=by
 unfold dL at h
 rwa [aH]at h
theorem zh(I:Inv X pins σ H s){p:PV}{x:V}{v:ae}(dp:Dv X.K H p x)(rp:RelV x v)(f1:c7 100 p=true){A:Around}(hu:A.units+100<gZ):
  ∀{ps:List PV} {xs:List V} {us:List ae},Dvs X.K H ps xs->Vals xs us->dL 100 ps=true->(∀y∈ps,i3 y p=false)->∀u∈us,SeqAt.EqAt A s u v false
 |[],xs,us,d,r,f,n,u,hu'=>by
  obtain rfl:xs=[]:=d
  cases r
  cases hu'
 |y::ps,xs,us,d,r,f,n,u,hu'=>by
  obtain⟨z,zs,rfl,d1,d2⟩:=d
  cases r with
  |cons r1 r2=>
  obtain⟨g1,g2⟩:=xi f
  rcases aD.mp hu' with rfl|hu'
  ·have:=No I 100 100 y p A d1 r1 dp rp g1 f1 hu
   rw[n y (by simp)]at this
   exact this
  ·exact zh I dp rp f1 hu d2 r2 g2 (λy hy=>n y (by simp[hy])) u hu'
theorem Ma(hu:X.A.units+200<gZ):ic X (bQ .In) (fG X.K Gy):=by
 intro pins s σ H x y v u Q I rx ry h
 obtain⟨p,q,G,Q2,d1,d2,rp,h,cl⟩:=h
 unfold Gy at h
 split at h
 ·rename_i a
  split at h
  ·rename_i ps e
   obtain⟨f1,f2,n,hq⟩:=h
   obtain rfl:y= .ref a:=d2
   obtain⟨us,sb,db⟩:=fP rp e
   cases ry
   obtain⟨its,r,pl,hz⟩:=I.list sb
   refine SeqAt.in_listAt (λ_=>false) pl.isList (λw hw=>zh I d1 rx f1 (A:=X.A.in1) (by
    have:X.A.in1.units<=X.A.units+1:=by first|exact av _|(show X.A.units+1<=_;exact av _)|simp[Around.in1]
    ac_nf) db r f2 n w (by simpa using hw)) ⟨.bl false,H,I,?_,cl _ _ _ _ hq rfl rp .refl⟩
   rw[show its.toArray.any (λ_=>false)=false by simp]
   rfl
  ·exact h.elim
 ·exact h.elim
end
noncomputable def vW{α:Type}(xs:List α)(i:Nat)(y:α):List α:=xs.take i++y::xs.drop i
section
variable{X:Cx}
noncomputable def EV:V->List V->Hp->VK->Prop:=λx vs H Q=>∃l xs i y,x= .ref l/\vs=[.int ((i:Nat):Int),y]/\H l=some (.lst xs)/\i<=xs.length/\xs.length<aK/\i<2^60/\Q .non (L2.upd H l (.lst (vW xs i y)))
theorem Ay:NN X "list.insert" EV:=by
 intro pins s σ H x vs v us Q I rx rv h
 obtain⟨l,xs,i,y,rfl,rfl,hH,hi,hz,h60,q⟩:=h
 cases rx
 obtain⟨u,w,rfl,ru,rw'⟩:=rv.two
 obtain⟨t,rfl⟩:=ru
 obtain⟨z,its,n,r,hl,e⟩:=I.lstM hH
 have hf:iw (i:Int)=true:=fitsIndex_both (by ac_nf) (by ac_nf)
 have h1:¬(!iw (i:Int))=true:=by rw[hf];exact bd
 have h2:its.toArray.size<=aK:=by rw[aw];ac_nf
 obtain⟨ii,hii⟩:∃ii:Int,ii=(i:Int):=⟨_,rfl⟩
 rw[<-hii]at h1 rv⊢
 have M:=AutoSeq1.list_insert_list_int_val_1 l its.toArray n ii t w h1 h2
 refine fN F.slot_list_insert ⟨_,e,rfl⟩ F.entry_list_insert (F.args_list_insert_3 _ _ _) M ⟨e,?_⟩
 refine⟨.non,_,I.lset (its':=vW its i w) hH e ?_ (((Vals.take i r).append (.cons rw' (Vals.drop i r)))) ?_,rfl,q⟩
 ·rw[hii]
  show((its.toArray.extract 0 (if(i:Int)<0 then((i:Int)+(its.toArray.size:Int)).toNat else min (i:Int).toNat its.toArray.size)).push w++its.toArray.extract (if(i:Int)<0 then((i:Int)+(its.toArray.size:Int)).toNat else min (i:Int).toNat its.toArray.size))=(vW its i w).toArray
  rw[if_neg (by ac_nf),bL,aw,iR (by ac_nf)]
  unfold vW
  apply Array.toList_inj.mp
  simp
  exact kO (by simp)
 ·rw[aN,aT,bb,fV]
  ac_nf
noncomputable def mK:M2:=λp ps G Q=>match p,ps with
 | .ref a,[.int i,y]=>match G a with
  |some (.lst xs)=>0<=i/\i.toNat<=xs.length/\xs.length<16000000/\Q .non (up G a (.lst (vW xs i.toNat y)))
  |_=>False
 |_,_=>False
theorem DH{a:Addr}{xs:List PV}{i:Nat}{y:PV}{G:Gp}{Q:K2}(h:G a=some (.lst xs))(hi:i<=xs.length)(hl:xs.length<16000000)(q:Q .non (up G a (.lst (vW xs i y)))):mK (.ref a) [.int (i:Int),y] G Q:=by
 unfold mK;simp only[h,bL]
 exact⟨by ac_nf,hi,hl,q⟩
theorem Dc:Bi X "list.insert" (vI X.K mK):=by
 intro pins s σ H x xs v us Q I rx rs h
 obtain⟨p,ps,G,Q2,d,ds,rp,h,cl⟩:=h
 unfold mK at h
 split at h
 ·rename_i a i y
  split at h
  ·rename_i zs e
   obtain⟨h0,h1,h2,hq⟩:=h
   obtain rfl:x= .ref a:=d
   obtain⟨w1,r1,rfl,dw1,w2,r2,rfl,dw2,e3⟩:=ds
   obtain rfl:r2=[]:=e3
   obtain rfl:w1= .int i:=dw1
   obtain⟨vs,hv,dv⟩:=rp.lst e
   obtain⟨k,rfl⟩:∃k:Nat,i=(k:Int):=⟨i.toNat,by ac_nf⟩
   rw[bL]at h1 hq
   refine Ay pins s σ H _ _ v us Q I rx rs ⟨a,vs,k,w2,rfl,rfl,hv,by rw[dv.length];exact h1,by rw[dv.length];exact zL (gh h2),by ac_nf,cl _ _ _ _ hq rfl (rp.put hv ((Dvs.take k dv).append (.cons dw2 (Dvs.drop k dv)))) (fH hv)⟩
  ·exact h.elim
 ·exact h.elim
theorem AK{o e e2:Expr}{to:E2}{t:A2}{apos cpos:Pos}(ho:JE X o to)(ha:JA X [e,e2] t)
  (hbase:cg o "insert" X.env (eval o X.env)=eval o X.env:=by rfl) (hfew:((bB cpos (aq [e,e2] X.env)).all (λx=> !x.1)&&(gB cpos (dO [] X.env)).all (λx=>x.1.isSome)&&decide (([e,e2]:List Expr).length+([]:List fz).length+(if([]:List fz).isEmpty then 0 else 1)<30))=true:=by rfl)
  (hline:(apos.endLine==cpos.line)=true:=by rfl) (hs:aq [e,e2] X.env=(false,eval e X.env)::aq [e2] X.env:=by rfl) (hpl:(bB cpos (aq [e2] X.env)).any (·.1)=false:=by rfl):JE X (.Call (.Attribute o "insert" apos) [e,e2] [] cpos) (GN mK to t):=Dy PySem.F.slot_list_insert PySem.F.type_list_insert Dc ho ha hbase hfew hline hs hpl
end
noncomputable def tag:Tr->Str
 | .blank=> "blank"
 | .sign _=> "sign"
 | .row _=> "row"
 | .again _=> "again"
 | .pick _ _=> "pick"
 | .held _ _=> "held"
 | .price _ _=> "price"
theorem zF(t:Tr):∃xs,gG t= .tup (.str (tag t)::xs):=by cases t<;>exact⟨_,rfl⟩
theorem jH{t u:Tr}(h:i3 (gG t) (gG u)=true):tag t=tag u:=by
 obtain⟨xs,e1⟩:=zF t
 obtain⟨ys,e2⟩:=zF u
 rw[e1,e2]at h
 have h':((tag t==tag u)&&iQ xs ys)=true:=h
 rw[aH]at h'
 exact beq_iff_eq.mp h'.1
mutual
theorem mS:∀(t u:Tr),i3 (gG t) (gG u)=true->t=u
 | .blank,u,h=>by
  cases u with
  |blank=>rfl
  |_=>exact absurd (jH h) (by simp only[tag];decide+kernel)
 | .sign s,u,h=>by
  cases u with
  |sign s'=>
   have h':((a9 "sign" ==a9 "sign")&&((s==s')&&true))=true:=h
   rw[aH,aH]at h'
   rw[beq_iff_eq.mp h'.2.1]
  |_=>exact absurd (jH h) (by simp only[tag];decide+kernel)
 | .row ts,u,h=>by
  cases u with
  |row us=>
   have h':((a9 "row" ==a9 "row")&&(iQ (en ts) (en us)&&true))=true:=h
   rw[aH,aH]at h'
   rw[oz ts us h'.2.1]
  |_=>exact absurd (jH h) (by simp only[tag];decide+kernel)
 | .again ts,u,h=>by
  cases u with
  |again us=>
   have h':((a9 "again" ==a9 "again")&&(iQ (en ts) (en us)&&true))=true:=h
   rw[aH,aH]at h'
   rw[oz ts us h'.2.1]
  |_=>exact absurd (jH h) (by simp only[tag];decide+kernel)
 | .pick k t,u,h=>by
  cases u with
  |pick k' t'=>
   have h':((a9 "pick" ==a9 "pick")&&((k==k')&&(i3 (gG t) (gG t')&&true)))=true:=h
   rw[aH,aH,aH]at h'
   rw[beq_iff_eq.mp h'.2.1,mS t t' h'.2.2.1]
  |_=>exact absurd (jH h) (by simp only[tag];decide+kernel)
 | .held k t,u,h=>by
  cases u with
  |held k' t'=>
   have h':((a9 "held" ==a9 "held")&&((k==k')&&(i3 (gG t) (gG t')&&true)))=true:=h
   rw[aH,aH,aH]at h'
   rw[beq_iff_eq.mp h'.2.1,mS t t' h'.2.2.1]
  |_=>exact absurd (jH h) (by simp only[tag];decide+kernel)
 | .price k t,u,h=>by
  cases u with
  |price k' t'=>
   have h':((a9 "price" ==a9 "price")&&((k==k')&&(i3 (gG t) (gG t')&&true)))=true:=h
   rw[aH,aH,aH]at h'
   rw[beq_iff_eq.mp h'.2.1,mS t t' h'.2.2.1]
  |_=>exact absurd (jH h) (by simp only[tag];decide+kernel)
theorem oz:∀(ts us:List Tr),iQ (en ts) (en us)=true->ts=us
 |[],[],_=>rfl
 |[],_::_,h=>by cases (show false=true from h)
 |_::_,[],h=>by cases (show false=true from h)
 |t::ts,u::us,h=>by
  have h':(i3 (gG t) (gG u)&&iQ (en ts) (en us))=true:=h
  rw[aH]at h'
  rw[mS t u h'.1,oz ts us h'.2]
end
theorem GL{t u:Tr}(h:t≠u):i3 (gG t) (gG u)=false:=by
 cases e:i3 (gG t) (gG u)with
 |false=>rfl
 |true=>exact absurd (mS t u e) h
mutual
noncomputable def Jm:Pt->Prop
 | .row ps=>ps.length<=5/\n8 ps
 | .pick ps=>n8 ps
 | .again p=>gY p=false/\Jm p
 | .held n p=>n.length<=100/\Jm p
 | .price _ p=>Jm p
 |_=>True
noncomputable def n8:List Pt->Prop
 |[]=>True
 |p::ps=>Jm p/\n8 ps
end
mutual
theorem iC{T:List Nat}(hT:T.length<=5):∀(p:Pt),Jm p->∀(e:Nat),e<=T.length->∀x,x∈bo T p e->fine (fB (depth p)) x.1
 | .none,ok,e,he,x,h=>by simp[bo]at h
 | .blank,ok,e,he,x,h=>by
  simp only[bo,au]at h
  rw[h]
  exact jD (B:=0) trivial (by simp[fc]) (by simp[fc])
 | .sign s,ok,e,he,x,h=>by
  unfold bo at h
  split at h
  ·split at h
   ·cases au.mp h
    exact jD (B:=0) rfl (by simp[fc]) (by simp[fc])
   ·cases h
  ·cases h
 | .row ps,ok,e,he,x,h=>by
  rw[iH]at h
  obtain⟨s,hs,rfl⟩:=ay.mp h
  obtain⟨h3,ok'⟩:=ok
  obtain⟨a,b⟩:=qp hT ps ok' e he s hs
  show fine (fB (1+bM ps)) (.row s.1)
  rw[fC]
  exact jD trivial a (by show s.1.length<=5;ac_nf)
 | .pick ps,ok,e,he,x,h=>by
  unfold bo at h
  have ok':n8 ps:=ok
  show fine (fB (1+bM ps)) x.1
  rw[fC]
  exact p0 hT ps ok' 0 e he x h
 | .again p,ok,e,he,x,h=>by
  unfold bo at h
  obtain⟨s,hs,rfl⟩:=ay.mp h
  obtain⟨hc,ok'⟩:=ok
  obtain⟨a,b⟩:=wu (L:=T.length) (B:=fB (depth p)) (λe he x hx=>⟨iC hT p ok' e he x hx,j9 T p e hc x hx,fE T p e he x hx⟩) _ e he s hs
  show fine (fB (1+depth p)) (.again s.1)
  rw[fC]
  exact jD trivial a (by show s.1.length<=5;ac_nf)
 | .held n p,ok,e,he,x,h=>by
  unfold bo at h
  obtain⟨s,hs,rfl⟩:=ay.mp h
  show fine (fB (1+depth p)) (.held n s.1)
  rw[fC]
  exact jD ok.1 (λc hc=>by cases au.mp hc;exact iC hT p ok.2 e he s hs) (by simp[fc])
 | .price n p,ok,e,he,x,h=>by
  unfold bo at h
  obtain⟨s,hs,rfl⟩:=ay.mp h
  show fine (fB (1+depth p)) (.price n s.1)
  rw[fC]
  exact jD trivial (λc hc=>by cases au.mp hc;exact iC hT p ok e he s hs) (by simp[fc])
theorem qp{T:List Nat}(hT:T.length<=5):∀(ps:List Pt),n8 ps->∀(e:Nat),e<=T.length->∀x,x∈c8 T ps e->(∀t∈x.1,fine (fB (bM ps)) t)/\x.1.length=ps.length
 |[],ok,e,he,x,h=>by unfold c8 at h;cases au.mp h;exact⟨by simp,rfl⟩
 |p::ps,ok,e,he,x,h=>by
  unfold c8 at h
  obtain⟨t,ht,hx⟩:=bp.mp h
  obtain⟨u,hu,rfl⟩:=ay.mp hx
  have h1:=iC hT p ok.1 e he t ht
  obtain⟨h2,h3⟩:=qp hT ps ok.2 t.2 (fE T p e he t ht) u hu
  refine⟨λc hc=> ?_,by simp[h3]⟩
  simp only[bM]
  rcases aD.mp hc with rfl|hc
  ·exact h1.mono (mM (Nat.le_max_left _ _))
  ·exact(h2 c hc).mono (mM (Nat.le_max_right _ _))
theorem p0{T:List Nat}(hT:T.length<=5):∀(ps:List Pt),n8 ps->∀(k e:Nat),e<=T.length->∀x,x∈eX T ps k e->fine (fB (bM ps+1)) x.1
 |[],ok,k,e,he,x,h=>by unfold eX at h;cases h
 |p::ps,ok,k,e,he,x,h=>by
  unfold eX at h
  rcases aR.mp h with h|h
  ·obtain⟨s,hs,rfl⟩:=ay.mp h
   have h1:=iC hT p ok.1 e he s hs
   have h2:fine (fB (depth p+1)) (.pick (k:Int) s.1):=jD trivial (λc hc=>by cases au.mp hc;exact h1) (by simp[fc])
   exact h2.mono (mM (by simp only[bM];ac_nf))
  ·exact(p0 hT ps ok.2 (k+1) e he x h).mono (mM (by simp only[bM];ac_nf))
end
noncomputable def jF(T:List Nat)(p:Pt)(e:Nat):List Nat:=(bo T p e).map (·.2)
theorem zm{T:List Nat}{p:Pt}{e j:Nat}:nT T p e j=(jF T p e).count j:=by
 unfold nT jV jF
 rw[List.count,List.countP_map]
 rfl
theorem sC(T:List Nat):∀(ps:List Pt) (k e:Nat),(eX T ps k e).map (·.2)=ps.flatMap λp=>jF T p e
 |[],k,e=>rfl
 |p::ps,k,e=>by
  unfold eX
  rw[aS,sC T ps,bI,bT]
  rfl
theorem sD(T:List Nat)(ps:List Pt)(e:Nat):jF T (.pick ps) e=ps.flatMap λp=>jF T p e:=by
 show(bo T (.pick ps) e).map (·.2)=_
 unfold bo
 exact sC T ps 0 e
theorem jj(T:List Nat)(p:Pt)(ps:List Pt)(e:Nat):(c8 T (p::ps) e).map (·.2)=(jF T p e).flatMap λe'=>(c8 T ps e').map (·.2):=by
 conv=>lhs;unfold c8
 unfold jF
 rw[List.map_flatMap,List.flatMap_map]
 refine mL λt _=> ?_
 rw[bT]
 rfl
theorem DV(T:List Nat)(ps:List Pt)(e:Nat):jF T (.row ps) e=(c8 T ps e).map (·.2):=by
 unfold jF
 rw[iH,bT]
 rfl
theorem kd{α β:Type}(n m:Nat)(x:α)(y:β)(f:α->List β)(h:f x=aj m y):(aj n x).flatMap f=aj (n*m) y:=by
 induction n with
 |zero=>rw[Nat.zero_mul];rfl
 |succ n ih=>
  rw[bf,bI,ih,h,rq,Nat.succ_mul,fC]
noncomputable def bk(q:Pt):Prop:=q= .blank\/q= .again (.sign "b")\/q= .held "pick" .blank
theorem zK{q:Pt}{e:Nat}(h:bk q)(he:e<=1):jF [97] q e=[e]:=by
 have:e=0\/e=1:=by ac_nf
 rcases h with rfl|rfl|rfl<;>rcases this with rfl|rfl<;>decide+kernel
theorem pH{e:Nat}(he:e<=1):∀{qs:List Pt},(∀q∈qs,bk q)->jF [97] (.pick qs) e=aj qs.length e:=fun{qs} h=>by
 rw[sD]
 induction qs with
 |nil=>rfl
 |cons q qs ih=>
  rw[bI,zK (h q (by simp)) he,ih λx hx=>h x (by simp[hx])]
  rfl
noncomputable def mB:List Nat->Nat
 |[]=>1
 |n::l=>n*mB l
theorem qv:∀a b:List Nat,mB (a++b)=mB a*mB b
 |[],b=>by rw[le];simp[mB]
 |n::a,b=>by
  show n*mB (a++b)=n*mB a*mB b
  rw[qv a b,Nat.mul_assoc]
theorem Ce{k:Nat}:∀{l:List Nat},(∀n∈l,n<=k)->mB l<=k^l.length
 |[],_=>av _
 |n::l,h=>by
  show n*mB l<=k^(l.length+1)
  rw[Nat.pow_succ,i7]
  exact nv (Ce λx hx=>h x (by simp[hx])) (h n (by simp))
theorem qx{e:Nat}(he:e<=1):∀{qss:List (List Pt)},(∀qs∈qss,∀q∈qs,bk q)->(c8 [97] (qss.map Pt.pick) e).map (·.2)=aj (mB (qss.map cG)) e
 |[],_=>rfl
 |qs::qss,h=>by
  rw[aE,jj,pH he (h qs (by simp))]
  exact kd _ _ _ _ _ (qx he λx hx=>h x (by simp[hx]))
theorem zR:jF [97] (.sign "a") 0=[1]:=by decide+kernel
theorem zQ:jF [97] (.sign "a") 1=[]:=by decide+kernel
noncomputable def cu(A B:List (List Pt)):List Pt:=A.map Pt.pick++ .sign "a" ::B.map Pt.pick
theorem oN:∀{A B:List (List Pt)},(∀qs∈A,∀q∈qs,bk q)->(∀qs∈B,∀q∈qs,bk q)->(c8 [97] (cu A B) 0).map (·.2)=aj (mB ((A++B).map cG)) 1
 |[],B,_,hB=>by
  show(c8 [97] (.sign "a" ::B.map Pt.pick) 0).map (·.2)=_
  rw[jj,zR,bI,List.flatMap_nil,bz,qx (av _) hB]
  rfl
 |qs::A,B,hA,hB=>by
  show(c8 [97] (.pick qs::cu A B) 0).map (·.2)=_
  rw[jj,pH (bK _) (hA qs (by simp))]
  exact kd _ _ _ _ _ (oN (λx hx=>hA x (by simp[hx])) hB)
theorem oM:∀{A B:List (List Pt)},(∀qs∈A,∀q∈qs,bk q)->(c8 [97] (cu A B) 1).map (·.2)=[]
 |[],B,_=>by
  show(c8 [97] (.sign "a" ::B.map Pt.pick) 1).map (·.2)=_
  rw[jj,zQ]
  rfl
 |qs::A,B,hA=>by
  show(c8 [97] (.pick qs::cu A B) 1).map (·.2)=_
  rw[jj,pH (av _) (hA qs (by simp))]
  have:=kd qs.length 0 1 (0:Nat) (λe'=>(c8 [97] (cu A B) e').map (·.2)) (oM λx hx=>hA x (by simp[hx]))
  rw[this]
  rfl
noncomputable def blt(A B:List (List Pt))(more:Nat):Pt:=if more=0 then .row (cu A B)else .pick (.row (cu A B)::aj more (.sign "a"))
structure Bt(A B:List (List Pt))(more:Nat):Prop where
 ha:∀qs∈A,∀q∈qs,bk q
 hb:∀qs∈B,∀q∈qs,bk q
 na:∀qs∈A,2<=qs.length/\qs.length<=6
 nb:∀qs∈B,2<=qs.length/\qs.length<=6
 l1:1<=A.length+B.length
 l4:A.length+B.length<=4
 m3:more<=3
section
variable{A B:List (List Pt)}{more:Nat}
theorem Bt.all(h:Bt A B more):∀qs∈A++B,(∀q∈qs,bk q)/\2<=qs.length/\qs.length<=6:=λqs hq=>by
 rcases aR.mp hq with hq|hq
 ·exact⟨h.ha qs hq,h.na qs hq⟩
 ·exact⟨h.hb qs hq,h.nb qs hq⟩
theorem Bt.prd6(h:Bt A B more):mB ((A++B).map cG)<=1296:=by
 have h1:=Ce (k:=6) (l:=(A++B).map cG) λn hn=>by
  obtain⟨qs,hq,rfl⟩:=ay.mp hn
  exact(h.all qs hq).2.2
 have h2:((A++B).map cG).length<=4:=by rw[ap,aN];exact h.l4
 exact aO h1 (Nat.pow_le_pow_right (by decide) h2)
theorem qr(h:Bt A B more)(e:Nat)(he:e<=1):jF [97] (.row (cu A B)) e=if e=0 then aj (mB ((A++B).map cG)) 1 else[]:=by
 rw[DV]
 have:e=0\/e=1:=by ac_nf
 rcases this with rfl|rfl
 ·rw[oN h.ha h.hb];rfl
 ·rw[oM h.ha];rfl
theorem Ae(e:Nat)(he:e<=1)(n:Nat):(aj n (Pt.sign "a")).flatMap (λp=>jF [97] p e)=if e=0 then aj n 1 else[]:=by
 have:e=0\/e=1:=by ac_nf
 rcases this with rfl|rfl
 ·rw[kd n 1 (Pt.sign "a") 1 (λp=>jF [97] p 0) zR,Nat.mul_one];rfl
 ·rw[kd n 0 (Pt.sign "a") 1 (λp=>jF [97] p 1) zQ];rfl
theorem wo(h:Bt A B more)(e:Nat)(he:e<=1):jF [97] (blt A B more) e=if e=0 then aj (mB ((A++B).map cG)+more) 1 else[]:=by
 unfold blt
 by_cases hm:more=0
 ·rw[if_pos hm,qr h e he,hm];rfl
 ·rw[if_neg hm,sD,bI,qr h e he,Ae e he]
  by_cases h0:e=0
  ·rw[if_pos h0,if_pos h0,if_pos h0,rq]
  ·rw[if_neg h0,if_neg h0,if_neg h0];rfl
theorem KQ(h:Bt A B more):nT [97] (blt A B more) 0 1=mB ((A++B).map cG)+more:=by
 rw[zm,wo h 0 (by decide),if_pos rfl,List.count_replicate_self]
theorem Ef{q r:Pt}(h:bk q)(hr:r∈makes q):bk r\/r= .sign "b" :=by
 rcases h with rfl|rfl|rfl
 ·cases au.mp hr;exact .inl (.inl rfl)
 ·have:r= .again (.sign "b")\/r= .sign "b" :=by simpa [makes]using hr
  rcases this with rfl|rfl
  ·exact .inl (.inr (.inl rfl))
  ·exact .inr rfl
 ·have:r= .held "pick" .blank\/r= .blank:=by simpa [makes]using hr
  rcases this with rfl|rfl
  ·exact .inl (.inr (.inr rfl))
  ·exact .inl (.inl rfl)
noncomputable def NV(A B:List (List Pt))(more:Nat)(r:Pt):Prop:=r=blt A B more\/r= .row (cu A B)\/(∃qs∈A++B,r= .pick qs)\/bk r\/r= .sign "b" \/r= .sign "a"
theorem oK(h:Bt A B more){r:Pt}(hr:r∈cO (cu A B)):NV A B more r:=by
 obtain⟨p,hp,hr⟩:=jz.mp hr
 have pk:∀qs∈A++B,r∈makes (.pick qs)->NV A B more r:=λqs hqs hr=>by
  rcases aD.mp (show r∈Pt.pick qs::cO qs from hr)with rfl|hr
  ·exact .inr (.inr (.inl ⟨qs,hqs,rfl⟩))
  ·obtain⟨q,hq,hr⟩:=jz.mp hr
   rcases Ef ((h.all qs hqs).1 q hq) hr with h1|h1
   ·exact .inr (.inr (.inr (.inl h1)))
   ·exact .inr (.inr (.inr (.inr (.inl h1))))
 rcases aR.mp hp with hp|hp
 ·obtain⟨qs,hqs,rfl⟩:=ay.mp hp
  exact pk qs (by simp[hqs]) hr
 ·rcases aD.mp hp with rfl|hp
  ·cases au.mp hr
   exact .inr (.inr (.inr (.inr (.inr rfl))))
  ·obtain⟨qs,hqs,rfl⟩:=ay.mp hp
   exact pk qs (by simp[hqs]) hr
theorem oE(h:Bt A B more){r:Pt}(hr:r∈makes (blt A B more)):NV A B more r:=by
 rw[gn]at hr
 rcases aD.mp hr with rfl|hr
 ·exact .inl rfl
 ·unfold blt at hr
  split at hr
  ·exact oK h hr
  ·obtain⟨p,hp,hr⟩:=jz.mp (show r∈cO (.row (cu A B)::aj more (.sign "a"))from hr)
   rcases aD.mp hp with rfl|hp
   ·rcases aD.mp (show r∈Pt.row (cu A B)::cO (cu A B)from hr)with rfl|hr
    ·exact .inr (.inl rfl)
    ·exact oK h hr
   ·obtain rfl:=(List.mem_replicate.mp hp).2
    cases au.mp hr
    exact .inr (.inr (.inr (.inr (.inr rfl))))
theorem Gz(h:Bt A B more){r:Pt}(hr:NV A B more r){e:Nat}(he:e<=1):(jF [97] r e).length<=2000:=by
 have hp:=h.prd6
 have hm:=h.m3
 rcases hr with rfl|rfl|⟨qs,hq,rfl⟩|hb|rfl|rfl
 ·rw[wo h e he]
  split
  ·rw[fJ];ac_nf
  ·decide
 ·rw[qr h e he]
  split
  ·rw[fJ];ac_nf
  ·decide
 ·rw[pH he (h.all qs hq).1,fJ]
  have:=(h.all qs hq).2.2
  ac_nf
 ·rw[zK hb he];show 1<=2000;ac_nf
 ·have:e=0\/e=1:=by ac_nf
  rcases this with rfl|rfl<;>decide+kernel
 ·have:e=0\/e=1:=by ac_nf
  rcases this with rfl|rfl<;>decide+kernel
theorem GY{q:Pt}(h:bk q):size q<=2/\depth q<=2/\Jm q:=by
 rcases h with rfl|rfl|rfl
 ·exact⟨by decide,by decide,trivial⟩
 ·exact⟨by decide,by decide,rfl,trivial⟩
 ·exact⟨by decide,by decide,by decide,trivial⟩
theorem wq:∀{qs:List Pt},(∀q∈qs,bk q)->ck qs<=2*qs.length/\bM qs<=2/\n8 qs
 |[],_=>⟨by decide,by decide,trivial⟩
 |q::qs,h=>by
  have h1:=GY (h q (by simp))
  have h2:=wq λx hx=>h x (bH q hx)
  refine⟨?_,?_,h1.2.2,h2.2.2⟩
  ·show size q+ck qs<=2*(qs.length+1);ac_nf
  ·show max (depth q) (bM qs)<=2;ac_nf
theorem qw:∀{qss:List (List Pt)},(∀qs∈qss,(∀q∈qs,bk q)/\2<=qs.length/\qs.length<=6)->ck (qss.map Pt.pick)<=13*qss.length/\bM (qss.map Pt.pick)<=3/\n8 (qss.map Pt.pick)
 |[],_=>⟨by decide,by decide,trivial⟩
 |qs::qss,h=>by
  have h1:=h qs (by simp)
  have h3:=wq h1.1
  have h2:=qw λx hx=>h x (bH qs hx)
  refine⟨?_,?_,h3.2.2,h2.2.2⟩
  ·show(1+ck qs)+ck (qss.map Pt.pick)<=13*(qss.length+1);ac_nf
  ·show max (1+bM qs) (bM (qss.map Pt.pick))<=3;ac_nf
theorem se:∀a b:List Pt,ck (a++b)=ck a+ck b
 |[],b=>by simp[ck]
 |p::a,b=>by show size p+ck (a++b)=size p+ck a+ck b;rw[se a b];ac_nf
theorem qZ:∀a b:List Pt,bM (a++b)=max (bM a) (bM b)
 |[],b=>by show bM b=max 0 (bM b);ac_nf
 |p::a,b=>by show max (depth p) (bM (a++b))=max (max (depth p) (bM a)) (bM b);rw[qZ a b];ac_nf
theorem vA:∀{a b:List Pt},n8 a->n8 b->n8 (a++b)
 |[],b,_,h=>h
 |p::a,b,h,h2=>⟨h.1,vA h.2 h2⟩
theorem qy(h:Bt A B more):ck (cu A B)<=53/\bM (cu A B)<=3/\n8 (cu A B)/\(cu A B).length=A.length+B.length+1:=by
 have h1:=qw λx hx=>h.all x (lX B hx)
 have h2:=qw λx hx=>h.all x (aX A hx)
 have h4:=h.l4
 unfold cu
 refine⟨?_,?_,vA h1.2.2 ⟨trivial,h2.2.2⟩,by simp;ac_nf⟩
 ·rw[se];show _+(1+ck _)<=53;ac_nf
 ·rw[qZ];show max _ (max 1 (bM _))<=3;ac_nf
theorem Ad(n:Nat):ck (aj n (Pt.sign "a"))=n/\bM (aj n (Pt.sign "a"))<=1/\n8 (aj n (Pt.sign "a")):=by
 induction n with
 |zero=>exact⟨rfl,by decide,trivial⟩
 |succ n ih=>
  rw[bf]
  refine⟨?_,?_,trivial,ih.2.2⟩
  ·show 1+ck _=n+1;ac_nf
  ·show max 1 (bM _)<=1;ac_nf
theorem rh(h:Bt A B more):size (blt A B more)<=60/\depth (blt A B more)<=5/\Jm (blt A B more):=by
 obtain⟨h1,h2,h3,h4⟩:=qy h
 obtain⟨r1,r2,r3⟩:=Ad more
 have:=h.m3
 have:=h.l4
 unfold blt
 split
 ·refine⟨?_,?_,?_,h3⟩
  ·show 1+ck _<=60;ac_nf
  ·show 1+bM _<=5;ac_nf
  ·show(cu A B).length<=5;ac_nf
 ·refine⟨?_,?_,⟨?_,h3⟩,r3⟩
  ·show 1+((1+ck _)+ck _)<=60;ac_nf
  ·show 1+max (1+bM _) (bM _)<=5;ac_nf
  ·show(cu A B).length<=5;ac_nf
theorem KR(h:Bt A B more):Cs [97] (blt A B more):=by
 refine⟨by decide,aO (rh h).1 (by decide),λq hq e he j=> ?_,λq hq=> ?_⟩
 ·rw[zm]
  have:=Gz h (oE h hq) (e:=e) he
  exact gP (aO List.count_le_length this) (by decide)
 ·rcases oE h hq with h1|h1|⟨qs,_,h1⟩|h1|h1|h1
  ·unfold blt at h1;split at h1<;>cases h1
  ·cases h1
  ·cases h1
  ·rcases h1 with h1|h1|h1
   ·cases h1
   ·cases h1;rfl
   ·cases h1
  ·cases h1
  ·cases h1
end
@[reducible] noncomputable def Df:List (Str×Str):=[("a", "b"),("~", " "),("b", "a")]
noncomputable def cd0(s:Str):Nat:=s.cps.toList.headD 0
noncomputable def pO(o p:Str)(c:Nat):Pt:= .row (aj c (.again (.sign o))++[.sign p])
noncomputable def oF(o p:Str)(n:Nat):List Nat:=aj n (cd0 o)++[cd0 p]
noncomputable def kY(n:Nat):Nat->Nat
 |0=>n+1
 |k+1=>kY n k*(n+(k+2))/(k+2)
noncomputable def N2:Tr->Bool
 | .sign s=>s.length==1
 | .held n _=>decide (n.length<=100)
 |_=>true
noncomputable def DQ(t:Tr):Bool:=(uD t).all N2&&decide (kW t<=10000)
theorem DP{t:Tr}(h:DQ t=true):fine 10000 t:=by
 unfold DQ at h
 rw[aH]at h
 refine⟨λc hc=> ?_,of_decide_eq_true h.2⟩
 have:=bq.mp h.1 c hc
 cases c with
 |sign s=>exact eq_of_beq this
 |held n q=>exact of_decide_eq_true (p:=n.length<=100) this
 |_=>trivial
noncomputable def K3:Pt->Bool
 | .row ps=>decide (1<=ps.length/\ps.length<=6)
 | .pick ps=>decide (1<=ps.length/\ps.length<=6)
 | .again q=>gY q==false
 |_=>true
noncomputable def HQ(o p:Str)(c n:Nat):Bool:=
 decide (size (pO o p c)<=10000)&&decide (depth (pO o p c)<=5)&&(makes (pO o p c)).all K3&&
 ((makes (pO o p c)).all λq=>(cV ((oF o p n).length+1)).all λe=>decide ((bo (oF o p n) q e).length<2^64))&&
 (((bo (oF o p n) (pO o p c) 0).filter λt=>t.2==(oF o p n).length).all λt=>DQ t.1)&&
 (nT (oF o p n) (pO o p c) 0 (oF o p n).length==kY n (c-2))
theorem K5:Df.all (λx=>(cV 3).all λc=>[0,1,2,3,4,5,6,9].all λn=>HQ x.1 x.2 (c+2) n)=true:=by decide+kernel
structure AgF(o p:Str)(c n:Nat):Prop where
 cs:Cs (oF o p n) (pO o p c)
 ar:∀q∈makes (pO o p c),K3 q=true
 dp:depth (pO o p c)<=5
 fn:∀t∈(bo (oF o p n) (pO o p c) 0).filter λt=>t.2==(oF o p n).length,fine 10000 t.1
 nt:nT (oF o p n) (pO o p c) 0 (oF o p n).length=kY n (c-2)
theorem En{o p:Str}{c n:Nat}(h:(o,p)∈Df)(c2:2<=c)(c4:c<=4)(hn:n∈[0,1,2,3,4,5,6,9]):AgF o p c n:=by
 have h0:=bq.mp (bq.mp (bq.mp K5 (o,p) h) (c-2) (lW.mpr (by ac_nf))) n hn
 rw[show c-2+2=c by ac_nf]at h0
 unfold HQ at h0
 simp only[aH]at h0
 obtain⟨⟨⟨⟨⟨h1,h2⟩,h3⟩,h4⟩,h5⟩,h6⟩:=h0
 refine⟨⟨?_,of_decide_eq_true h1,λq hq e he j=> ?_,λq hq=> ?_⟩,λq hq=>bq.mp h3 q hq,of_decide_eq_true h2,λt ht=>DP (bq.mp h5 t ht),eq_of_beq h6⟩
 ·have:n<=9:=by
   simp only[aD,bi,or_false]at hn
   ac_nf
  unfold oF;simp;ac_nf
 ·have:=of_decide_eq_true (bq.mp (bq.mp h4 q hq) e (lW.mpr (by ac_nf)))
  exact gP List.countP_le_length this
 ·exact eq_of_beq (bq.mp h3 _ hq)
theorem wa(n:Nat):∀k,1<=kY n k
 |0=>by show 1<=n+1;ac_nf
 |k+1=>by
  show 1<=kY n k*(n+(k+2))/(k+2)
  have ih:=wa n k
  rw[Nat.le_div_iff_mul_le (by ac_nf),Nat.one_mul]
  exact aO (by ac_nf:k+2<=1*(n+(k+2))) (Nat.mul_le_mul_right _ ih)
theorem GO{n:Nat}(hn:n<=9):∀k,k<=2->kY n k<=10000:=λk hk=>by
 have h0:kY n 0<=10:=by show n+1<=10;ac_nf
 have h1:kY n 1<=110:=by
  show kY n 0*(n+2)/2<=110
  refine aO (Nat.div_le_self _ _) ?_
  exact nv h0 (by ac_nf:n+2<=11)
 have h2:kY n 2<=1320:=by
  show kY n 1*(n+3)/3<=1320
  refine aO (Nat.div_le_self _ _) ?_
  exact nv h1 (by ac_nf:n+3<=12)
 have:k=0\/k=1\/k=2:=by ac_nf
 rcases this with rfl|rfl|rfl<;>ac_nf
theorem Hb:Df.all (λx=>([0,1,2,3,4,5,6,9]:List Nat).all fun(n:Nat)=>decide (xg x.1 (n:Int)++x.2=oi (oF x.1 x.2 n))&&decide (x.1.length=1)&&decide (x.2.length=1)&&decide ((xg x.1 (n:Int)).length<=9))=true:=by decide+kernel
theorem K4{o p:Str}{n:Nat}(h:(o,p)∈Df)(hn:n∈[0,1,2,3,4,5,6,9]):xg o (n:Int)++p=oi (oF o p n)/\o.length=1/\p.length=1/\(xg o (n:Int)).length<=9:=by
 have h0:=bq.mp (bq.mp Hb (o,p) h) n hn
 simp only[aH]at h0
 exact⟨of_decide_eq_true h0.1.1.1,of_decide_eq_true h0.1.1.2,of_decide_eq_true h0.1.2,of_decide_eq_true h0.2⟩
theorem Hc(o p:Str)(c:Nat):PV.tup [.str "row",.tup ((aj c [PV.tup [.str "again",.tup [.str "sign",.str o]]]).flatten++[.tup [.str "sign",.str p]])]=jd (pO o p c):=by
 have h1:∀n,(aj n [PV.tup [.str "again",.tup [.str "sign",.str o]]]).flatten=aj n (jd (.again (.sign o))):=λn=>by
  induction n with
  |zero=>rfl
  |succ n ih=>rw[bf,cx,ih,bf];rfl
 rw[h1]
 show _=PV.tup [.str "row",.tup (bJ (aj c (.again (.sign o))++[.sign p]))]
 rw[dA,aS,List.map_replicate]
 rfl
end L3
namespace T19
open PySem L2 L3
local macro_rules | `(tactic| left) => `(tactic| with_reducible conv => whnf)
local macro_rules | `(tactic| exists $e:term) => `(tactic| (left; refine $e))
local macro_rules | `(tactic| ext) => `(tactic| (left; refine iV rfl rfl (ji rfl ?_)))
local macro_rules | `(tactic| nofun) => `(tactic| (left; refine ko rfl ?_))
local macro_rules | `(tactic| symm) => `(tactic| repeat' first
 | (show JG _ (.Tuple [_, _, _, _] _ _) _; first
  | exact jg_name4 (i := 2) (j := 3) (k := 4) (l := 5) rfl (by assumption) rfl (by first | exact io rfl | exact gQ rfl) rfl (by first | exact io rfl | exact gQ rfl) rfl (by first | exact io rfl | exact gQ rfl) rfl (by first | exact io rfl | exact gQ rfl))
 | (show JT _ (.Compare (.Constant .none _ _) [.In] _ _) _; first
  | refine' jB (o_inNoneL (by assumption)) ?_ ?_ rfl)
 | (show JE _ (.Subscript (.Name _ _) (.Name "place" _) _) _; first
  | refine' xJ (by assumption) ?_ ?_)
 | (show JI _ _ (.Name "ways" _) _; first
  | refine' tZ ?_)
 | (show JI _ _ (.Name "more" _) _; first
  | refine' tZ ?_)
 | (show JI _ _ (.Name "turns" _) _; first
  | refine' tZ ?_)
 | (show JS _ (.Assign [.Subscript (.Name "ways" _) _ _] _ _) _; first
  | refine' ot ?_ (qM ?_ ?_ (yH (by assumption))))
 | (show JS _ (.Assign [.Subscript (.Subscript _ _ _) _ _] _ _) _; first
  | refine' ot ?_ (qM ?_ ?_ (yH (by assumption))))
 | (show JS _ (.Assign [.Subscript _ _ _] (.Constant _ _ _) _) _; first
  | refine' ot ?_ (qM ?_ ?_ (yH (by assumption))))
 | (show JE _ (.Subscript (.Subscript (.Attribute _ "table" _) _ _) _ _) _; first
  | refine' xJ (by assumption) ?_ ?_)
 | (show JE _ (.Call (.Attribute _ "get" _) [_, _] [] _) _; first
  | refine' Kl (by assumption) ?_ ?_ ?_)
 | (show JE _ (.Dict [some _] [_] _) _; first
  | refine' Gk ?_ ?_)
 | (show JS _ (.AugAssign (.Attribute _ _ _) .Sub _ _) _; first
  | refine' AH (by assumption) (by assumption) ?_ ?_)
 | (show JS _ (.AugAssign (.Attribute _ _ _) .Add _ _) _; first
  | refine' xI (by assumption) ?_ ?_)
 | (show JI _ _ (.Call (.Name "zip" _) [_, .Subscript _ _ _] _ _) _; first
  | refine' FZ (BN.zip (by assumption)) ?_)
 | (show JE _ (.Call (.Name "list" _) [.Call (.Name _ _) _ _ _] _ _) _; first
  | refine' zx (by assumption) rfl ?_)
 | (show JE _ (.Call (.Name "isinstance" _) [.Name "e" _, _] _ _) _; first
  | refine' Ga (by assumption) (by rfl) (by assumption) ?_)
 | (show JE _ (.Call (.Name "Counts" _) _ _ _) _; first
  | refine' pJ (by assumption) (by assumption) (by first | assumption | omega) ?_)
 | (show JE _ (.Call (.Name "Descent" _) _ _ _) _; first
  | refine' pJ (by assumption) (by assumption) (by first | assumption | omega) ?_)
 | (show JE _ (.Call (.Name "ByNumber" _) _ _ _) _; first
  | refine' pJ (by assumption) (by assumption) (by first | assumption | omega) ?_)
 | (show JE _ (.Call (.Name "ByMarks" _) _ _ _) _; first
  | refine' pJ (by assumption) (by assumption) (by first | assumption | omega) ?_)
 | (show JE _ (.Call (.Attribute _ "insert" _) [_, _] [] _) _; first
  | refine' AK ?_ ?_)
 | (show JT _ (.Compare (.Subscript _ _ _) [.In] [.Subscript _ (.Slice _ _ _ _) _] _) _; first
  | refine' jB (Ma (by assumption)) ?_ ?_ rfl)
 | (show JE _ (.BinOp (.Name "one" _) .Mult (.Name "size" _) _) _; first
  | refine' jmS (by assumption) ?_ ?_)
 | (show JE _ (.Attribute _ _ _) _; first
  | refine' Km (by assumption) ?_)
 | (show JI _ _ (.Name "ends" _) _; first
  | refine' tZ ?_)
 | (show JE _ (.Subscript (.Name "ends" _) _ _) _; first
  | refine' xJ (by assumption) ?_ ?_)
 | (show JS _ (.Assign [.Subscript (.Name "ahead" _) _ _] _ _) _; first
  | refine' ot ?_ (qM ?_ ?_ (yH (by assumption))))
 | (show JE _ (.Call (.Attribute _ "update" _) [_] [] _) _; first
  | refine' AJ ?_ ?_)
 | (show JE _ (.Call (.Name "list" _) _ _ _) _; first
  | refine' Dw (by assumption) rfl ?_)
 | (show JB _ _ _; first
  | exact Kb
  | refine' Ka ?_
  | refine' Ge ?_ ?_)
 | (show JA _ _ _; first
  | exact Kf
  | refine' Gg ?_ ?_)
 | (show JF _ _ _; first
  | exact JY
  | refine' JX ?_)
 | (show JO _ _ _; first
  | exact FV
  | refine' FT ?_)
 | (show JS _ (.Assign [.Name _ _] _ _) _; first
  | refine' Bf 11 ?_ (by assumption)
  | refine' Bf 10 ?_ (by assumption)
  | refine' Bf 0 ?_ (by assumption)
  | refine' Bf 1 ?_ (by assumption)
  | refine' Bf 2 ?_ (by assumption)
  | refine' Bf 3 ?_ (by assumption)
  | refine' Bf 4 ?_ (by assumption)
  | refine' Bf 5 ?_ (by assumption)
  | refine' Bf 6 ?_ (by assumption)
  | refine' Bf 7 ?_ (by assumption)
  | refine' Bf 8 ?_ (by assumption)
  | refine' Bf 9 ?_ (by assumption))
 | (show JS _ (.Assign [.Attribute _ _ _] _ _) _; first
  | refine' JR (by assumption) (by assumption) ?_ ?_)
 | (show JS _ (.AugAssign (.Attribute _ _ _) _ _ _) _; first
  | refine' sx (by assumption) (by assumption) ?_ ?_)
 | (show JS _ (.Try _ _ _ _ _) _; first
  | refine' mJ (j := 3) (by assumption) (by assumption) (by first | assumption | omega) (by assumption) (by assumption) (by assumption) (by assumption) (by assumption) ?_ (λ_ => ?_)
  | refine' mJ (j := 4) (by assumption) (by assumption) (by first | assumption | omega) (by assumption) (by assumption) (by assumption) (by assumption) (by assumption) ?_ (λ_ => ?_)
  | refine' mJ (j := 5) (by assumption) (by assumption) (by first | assumption | omega) (by assumption) (by assumption) (by assumption) (by assumption) (by assumption) ?_ (λ_ => ?_)
  | refine' mJ (j := 6) (by assumption) (by assumption) (by first | assumption | omega) (by assumption) (by assumption) (by assumption) (by assumption) (by assumption) ?_ (λ_ => ?_))
 | (show JS _ (.Raise _ _ _) _; first
  | refine' Dp (by assumption) (by assumption) (by assumption) ?_)
 | (show JE _ (.Attribute _ _ _) _; first
  | refine' HE (by assumption) (by assumption) ?_)
 | (show JS _ (.Assign [.Tuple _ _ _] _ _) _; first
  | refine' ot ?_ ?_)
 | (show JS _ (.Assign [.Subscript _ _ _] _ _) _; first
  | refine' ot ?_ (qM ?_ ?_ Hq))
 | (show JS _ (.Return (some _) _) _; first
  | refine' JQ ?_)
 | (show JS _ (.If _ _ _ _) _; first
  | refine' Mw ?_ ?_ ?_)
 | (show JS _ (.For _ _ _ [] _) _; first
  | refine' Dq PassesOwn.never rfl ?_ ?_ ?_
  | refine' Dq PassesOwn.leaving rfl ?_ ?_ ?_)
 | (show JS _ (.While _ _ [] _) _; first
  | refine' vO PassesOwn.never ?_ ?_
  | refine' vO PassesOwn.leaving ?_ ?_)
 | (show JS _ (.Expr _ _) _; first
  | refine' FO ?_)
 | (show JS _ (.AugAssign (.Name _ _) _ _ _) _; first
  | refine' oq (n := 0) qz ?_ (by assumption) rfl (by first | exact io rfl | exact gQ rfl)
  | refine' oq (n := 1) qz ?_ (by assumption) rfl (by first | exact io rfl | exact gQ rfl)
  | refine' oq (n := 2) qz ?_ (by assumption) rfl (by first | exact io rfl | exact gQ rfl)
  | refine' oq (n := 3) qz ?_ (by assumption) rfl (by first | exact io rfl | exact gQ rfl)
  | refine' oq (n := 4) qz ?_ (by assumption) rfl (by first | exact io rfl | exact gQ rfl)
  | refine' oq (n := 5) qz ?_ (by assumption) rfl (by first | exact io rfl | exact gQ rfl))
 | (show JS _ (.AugAssign (.Subscript _ _ _) _ _ _) _; first
  | refine' FQ Ni qz Hq ?_ ?_ ?_)
 | (show JS _ _ _; first
  | exact FN)
 | (show JE _ (.Name _ _) _; first
  | exact jv 11
  | exact jv 10
  | exact jv 0
  | exact jv 1
  | exact jv 2
  | exact jv 3
  | exact jv 4
  | exact jv 5
  | exact jv 6
  | exact jv 7
  | exact jv 8
  | exact jv 9
  | exact JU (by assumption)
  | exact FX (by assumption)
  | exact FW (by assumption)
  | exact Kk (by assumption)
  | exact Kj (by assumption)
  | exact Mx (by assumption))
 | (show JE _ (.Constant _ _ _) _; first
  | exact MV
  | exact MI
  | exact OI)
 | (show JE _ (.BinOp (.Constant (.str _) _ _) .Mult _ _) _; first
  | refine' jmS (by assumption) ?_ ?_)
 | (show JE _ (.BinOp _ .Add _ _) _; first
  | refine' jaE (by assumption) ?_ ?_
  | refine' Ke ?_ ?_)
 | (show JE _ (.BinOp (.Tuple _ _ _) .Mult _ _) _; first
  | refine' Gc ?_ ?_)
 | (show JE _ (.BinOp _ .Sub _ _) _; first
  | refine' J8 ?_ ?_)
 | (show JE _ (.BinOp _ .Mult _ _) _; first
  | refine' Kc ?_ ?_)
 | (show JE _ (.BinOp _ .Mod _ _) _; first
  | refine' Kd ?_ ?_)
 | (show JE _ (.BinOp _ .FloorDiv _ _) _; first
  | refine' Gd ?_ ?_)
 | (show JE _ (.BinOp _ .Pow _ _) _; first
  | refine' J9 ?_ ?_)
 | (show JT _ (.Compare _ [.Eq] _ _) _; first
  | refine' Mv (by assumption) ?_ ?_)
 | (show JE _ (.Compare _ [.Eq] _ _) _; first
  | refine' MG (by assumption) ?_ ?_)
 | (show JT _ (.Compare _ [.NotEq] _ _) _; first
  | refine' Mp (by assumption) ?_ ?_)
 | (show JT _ (.Compare _ [.Lt] _ _) _; first
  | refine' Mq ?_ ?_)
 | (show JE _ (.Compare _ [.Lt] _ _) _; first
  | refine' Mz ?_ ?_)
 | (show JT _ (.Compare _ [.LtE] _ _) _; first
  | refine' Mr ?_ ?_)
 | (show JT _ (.Compare _ [.Gt] _ _) _; first
  | refine' Mt ?_ ?_)
 | (show JT _ (.Compare _ [.GtE] _ _) _; first
  | refine' Mu ?_ ?_)
 | (show JT _ (.Compare _ [.In] _ _) _; first
  | refine' Ms ?_ ?_ rfl)
 | (show JT _ (.Compare _ [.LtE, .Lt] _ _) _; first
  | refine' FM ?_ ?_ ?_)
 | (show JT _ (.UnaryOp .Not _ _) _; first
  | refine' JN ?_)
 | (show JT _ (.BoolOp _ _ _) _; first
  | refine' OF ?_)
 | (show JW _ _ _; first
  | refine' Mo ?_ ?_
  | refine' JL ?_ ?_
  | refine' JK ?_
  | refine' FL ?_)
 | (show JT _ _ _; first
  | refine' JM ?_)
 | (show JE _ (.UnaryOp .Not _ _) _; first
  | refine' ML ?_)
 | (show JE _ (.UnaryOp .USub _ _) _; first
  | refine' OG Ln ?_)
 | (show JE _ (.BoolOp _ _ _) _; first
  | refine' MZ ?_ ?_
  | refine' MK ?_)
 | (show JE _ (.IfExp _ _ _ _) _; first
  | refine' MX ?_ ?_ ?_)
 | (show JE _ (.List _ _) _; first
  | refine' MN ?_)
 | (show JE _ (.Tuple _ _ _) _; first
  | refine' MH ?_)
 | (show JE _ (.Subscript _ (.Slice _ _ _ _) _) _; first
  | refine' MJ ?_
  | refine' jsE (by assumption) ?_ ?_ ?_
  | refine' Gj ?_ ?_ ?_)
 | (show JE _ (.Subscript _ _ _) _; first
  | refine' MQ ?_ ?_)
 | (show JE _ (.Call (.Attribute _ _ _) _ _ _) _; first
  | refine' AM ?_ ?_
  | refine' AL ?_ ?_
  | refine' FY ?_ ?_
  | refine' JV ?_
  | refine' Kh (by assumption) (by assumption) (by first | assumption | omega) ?_ ?_
  | refine' Ki (by assumption) (by assumption) (by first | assumption | omega) ?_)
 | (show JE _ (.Dict [] [] _) _; first
  | exact Kn)
 | (show JE _ (.Call (.Name "isinstance" _) [.Name "caught" _, _] _ _) _; first
  | refine' Dx (by assumption) ?_)
 | (show JE _ (.Call (.Name _ _) _ _ _) _; first
  | refine' J0 (by assumption) rfl ?_
  | refine' MY (by assumption) (by assumption) (by first | assumption | omega) ?_
  | refine' DB Ft (by assumption) (by assumption) (by assumption) (by first | assumption | omega) ?_
  | refine' Ko (by assumption) (by assumption) (by first | assumption | omega) ?_
  | refine' Dz (by assumption) (by assumption) (by assumption) (by assumption) (by first | assumption | omega) (by assumption) ?_
  | refine' J7 (by assumption) ?_
  | refine' Gb (by assumption) ?_
  | refine' J6 (by assumption) rfl ?_
  | refine' JZ (by assumption) rfl ?_
  | refine' zx (by assumption) rfl ?_
  | refine' Du (by assumption) ?_)
 | (show JI _ _ (.Call (.Name _ _) _ _ _) _; first
  | refine' AQ (BN.range (by assumption)) ?_
  | refine' AO (BN.range (by assumption)) ?_
  | refine' AN (BN.range (by assumption)) ?_
  | refine' zu ?_
  | refine' zw ?_)
 | (show JI _ _ _ _; first
  | refine' zu ?_
  | refine' zw ?_)
 | (show JG _ (.Name _ _) _; first
  | exact Bh 11 (by assumption)
  | exact Bh 10 (by assumption)
  | exact Bh 0 (by assumption)
  | exact Bh 1 (by assumption)
  | exact Bh 2 (by assumption)
  | exact Bh 3 (by assumption)
  | exact Bh 4 (by assumption)
  | exact Bh 5 (by assumption)
  | exact Bh 6 (by assumption)
  | exact Bh 7 (by assumption)
  | exact Bh 8 (by assumption)
  | exact Bh 9 (by assumption))
 | (show JG _ (.Tuple _ _ _) _; first
  | exact t7 0 (by assumption)
  | exact t7 1 (by assumption)
  | exact t7 2 (by assumption)
  | exact t7 3 (by assumption)
  | exact t7 4 (by assumption)
  | exact t7 5 (by assumption)
  | exact t7 6 (by assumption)
  | exact t7 7 (by assumption)
  | exact t7 8 (by assumption)))
noncomputable def jI(names:List (Str×eo)):e8:={kind:= .function,names:=names,isGenerator:=false,isCoroutine:=false,more:=[]}
noncomputable abbrev wM:Stmt:=top 3
noncomputable abbrev wK:Stmt:=top 4
section
variable{P:aI}{w:aY}{K:PySem.W.Frag}{mg:Str->Option ae}{base:Heap}{f fi:Addr}{fd di:aW}
theorem yQ:bj ["pattern", "kind"] ["pattern"] (aM wM):=⟨rfl,rfl,rfl,by decide+kernel,rfl,by decide+kernel,by decide+kernel⟩
noncomputable def pE:im:=λps G Q=>∃p,ps=[jd p]/\Q (.tup (bJ (cF p))) G
theorem CQ(F:Fun K "inner_patterns" "inner_patterns" wM f fd)(B:BN mg):iz P w K mg base 1 f fd ["pattern"] pE:=by
 have nd:=yQ.nd
 refine jY F yQ (λvs G Q h=> ?_) (λcdv A outer s H E as G Q hr h=> ?_)
 ·obtain⟨p,rfl,_⟩:=h
  rfl
 have hU:=eI hr
 apply jc
 case a=>symm
 obtain⟨p,rfl,q⟩:=h
 cases p with
 |none=>exact⟨dE,rfl,rfl,rfl,rfl,dE,rfl,rfl,dE,G,GE.refl,q⟩
 |blank=>exact⟨dE,rfl,rfl,rfl,rfl,dE,rfl,rfl,dE,G,GE.refl,q⟩
 |sign s=>exact⟨dE,rfl,rfl,rfl,rfl,dE,rfl,rfl,dE,G,GE.refl,q⟩
 |row ps=>exact⟨dE,rfl,rfl,G,GE.refl,q⟩
 |pick ps=>exact⟨dE,rfl,rfl,G,GE.refl,q⟩
 |again p=>exact⟨dE,rfl,rfl,rfl,rfl,dE,G,GE.refl,q⟩
 |held n p=>exact⟨dE,rfl,rfl,rfl,rfl,dE,rfl,rfl,dE,G,GE.refl,q⟩
 |price n p=>exact⟨dE,rfl,rfl,rfl,rfl,dE,rfl,rfl,dE,G,GE.refl,q⟩
theorem yP:bj ["pattern", "makes", "waiting", "make"] ["pattern"] (aM wK):=⟨rfl,rfl,rfl,by decide+kernel,rfl,by decide+kernel,by decide+kernel⟩
noncomputable def pD:im:=λps G Q=>∃p,ps=[jd p]/\size p<=10000/\∀c,G c=none->Q (.ref c) (up G c (.lst (bJ (makes p))))
theorem CK(F:Fun K "makes_of" "makes_of" wK f fd)(B:BN mg)(C:dC P w K mg base 1 "inner_patterns" fi di ["pattern"] pE):iz P w K mg base 2 f fd ["pattern"] pD:=by
 have nd:=yP.nd
 refine jY F yP (λvs G Q h=> ?_) (λcdv A outer s H E as G Q hr h=> ?_)
 ·obtain⟨p,rfl,_⟩:=h
  rfl
 have hU:=eI hr
 apply jc
 case a=>symm
 obtain⟨p,rfl,hz,q⟩:=h
 refine⟨dE,λm hm=>⟨dE,λv hv=> ?_⟩⟩
 obtain⟨hvm,hv⟩:=dD hv
 refine⟨λk τ G'=>∃(dn st:List Pt) (z:Option PV),τ=[some (jd p),some (.ref m),some (.ref v),z]/\G' m=some (.lst (bJ dn))/\G' v=some (.lst (bJ st.reverse))/\GE G G'/\dn++cO st=makes p/\k=ck st,
  ⟨_,[],[p],.none,rfl,by rw[aL (aG hvm),ao];rfl,by rw[ao];rfl,(GE.refl.new hm).mod hv,by simp[cO],rfl⟩,?_⟩
 rintro k τ G' ⟨dn,st,z,rfl,gm,gv,ge,he,rfl⟩
 have hl:dn.length+ck st=size p:=by
  have:=congrArg cG he
  rwa [aN,e7,bO]at this
 refine mG (aV gv) ?_
 cases st with
 |nil=>
  have hd:dn=makes p:=by simpa [cO]using he
  subst hd
  exact⟨_,ge.at gm,q m hm⟩
 |cons x st=>
  have ln:(bJ (x::st).reverse).length=st.length+1:=by rw[cR,bA];rfl
  have hs:ck (x::st)=size x+ck st:=rfl
  have hx:=jx x
  have hi:=fU (cF x)
  have hst:=fU st
  rw[show bJ (x::st).reverse=bJ st.reverse++[jd x]by rw[eK,kx];rfl]at gv ln⊢
  refine iU ?_ ?_
  ·refine decide_eq_true ?_
   rw[ln];ac_nf
  refine⟨⟨_,gv⟩,Cg gv ?_⟩
  refine⟨⟨bJ dn,by rw[aL (aG hvm)];exact gm⟩,ik (by rw[aL (aG hvm)];exact gm) (by rw[cR];ac_nf) ?_⟩
  refine⟨⟨_,by rw[aL hvm,ao]⟩,x,rfl,DR (by rw[aL hvm,ao]) ?_ ?_⟩
  ·rw[bA,cR,cR,bA];ac_nf
  refine⟨ck (cF x++st),?_,dn++[x],cF x++st,_,rfl,?_,?_,((ge.mod hv).mod hm).mod hv,?_,rfl⟩
  ·rw[mv];ac_nf
  ·rw[aL (aG hvm),ao,kx];rfl
  ·rw[ao,nz,kx,uj (cF x)]
  ·rw[ll]
   rw[<-he]
   simp[cO,gn x]
end
theorem um{lo:Int}{n i:Nat}{x:PV}(h:(jl lo n)[i]? =some x):i<n/\x= .int (lo-i):=by
 unfold jl at h
 rw[aF]at h
 cases e:(cV n)[i]? with
 |none=>rw[e]at h;cases h
 |some j=>
  rw[e]at h
  have hi:i<n:=by
   have:=(am.mp e).1
   simpa using this
  rw[cX hi]at e
  cases e
  cases h
  exact⟨hi,rfl⟩
theorem qW(lo:Int)(n:Nat):(jl lo n).length=n:=by unfold jl;simp
theorem zA{n j:Nat}(h:j<n):xK n (j:Int)=some j:=by
 unfold xK
 rw[if_pos (by ac_nf),if_pos (by ac_nf)]
 simp
theorem rj{α:Type}(xs:List α)(x:α):oV (xs++[x]) (-1)=some x:=by
 unfold oV xK
 rw[if_neg (by ac_nf),if_pos (by simp;ac_nf)]
 show(xs++[x])[(-1+((xs++[x]).length:Int)).toNat]? =some x
 rw[aN,show(-1+((xs.length+[x].length:Nat):Int)).toNat=xs.length by simp;ac_nf]
 simp
theorem GM{ps:List Pt}{i:Nat}{x:PV}(h:(bJ ps)[i]? =some x):∃c,ps[i]? =some c/\x=jd c:=by
 rw[dA,aF]at h
 cases e:ps[i]? with
 |none=>rw[e]at h;cases h
 |some c=>rw[e]at h;cases h;exact⟨c,rfl,rfl⟩
theorem ux{ps:List Pt}{i:Nat}{c:Pt}(h:ps[i]? =some c):(bJ ps)[i]? =some (jd c):=by
 rw[dA,aF,h];rfl
noncomputable abbrev lZ:Stmt:=top 5
section
variable{P:aI}{w:aY}{K:PySem.W.Frag}{mg:Str->Option ae}{base:Heap}{f fi fm:Addr}{fd di dm:aW}
theorem sg:bj ["pattern", "makes", "sizes", "parts", "number", "numbers", "part"] ["pattern"] (aM lZ):=⟨rfl,rfl,rfl,by decide+kernel,rfl,by decide+kernel,by decide+kernel⟩
theorem sF:fq (aM lZ) ["pattern", "makes", "sizes", "parts", "number", "numbers", "part"] (jI [(".0",.local),("make",.local)]) ["make"] [none] 0 "make" =true:=by decide+kernel
noncomputable def nR:im:=λps G Q=>∃p,ps=[jd p]/\size p<=10000/\∀c,G c=none->Q (.ref c) (up G c (.lst (fZ p)))
theorem xw(F:Fun K "parts_of" "parts_of" lZ f fd)(B:BN mg)(CI:dC P w K mg base 1 "inner_patterns" fi di ["pattern"] pE)(CM:dC P w K mg base 2 "makes_of" fm dm ["pattern"] pD):iz P w K mg base 3 f fd ["pattern"] nR:=by
 have nd:=sg.nd
 refine jY F sg (λvs G Q h=> ?_) (λcdv A outer s H E as G Q hr h=> ?_)
 ·obtain⟨p,rfl,_⟩:=h
  rfl
 have hU:=eI hr
 apply jc
 case a=>
  symm
  all_goals try (refine' pI (n:=2) (ix:=[none]) (j:=0) nd rfl rfl sF rfl ?_ (λC s H fp=>⟨?_,?_⟩))
  all_goals try (refine' pI (n:=3) (ix:=[none]) (j:=0) nd rfl rfl sF rfl ?_ (λC s H fp=>⟨?_,?_⟩))
  all_goals symm
 obtain⟨p,rfl,hz,q⟩:=h
 have lM:(bJ (makes p)).length=size p:=by rw[cR,bO]
 exists⟨p,rfl,hz,λmk hmk=> ?_⟩
 left
 rw[iT]
 left
 intro sz hsz
 have nsm:sz≠mk:=(dD hsz).1
 refine nj (λ_=>true) (λ_=> .int 1) (by rw[lM];ac_nf) (λys=>aV (by rw[aL (aG nsm),ao])) (λx ys R _ hR=>hR) (λx ys R _ _ hR=>hR) ?_
 rw[nE.mpr (λ_ _=>rfl),List.map_const',lM]
 left
 rw[aV (show up (up G mk _) sz _ mk=some (.lst (bJ (makes p)))by rw[aL (aG nsm),ao])]
 left
 intro pa hpa
 obtain⟨nps,hpa2⟩:=dD hpa
 obtain⟨npm,hpa3⟩:=dD hpa2
 have hsz':=(dD hsz).2
 refine nj (λ_=>true) (λ_=> .tup []) (by rw[lM];ac_nf) (λys=>aV (by rw[aL (aG npm),aL (aG nsm),ao])) (λx ys R _ hR=>hR) (λx ys R _ _ hR=>⟨dE,hR⟩) ?_
 rw[nE.mpr (λ_ _=>rfl),List.map_const',lM]
 exists mG (xs:=bJ (makes p)) (aV (by rw[aL (aG npm),aL (aG nsm),ao])) ?_
 rw[lM]
 exists⟨rfl,⟨by ac_nf,by ac_nf,by decide,by decide⟩,?_⟩
 rw[show((size p:Int)-1- -1).toNat=size p by ac_nf]
 refine⟨λi τ G2=>∃(S T:List PV) (t4 t5 t6:Option PV),τ=[some (jd p),some (.ref mk),some (.ref sz),some (.ref pa),t4,t5,t6]/\G2 mk=some (.lst (bJ (makes p)))/\G2 sz=some (.lst S)/\G2 pa=some (.lst T)/\GE G G2/\
  S.length=size p/\T.length=size p/\(∀j,j<size p-i->S[j]? =some (.int 1))/\(∀j c,size p-i<=j->(makes p)[j]? =some c->S[j]? =some (.int (size c))/\T[j]? =some (.tup ((cJ (j+1) (cF c)).map cI))),?_,?_,?_,?_⟩
 ·refine⟨_,_,_,_,_,rfl,by rw[aL (aG npm),aL (aG nsm),ao],by rw[aL (aG nps),ao],ao,((GE.refl.new hmk).mod hsz').mod hpa3,by simp,by simp,λj hj=> ?_,λj c hj hc=> ?_⟩
  ·rw[j5,if_pos (by ac_nf)]
  ·have:=(am.mp hc).1
   rw[bO]at this
   ac_nf
 ·intros;trivial
 ·rintro i x τ G2 hx ⟨S,T,t4,t5,t6,rfl,gm,gs,gp,ge,lS,lT,h1,h2⟩
  obtain⟨hi,rfl⟩:=um hx
  obtain⟨j0,hj0⟩:∃j0,j0=size p-1-i:=⟨_,rfl⟩
  have hjn:((size p:Int)-1-i)=(j0:Int):=by ac_nf
  rw[hjn]
  have hjl:j0<(makes p).length:=by rw[bO];ac_nf
  obtain⟨c0,hc0⟩:∃c0,(makes p)[j0]? =some c0:=⟨_,al hjl⟩
  exists⟨dE,λnb hnb=> ?_⟩
  have nbm:mk≠nb:=aZ gm hnb
  have nbs:sz≠nb:=aZ gs hnb
  have nbp:pa≠nb:=aZ gp hnb
  exists cQ (aV (by rw[aL nbm];exact gm)) (bS (ux hc0)) ?_
  exists⟨c0,rfl,?_⟩
  exists⟨λk τ G3=>∃(S2:List PV) (t6:Option PV),τ=[some (jd p),some (.ref mk),some (.ref sz),some (.ref pa),some (.int j0),some (.ref nb),t6]/\G3 mk=some (.lst (bJ (makes p)))/\G3 sz=some (.lst S2)/\G3 pa=some (.lst T)/\G3 nb=some (.lst ((cJ (j0+1) ((cF c0).take k)).map cI))/\GE G G3/\
   S2.length=size p/\S2[j0]? =some (.int (1+ck ((cF c0).take k)))/\∀j,j≠j0->S2[j]? =S[j]?,?_,?_,?_,?_⟩
  ·refine⟨S,t6,rfl,by rw[aL nbm];exact gm,by rw[aL nbs];exact gs,by rw[aL nbp];exact gp,ao,ge.new hnb,lS,?_,λ_ _=>rfl⟩
   rw[h1 j0 (by ac_nf)];simp[ck]
  ·intros;trivial
  ·rintro k x τ G3 hx3 ⟨S2,t6',rfl,gm3,gs3,gp3,gn3,ge3,lS2,e1,e2⟩
   obtain⟨c,hc,rfl⟩:=GM hx3
   have hkl:k<(cF c0).length:=(am.mp hc).1
   have tk:(cF c0).take (k+1)=(cF c0).take k++[c]:=by rw[bZ,hc];rfl
   have spl:cF c0=(cF c0).take k++c::(cF c0).drop (k+1):=by
    have e3:=(er k (cF c0)).symm
    rw[dj hkl]at e3
    have e4:(cF c0)[k]=c:=by
     have:=hc;rw[al hkl]at this;exact a8 this
    rw[e4]at e3
    exact e3
   have hpart:=uX hc0 spl
   have hle:=uW hpart
   have hcp:=uV c
   exists⟨⟨_,gn3⟩,?_⟩
   exists cQ (aV gs3) (bS e1) ?_
   exists x9 ?_
   exists ik gn3 (by rw[ap,eD,bb];have:=fU (cF c0);have:=uW hc0;have:=jx c0;ac_nf) ?_
   have nn:(nb:Addr)≠sz:=aG nbs
   exists M0 (i:=(j0:Int)) (aV (by rw[aL nbs];exact gs3)) (bS e1) ?_
   exists cQ (aV ao) (rj _ _) ?_
   left
   have e5:S2[j0+1+ck ((cF c0).take k)]? =some (.int (size c)):=by
    rw[e2 _ (by ac_nf)]
    exact(h2 _ c (by ac_nf) hpart).1
   refine cQ (aV (by rw[aL nbs];exact gs3)) (by
    have e6:=bS e5
    rw[show(((j0+1+ck ((cF c0).take k):Nat):Int))=(j0:Int)+(1+(ck ((cF c0).take k):Int))by ac_nf]at e6
    exact e6) ?_
   exists qo (k:=(j0:Int)) (by rw[aL nbs];exact gs3) (zA (by ac_nf)) ?_
   refine⟨_,_,rfl,by rw[aL (aG nsm),aL nbm];exact gm3,ao,by rw[aL (by exact nps),aL nbp];exact gp3,?_,(ge3.mod (by
    cases e:G nb with
    |none=>rfl
    |some o=>rw[ge _ _ e]at hnb;cases hnb)).mod hsz',by rw[gI];exact lS2,?_,λj hj=> ?_⟩
   ·rw[aL (aG nbs),ao,tk,ls,aS]
    simp[cJ,cI]
    ac_nf
   ·rw[cE (by ac_nf),tk,mv]
    simp[ck];ac_nf
   ·rw[cf (aG hj)];exact e2 j hj
  ·rintro τ G3 ⟨S2,t6',rfl,gm3,gs3,gp3,gn3,ge3,lS2,e1,e2⟩
   rw[cR,bD]at gn3 e1
   exists iX (aV gn3) ?_
   exists qo (k:=(j0:Int)) gp3 (zA (by ac_nf)) ?_
   refine⟨S2,_,_,_,_,rfl,by rw[aL (aG npm)];exact gm3,by rw[aL (aG nps)];exact gs3,ao,ge3.mod hpa3,lS2,by rw[gI];exact lT,λj hj=> ?_,λj c hj hc=> ?_⟩
   ·rw[e2 j (by ac_nf)];exact h1 j (by ac_nf)
   ·by_cases hjj:j=j0
    ·subst hjj
     rw[hc0]at hc;cases hc
     refine⟨?_,?_⟩
     ·rw[e1,jx c0];simp
     ·rw[cE (by ac_nf)]
    ·rw[e2 j hjj,cf (aG hjj)]
     exact h2 j c (by ac_nf) hc
 ·rintro τ G2 ⟨S,T,t4,t5,t6,rfl,gm,gs,gp,ge,lS,lT,h1,h2⟩
  rw[qW]at h1 h2
  have eT:T=fZ p:=by
   apply List.ext_getElem?
   intro j
   by_cases hj:j<size p
   ·obtain⟨c,hc⟩:∃c,(makes p)[j]? =some c:=⟨_,al (by rw[bO];exact hj)⟩
    rw[(h2 j c (by ac_nf) hc).2,fM hc]
   ·rw[eA (by ac_nf),eA (by rw[rJ];ac_nf)]
  subst eT
  exact⟨_,ge.at gp,q pa hpa3⟩
end
noncomputable abbrev HZ:Stmt:=top 7
section
variable{P:aI}{w:aY}{K:PySem.W.Frag}{mg:Str->Option ae}{base:Heap}{f:Addr}{fd:aW}
theorem Hy:bj ["ways", "more", "times", "place"] ["ways", "more", "times"] (aM HZ):=⟨rfl,rfl,rfl,by decide+kernel,rfl,by decide+kernel,by decide+kernel⟩
noncomputable def uU:im:=λps G Q=>∃(a b:Addr) (t n:Nat) (ws ms:Ws) (h g:Nat->Nat),ps=[.ref a,.ref b,.int (t:Int)]/\G a=some (.dK (eR ws))/\G b=some (.rd (eR ms))/\Wy ws n h/\Wy ms n g/\0<t/\n<=1000/\(∀w∈ms,w.2<2^64)/\Q .non (up G a (.dK (eR (lR t ws ms))))
theorem Jl(F:Fun K "add_ways" "add_ways" HZ f fd)(B:BN mg):iz P w K mg base 1 f fd ["ways", "more", "times"] uU:=by
 have nd:=Hy.nd
 refine jY F Hy (λvs G Q h=> ?_) (λcdv A outer s H E as G Q hr h=> ?_)
 ·obtain⟨_,_,_,_,_,_,_,_,rfl,_⟩:=h
  rfl
 have hU:=eI hr
 apply jc
 case a=>symm
 obtain⟨a,b,t,n,ws,ms,h,g,rfl,ga,gb,hw,hm,ht,hn,hb,q⟩:=h
 have key:(eR ms).map (λkv=>kP kv.1)=ms.map λw=>PV.int (w.1:Int):=by unfold eR;rw[bT];rfl
 have nab:b≠a:=λz=>by rw[z,ga]at gb;cases gb
 exists xU rfl gb ?_
 rw[key]
 refine⟨λi τ G'=>∃z:Option PV,τ=[some (.ref a),some (.ref b),some (.int (t:Int)),z]/\G'=up G a (.dK (eR (lR t ws (ms.take i)))),⟨none,rfl,?_⟩,?_,?_,?_⟩
 ·rw[List.take_zero];exact(yk ga).symm
 ·rintro i τ G' _ ⟨z,_,rfl⟩
  rw[aL nab];exact gb
 ·rintro i x τ G' hx ⟨z,rfl,rfl⟩
  rw[aF]at hx
  cases em:ms[i]? with
  |none=>rw[em]at hx;cases hx
  |some m=>
   rw[em]at hx
   cases hx
   have hi:=hw.put_part (i:=i) ht hm
   exists⟨qQ (jm ao),?_⟩
   exists ug (jm ao) rfl ?_
   rw[uF hi.pos]
   left
   have e1:=oj hm.nd em
   have hp:=hm.pos m (ax em)
   refine lm (mV (by rw[aL nab];exact gb)) rfl (show gU (eR ms) (.inl (m.1:Int))=some (.int (m.2:Int))by rw[mh ms m.1 hm.pos,e1,if_neg (by ac_nf)]) ?_
   exists C9 (.inl ⟨by ac_nf,by have:=hb m (ax em);ac_nf⟩) ?_
   exists x9 ?_
   exists w9 ao rfl (by have:=hi.len;unfold eR;rw[ap];ac_nf) ?_
   refine⟨_,rfl,?_⟩
   rw[fO,Bb em,<-qu _ _ _ hi.nd]
   congr 4
 ·rintro τ G' ⟨z,rfl,rfl⟩
  rw[ap,bD]
  exact⟨_,GE.refl,q⟩
end
noncomputable abbrev yg:Stmt:=dJ (top 8) 0
noncomputable abbrev wG:Stmt:=dJ (top 8) 2
noncomputable abbrev Bu:Stmt:=dJ (top 8) 3
noncomputable abbrev HU:Stmt:=dJ (top 8) 4
noncomputable abbrev Bp:Stmt:=dJ (top 8) 5
noncomputable abbrev wR:Stmt:=dJ (top 8) 6
section
variable{P:aI}{w:aY}{K:PySem.W.Frag}{mg:Str->Option ae}{base:Heap}{f fa C:Addr}{fd da:aW}
theorem Hr:bj ["self", "number", "at", "ways", "part", "further", "place"] ["self", "number", "at"] (aM HU):=⟨rfl,rfl,rfl,by decide+kernel,rfl,by decide+kernel,by decide+kernel⟩
noncomputable def Bd(C:Addr)(V:List Nat->Pt->Nat->Nat->Nat)(ok:Pt->Bool):im:=λps G Q=>∃(a dx m pa tb:Addr) (ts:List Addr) (T:List Nat) (p q:Pt) (n e:Nat),ps=[.ref a,.int (n:Int),.int (e:Int)]/\Cs T p/\Tb C G a T p (Dn n e) dx m pa tb ts/\(makes p)[n]? =some q/\ok q=true/\e<=T.length/\
 ∀d ws,G d=none->Wy ws (T.length+1) (V T q e)->Q (.ref d) (up G d (.rd (eR ws)))
noncomputable def H0:List Nat->Pt->Nat->Nat->Nat:=λT q e=>qt T (cF q) (dl e)
theorem Jg(c:Cls K C)(n1:NoAttr K C "signs")(n2:NoAttr K C "makes")(n3:NoAttr K C "parts")(n4:NoAttr K C "table")(F:Fun K "count_row" "Counts.count_row" HU f fd)(B:BN mg)(CA:dC P w K mg base 1 "add_ways" fa da ["ways", "more", "times"] uU):iz P w K mg base 2 f fd ["self", "number", "at"] (Bd C H0 λ_=>true):=by
 have nd:=Hr.nd
 refine GD F Hr (λvs G Q h=> ?_) (λcdv A outer s H E as G Q hr h=> ?_)
 ·obtain⟨_,_,_,_,_,_,_,_,_,_,_,rfl,_⟩:=h
  rfl
 have hU:=eI hr
 apply jc
 case a=>symm
 obtain⟨a,dx,m,pa,tb,ts,T,p,qq,n,e,rfl,cs,tbl,hq,-,he,q⟩:=h
 left
 intro w0 hw0
 exists uq rfl ao ?_
 rw[fO]
 exists cy (by rw[aL (aZ tbl.ins hw0)];exact tbl.ins) rfl ?_
 exists cQ (aV (by rw[aL (aZ tbl.pts hw0)];exact tbl.pts)) (bS (fM hq)) ?_
 left
 have lnP:((cJ (n+1) (cF qq)).map cI).length=(cF qq).length:=by rw[ap,eD]
 refine⟨λi τ G'=>∃(w1:Addr) (ws:Ws) (t4 t5 t6:Option PV),τ=[some (.ref a),some (.int (n:Int)),some (.int (e:Int)),some (.ref w1),t4,t5,t6]/\G w1=none/\G' w1=some (.dK (eR ws))/\GE G G'/\Wy ws (T.length+1) (qt T ((cF qq).take i) (dl e)),?_,?_,?_,?_⟩
 ·exact⟨w0,[(e,1)],none,none,none,rfl,hw0,ao,GE.refl.new hw0,Wy.one (by ac_nf)⟩
 ·intros;trivial
 ·rintro i x τ G' hx ⟨w1,ws,t4,t5,t6,rfl,hw1,gw,ge,wy⟩
  have hxl:=(am.mp hx).1
  rw[lnP]at hxl
  obtain⟨cc,hcc⟩:∃cc,(cF qq)[i]? =some cc:=⟨_,al hxl⟩
  obtain⟨j,rfl,hj,hnj⟩:=gD hq hcc hx
  left
  intro fu hfu
  have nfw:fu≠w1:=λz=>by rw[z,gw]at hfu;cases hfu
  have hfu0:G fu=none:=by
   cases ez:G fu with
   |none=>rfl
   |some o=>rw[ge _ _ ez]at hfu;cases hfu
  exists KG rfl (by rw[aL (aG nfw)];exact gw) ?_
  rw[jk]
  refine⟨λi τ G2=>∃(fs:Ws) (t6:Option PV),τ=[some (.ref a),some (.int (n:Int)),some (.int (e:Int)),some (.ref w1),some (.int (j:Int)),some (.ref fu),t6]/\G2 w1=some (.rd (eR ws))/\G2 fu=some (.dK (eR fs))/\GE G G2/\Wy fs (T.length+1) (xo T cc (ws.take i)),?_,?_,?_,?_⟩
  ·exact⟨[],t6,rfl,ao,by rw[aL nfw,ao];rfl,((ge.mod hfu0).mod hw1),Wy.nil⟩
  ·rintro i τ G2 _ ⟨fs,t6,_,g1,_⟩
   exact g1
  ·rintro i2 x τ G2 hx ⟨fs,t6,rfl,g1,g2,kq,wf⟩
   obtain⟨v,hv,rfl⟩:=zt hx
   obtain⟨k1,k2,k3⟩:=wy.key hv
   have hle:e<=v.1:=y0 _ (λk hk=>Nz hk) v.1 (by rw[k1];ac_nf)
   have tb2:=tbl.ge kq
   obtain⟨t,d,kvs,ms,r1,r2,r3,r4,r5⟩:=tb2.read hj (k:=v.1) (by
    rcases cP e v.1 with z|z
    ·exact .inl z
    ·exact .inr ⟨by ac_nf,hnj⟩) (by ac_nf)
   exists cy tb2.ins rfl ?_
   exists cQ (aV tb2.tbl) (bS r1) ?_
   exists lm (jm r2) rfl r3 ?_
   exists lm (mV g1) rfl (wy.read hv) ?_
   exists⟨fu,d,v.2,T.length+1,fs,ms,_,_,rfl,g2,r4,wf,r5,k2,by have:=cs.len;ac_nf,r5.big cs (ax hj) (by ac_nf),?_⟩
   refine⟨lR v.2 fs ms,_,rfl,by rw[aL (aG nfw)];exact g1,ao,kq.mod hfu0,?_⟩
   refine(wf.add k2 r5.nd r5.lt r5.pos).congr λx=> ?_
   rw[ss hv,r5.val]
  ·rintro τ G2 ⟨fs,t6,rfl,g1,g2,kq,wf⟩
   rw[ap,bD]at wf
   exists⟨fu,fs,_,_,_,rfl,hfu0,g2,kq,wf.congr λx=> ?_⟩
   rw[vo wy,lV,hcc]
   exact congrFun (sj T cc _ _).symm x
 ·rintro τ G' ⟨w1,ws,t4,t5,t6,rfl,hw1,gw,ge,wy⟩
  rw[lnP]at wy
  rw[bD]at wy
  left
  exact⟨_,GW.rd ge gw,q w1 ws hw1 wy⟩
end
section
variable{P:aI}{w:aY}{K:PySem.W.Frag}{mg:Str->Option ae}{base:Heap}{f fa C:Addr}{fd da:aW}
theorem BV:bj ["self", "number", "at", "ways", "part"] ["self", "number", "at"] (aM Bp):=⟨rfl,rfl,rfl,by decide+kernel,rfl,by decide+kernel,by decide+kernel⟩
noncomputable def BB:List Nat->Pt->Nat->Nat->Nat:=λT q e j=>((cF q).map λp=>nT T p e j).sum
theorem none_of{G G':Gp}{a:Addr}(ge:GE G G')(h:G' a=none):G a=none:=by
 cases ez:G a with
 |none=>rfl
 |some o=>rw[ge _ _ ez]at h;cases h
theorem Fy(c:Cls K C)(n1:NoAttr K C "signs")(n2:NoAttr K C "makes")(n3:NoAttr K C "parts")(n4:NoAttr K C "table")(F:Fun K "count_pick" "Counts.count_pick" Bp f fd)(B:BN mg)(CA:dC P w K mg base 1 "add_ways" fa da ["ways", "more", "times"] uU):iz P w K mg base 2 f fd ["self", "number", "at"] (Bd C BB λ_=>true):=by
 have nd:=BV.nd
 refine GD F BV (λvs G Q h=> ?_) (λcdv A outer s H E as G Q hr h=> ?_)
 ·obtain⟨_,_,_,_,_,_,_,_,_,_,_,rfl,_⟩:=h
  rfl
 have hU:=eI hr
 apply jc
 case a=>symm
 obtain⟨a,dx,m,pa,tb,ts,T,p,qq,n,e,rfl,cs,tbl,hq,-,he,q⟩:=h
 left
 intro w0 hw0
 exists cy (by rw[aL (aZ tbl.ins hw0)];exact tbl.ins) rfl ?_
 exists cQ (aV (by rw[aL (aZ tbl.pts hw0)];exact tbl.pts)) (bS (fM hq)) ?_
 left
 have lnP:((cJ (n+1) (cF qq)).map cI).length=(cF qq).length:=by rw[ap,eD]
 refine⟨λi τ G'=>∃(ws:Ws) (t4:Option PV),τ=[some (.ref a),some (.int (n:Int)),some (.int (e:Int)),some (.ref w0),t4]/\G' w0=some (.dK (eR ws))/\GE G G'/\Wy ws (T.length+1) (λj=>(((cF qq).take i).map λp=>nT T p e j).sum),?_,?_,?_,?_⟩
 ·exact⟨[],none,rfl,ao,GE.refl.new hw0,Wy.nil⟩
 ·intros;trivial
 ·rintro i x τ G' hx ⟨ws,t4,rfl,gw,ge,wy⟩
  have hxl:=(am.mp hx).1
  rw[lnP]at hxl
  obtain⟨cc,hcc⟩:∃cc,(cF qq)[i]? =some cc:=⟨_,al hxl⟩
  obtain⟨j,rfl,hj,hnj⟩:=gD hq hcc hx
  have tb2:=tbl.ge ge
  obtain⟨t,d,kvs,ms,r1,r2,r3,r4,r5⟩:=tb2.read hj (k:=e) (.inr ⟨rfl,hnj⟩) he
  exists cy tb2.ins rfl ?_
  exists cQ (aV tb2.tbl) (bS r1) ?_
  exists lm (jm r2) rfl r3 ?_
  exists⟨w0,d,1,T.length+1,ws,ms,_,_,rfl,gw,r4,wy,r5,by ac_nf,by have:=cs.len;ac_nf,r5.big cs (ax hj) he,?_⟩
  refine⟨lR 1 ws ms,_,rfl,ao,ge.mod hw0,?_⟩
  refine(wy.add (by ac_nf) r5.nd r5.lt r5.pos).congr λx=> ?_
  rw[r5.val,lV,hcc]
  simp
 ·rintro τ G' ⟨ws,t4,rfl,gw,ge,wy⟩
  rw[lnP]at wy
  rw[bD]at wy
  left
  exact⟨_,GW.rd ge gw,q w0 ws hw0 wy⟩
theorem yW:bj ["self", "number", "at", "ways", "turns", "place"] ["self", "number", "at"] (aM wR):=⟨rfl,rfl,rfl,by decide+kernel,rfl,by decide+kernel,by decide+kernel⟩
noncomputable def zW:List Nat->Pt->Nat->Nat->Nat:=λT q e=>nT T q e
noncomputable def Kv:Pt->Bool
 | .again _=>true
 |_=>false
theorem CZ(c:Cls K C)(n1:NoAttr K C "signs")(n2:NoAttr K C "makes")(n3:NoAttr K C "parts")(n4:NoAttr K C "table")(F:Fun K "count_again" "Counts.count_again" wR f fd)(B:BN mg)(CA:dC P w K mg base 1 "add_ways" fa da ["ways", "more", "times"] uU):iz P w K mg base 2 f fd ["self", "number", "at"] (Bd C zW Kv):=by
 have nd:=yW.nd
 refine GD F yW (λvs G Q h=> ?_) (λcdv A outer s H E as G Q hr h=> ?_)
 ·obtain⟨_,_,_,_,_,_,_,_,_,_,_,rfl,_⟩:=h
  rfl
 have hU:=eI hr
 apply jc
 case a=>symm
 obtain⟨a,dx,m,pa,tb,ts,T,p,qq,n,e,rfl,cs,tbl,hq,hag,he,q⟩:=h
 cases qq with
 |again r=>
  have hcb:=cs.ag r (ax hq)
  obtain⟨j,ej,hj,hnj⟩:=gD (i:=0) (cc:=r) hq rfl rfl
  have hj1:j=n+1:=iF.mp (PV.int.inj ej).symm
  left
  intro w0 hw0
  exists uq rfl ao ?_
  rw[fO]
  have ge0:GE G (up G w0 (.dK [(.inl (e:Int),.int 1)])):=GE.refl.new hw0
  have tb1:=tbl.ge ge0
  obtain⟨t,d,kvs,tw,r1,r2,r3,r4,r5⟩:=tb1.read hj (k:=e) (.inr ⟨rfl,hnj⟩) he
  exists cy tb1.ins rfl ?_
  exists cy tb1.ins rfl ?_
  exists cQ (aV tb1.pts) (bS (fM hq)) ?_
  exists ko (x:= .int (j:Int)) (by rw[hj1];rfl) ?_
  exists cQ (aV tb1.tbl) (bS r1) ?_
  exists lm (jm r2) rfl r3 ?_
  exists xU rfl r4 ?_
  rw[jk]
  refine⟨λi τ G'=>∃(ws:Ws) (t5:Option PV),τ=[some (.ref a),some (.int (n:Int)),some (.int (e:Int)),some (.ref w0),some (.ref d),t5]/\G' w0=some (.dK (eR ws))/\G' d=some (.rd (eR tw))/\GE G G'/\Wy ws (T.length+1) (λj=>dl e j+xo T (.again r) (tw.take i) j),?_,?_,?_,?_⟩
  ·exact⟨[(e,1)],none,rfl,ao,r4,ge0,(Wy.one (by ac_nf)).congr λj=>rfl⟩
  ·rintro i τ G' _ ⟨ws,t5,_,_,g2,_⟩
   exact g2
  ·rintro i x τ G' hx ⟨ws,t5,rfl,gw,gd,ge,wy⟩
   obtain⟨v,hv,rfl⟩:=zt hx
   obtain⟨k1,k2,k3⟩:=r5.key hv
   have hle:e<v.1:=by
    rcases cP e v.1 with z|z
    ·exact z
    ·rw[kh hcb z]at k1;ac_nf
   have tb2:=tbl.ge ge
   obtain⟨t2,d2,kvs2,ms,s1,s2,s3,s4,s5⟩:=tb2.read hq (k:=v.1) (.inl hle) (by ac_nf)
   exists cy tb2.ins rfl ?_
   exists cQ (aV tb2.tbl) (bS s1) ?_
   exists lm (jm s2) rfl s3 ?_
   exists lm (mV gd) rfl (r5.read hv) ?_
   exists⟨w0,d2,v.2,T.length+1,ws,ms,_,_,rfl,gw,s4,wy,s5,k2,by have:=cs.len;ac_nf,s5.big cs (ax hq) (by ac_nf),?_⟩
   refine⟨lR v.2 ws ms,_,rfl,ao,by rw[aL (λz=>by rw[z,gw]at gd;cases gd)];exact gd,ge.mod hw0,?_⟩
   refine(wy.add k2 s5.nd s5.lt s5.pos).congr λx=> ?_
   rw[ss hv,s5.val,Nat.add_assoc]
  ·rintro τ G' ⟨ws,t5,rfl,gw,gd,ge,wy⟩
   rw[ap,bD]at wy
   exists⟨_,GW.rd ge gw,q w0 ws hw0 (wy.congr λx=> ?_)⟩
   rw[vo r5]
   exact(iL hcb he).symm
 |_=>cases hag
end
section
variable{P:aI}{w:aY}{K:PySem.W.Frag}{mg:Str->Option ae}{base:Heap}{f fa fp fr C:Addr}{fd da dp dr:aW}
theorem Nb{S:Str}{c:Nat}{G:Gp}{Q:K2}(q:Q (.bl (decide (c∈S.cps.toList))) G):Na false (.str ⟨#[c]⟩) (.str S) G Q:=by
 show Q (.bl ((!(fX S ⟨#[c]⟩ 0 S.length 1).isEmpty))) G
 rw[StrLaws.found_one];exact q
theorem tV{z:Str}{G:Gp}{Q:K2}(h:z.length<=16000000)(q:Q (.int z.length) G):jA [.str z] G Q:=⟨h,q⟩
theorem B0:bj ["self", "number", "at", "make", "kind"] ["self", "number", "at"] (aM Bu):=⟨rfl,rfl,rfl,by decide+kernel,rfl,by decide+kernel,by decide+kernel⟩
theorem FC(c:Cls K C)(n1:NoAttr K C "signs")(n2:NoAttr K C "makes")(n3:NoAttr K C "parts")(n4:NoAttr K C "table")(F:Fun K "count_from" "Counts.count_from" Bu f fd)(B:BN mg)(MP:dF P w K mg base C 2 "count_pick" fp dp ["self", "number", "at"] (Bd C BB λ_=>true))(MA:dF P w K mg base C 2 "count_again" fa da ["self", "number", "at"] (Bd C zW Kv))(MR:dF P w K mg base C 2 "count_row" fr dr ["self", "number", "at"] (Bd C H0 λ_=>true)):iz P w K mg base 3 f fd ["self", "number", "at"] (Bd C zW λ_=>true):=by
 have nd:=B0.nd
 refine GD F B0 (λvs G Q h=> ?_) (λcdv A outer s H E as G Q hr h=> ?_)
 ·obtain⟨_,_,_,_,_,_,_,_,_,_,_,rfl,_⟩:=h
  rfl
 have hU:=eI hr
 apply jc
 case a=>symm
 obtain⟨a,dx,m,pa,tb,ts,T,p,qq,n,e,rfl,cs,tbl,hq,-,he,q⟩:=h
 exists cy tbl.ins rfl ?_
 exists cQ (aV tbl.mks) (bS (ux hq)) ?_
 left
 cases qq with
 |none=>
  nofun
  exists iV rfl rfl (iU rfl ?_)
  left
  intro w0 hw0
  exact⟨_,GW.rd (GE.refl.new hw0) ao,q w0 [] hw0 Wy.nil⟩
 |sign z=>
  nofun
  ext
  exists iV rfl rfl (iU rfl ?_)
  exists cy tbl.ins rfl ?_
  exists tV (by rw[ia];have:=cs.len;ac_nf) ?_
  rw[ia]
  left
  have no:nT T (.sign z) e=(λ_=>0)->∀w0,G w0=none->∃G0,GW G0 (up G w0 (.dK []))/\Q (.ref w0) G0:=λh w0 hw0=>⟨_,GW.rd (GE.refl.new hw0) ao,q w0 [] hw0 (by show Wy [] _ (nT T (.sign z) e);rw[h];exact Wy.nil)⟩
  refine Nc (λh=> ?_) (λh=> ?_)
  ·have h1:(e:Int)<(T.length:Nat):=of_decide_eq_true h
   have h2:e<T.length:=by ac_nf
   obtain⟨ch,ec⟩:∃ch,T[e]? =some ch:=⟨_,al h2⟩
   exists cy tbl.ins rfl ?_
   exists HG (c:=ch) (by rw[ia];have:=cs.len;ac_nf) (bS (by rw[zp];exact ec)) ?_
   exists ko (x:= .str z) rfl ?_
   exists Nb ?_
   left
   by_cases hc:ch∈z.cps.toList
   ·refine iU (decide_eq_true hc) ?_
    left
    intro w0 hw0
    exists x9 ?_
    exists uq rfl ao ?_
    rw[fO]
    refine⟨_,GW.rd (GE.refl.new hw0) ao,q w0 [(e+1,1)] hw0 ((Wy.one (by ac_nf)).congr λj=> ?_)⟩
    show _=jV (bo T (.sign z) e) j
    unfold bo
    rw[ec]
    simp only[if_pos hc]
    exact(mZ _ _ _).symm
   ·refine ji (decide_eq_false hc) ?_
    exists no ?_
    funext j
    show jV (bo T (.sign z) e) j=0
    unfold bo
    rw[ec]
    simp only[if_neg hc]
    rfl
  ·have h1:¬(e:Int)<(T.length:Nat):=of_decide_eq_false h
   exists no ?_
   funext j
   show jV (bo T (.sign z) e) j=0
   unfold bo
   rw[eA (by ac_nf)]
   rfl
 |pick ps=>
  nofun
  ext
  ext
  exists iV rfl rfl (iU rfl ?_)
  exists⟨⟨a,dx,_,rfl,tbl.ins,rfl⟩,?_⟩
  exists⟨a,dx,m,pa,tb,ts,T,p,_,n,e,rfl,cs,tbl,hq,rfl,he,λd ws hd hw=>⟨_,GE.refl.gw,q d ws hd (hw.congr λj=> ?_)⟩⟩
  exact zj.symm
 |again r=>
  nofun
  ext
  ext
  ext
  exists iV rfl rfl (iU rfl ?_)
  exists⟨⟨a,dx,_,rfl,tbl.ins,rfl⟩,?_⟩
  left
  exact⟨a,dx,m,pa,tb,ts,T,p,_,n,e,rfl,cs,tbl,hq,rfl,he,λd ws hd hw=>⟨_,GE.refl.gw,q d ws hd hw⟩⟩
 |blank=>
  nofun
  ext
  ext
  ext
  ext
  exists⟨⟨a,dx,_,rfl,tbl.ins,rfl⟩,?_⟩
  left
  exact⟨a,dx,m,pa,tb,ts,T,p,_,n,e,rfl,cs,tbl,hq,rfl,he,λd ws hd hw=>⟨_,GE.refl.gw,q d ws hd (hw.congr λj=>(kE rfl he).symm)⟩⟩
 |row ps=>
  nofun
  ext
  ext
  ext
  ext
  exists⟨⟨a,dx,_,rfl,tbl.ins,rfl⟩,?_⟩
  left
  exact⟨a,dx,m,pa,tb,ts,T,p,_,n,e,rfl,cs,tbl,hq,rfl,he,λd ws hd hw=>⟨_,GE.refl.gw,q d ws hd (hw.congr λj=>(kE rfl he).symm)⟩⟩
 |held nm r=>
  nofun
  ext
  ext
  ext
  ext
  exists⟨⟨a,dx,_,rfl,tbl.ins,rfl⟩,?_⟩
  left
  exact⟨a,dx,m,pa,tb,ts,T,p,_,n,e,rfl,cs,tbl,hq,rfl,he,λd ws hd hw=>⟨_,GE.refl.gw,q d ws hd (hw.congr λj=>(kE rfl he).symm)⟩⟩
 |price nm r=>
  nofun
  ext
  ext
  ext
  ext
  exists⟨⟨a,dx,_,rfl,tbl.ins,rfl⟩,?_⟩
  left
  exact⟨a,dx,m,pa,tb,ts,T,p,_,n,e,rfl,cs,tbl,hq,rfl,he,λd ws hd hw=>⟨_,GE.refl.gw,q d ws hd (hw.congr λj=>(kE rfl he).symm)⟩⟩
end
section
variable{P:aI}{w:aY}{K:PySem.W.Frag}{mg:Str->Option ae}{base:Heap}{f fm fp fr C:Addr}{fd dm dp dr:aW}
theorem yK:bj ["self"] ["self"] (aM wG):=⟨rfl,rfl,rfl,by decide+kernel,rfl,by decide+kernel,by decide+kernel⟩
noncomputable def mq(C:Addr):im:=λps G Q=>∃(a dx m pa tb:Addr) (ts:List Addr) (T:List Nat) (p:Pt),ps=[.ref a]/\Cs T p/\Tb C G a T p (λ_ _=>True) dx m pa tb ts/\Q (.int (nT T p 0 T.length:Nat)) G
theorem FH(p:Pt):(makes p)[0]? =some p:=by rw[gn p];rfl
theorem Cz(c:Cls K C)(n1:NoAttr K C "signs")(n4:NoAttr K C "table")(F:Fun K "total" "Counts.total" wG f fd)(B:BN mg):iz P w K mg base 1 f fd ["self"] (mq C):=by
 have nd:=yK.nd
 refine jY F yK (λvs G Q h=> ?_) (λcdv A outer s H E as G Q hr h=> ?_)
 ·obtain⟨_,_,_,_,_,_,_,_,rfl,_⟩:=h
  rfl
 have hU:=eI hr
 apply jc
 case a=>symm
 obtain⟨a,dx,m,pa,tb,ts,T,p,rfl,cs,tbl,q⟩:=h
 obtain⟨t,d,kvs,ms,r1,r2,r3,r4,r5⟩:=tbl.read (FH p) (k:=0) trivial (bK _)
 exists cy tbl.ins rfl ?_
 exists cQ (i:=0) (aV tbl.tbl) (bS (j:=0) r1) ?_
 exists lm (jm r2) rfl r3 ?_
 exists⟨qQ (mV r4),?_⟩
 exists cy tbl.ins rfl ?_
 exists tV (by rw[ia];have:=cs.len;ac_nf) ?_
 rw[ia]
 exists ug (mV r4) rfl ?_
 rw[uF r5.pos,r5.val]
 exact⟨_,GE.refl,q⟩
theorem BZ:bj ["self", "pattern", "text", "at", "number"] ["self", "pattern", "text"] (aM yg):=⟨rfl,rfl,rfl,by decide+kernel,rfl,by decide+kernel,by decide+kernel⟩
theorem KL:fq (aM yg) ["self", "pattern", "text", "at", "number"] (jI [(".0",.local),("make",.local)]) ["make"] [none] 0 "make" =true:=by decide+kernel
noncomputable def nU(C:Addr):im:=λps G Q=>∃(a dx:Addr) (T:List Nat) (p:Pt),ps=[.ref a,jd p,.str (oi T)]/\G a=some (.ins C dx [])/\Cs T p/\∀G' m pa tb ts,Ch [a] G G'->Tb C G' a T p (λ_ _=>True) dx m pa tb ts->Q .non G'
theorem FB(c:Cls K C)(n1:NoAttr K C "signs")(n2:NoAttr K C "makes")(n3:NoAttr K C "parts")(n4:NoAttr K C "table")(F:Fun K "__init__" "Counts.__init__" yg f fd)(B:BN mg)(CM:dC P w K mg base 2 "makes_of" fm dm ["pattern"] pD)(CP:dC P w K mg base 3 "parts_of" fp dp ["pattern"] nR)(MF:dF P w K mg base C 3 "count_from" fr dr ["self", "number", "at"] (Bd C zW λ_=>true)):iz P w K mg base 4 f fd ["self", "pattern", "text"] (nU C):=by
 have nd:=BZ.nd
 refine jY F BZ (λvs G Q h=> ?_) (λcdv A outer s H E as G Q hr h=> ?_)
 ·obtain⟨_,_,_,_,rfl,_⟩:=h
  rfl
 have hU:=eI hr
 apply jc
 case a=>
  symm
  all_goals try (refine' qN (ix:=[none]) (j:=0) KL rfl ?_ (λC s H fp=>⟨?_,?_⟩))
  all_goals symm
 obtain⟨a,dx,T,p,rfl,ga,cs,q⟩:=h
 have lM:(bJ (makes p)).length=size p:=by rw[cR,bO]
 have hsz:=cs.siz
 have hln:=cs.len
 exists iK ga (aP rfl) ?_
 exists⟨p,rfl,by ac_nf,λm hm=> ?_⟩
 left
 have nma:m≠a:=(dD hm).1
 refine iK (by rw[aL (aG nma),ao]) (aP rfl) ?_
 exists⟨p,rfl,by ac_nf,λpa hpa=> ?_⟩
 left
 obtain⟨npa,hpa2⟩:=dD hpa
 obtain⟨npm,hpa3⟩:=dD hpa2
 have hpa0:G pa=none:=(dD hpa3).2
 have hm0:G m=none:=(dD hm).2
 refine iK (by rw[aL (aG npa),ao]) (aP rfl) ?_
 rw[yl (a:=a) (b:=m) (aG nma),fO,yl (a:=a) (b:=pa) (aG npa),fO]
 exists cy ao rfl ?_
 left
 rw[aV (show up (up (up G m _) pa _) a _ m=some (.lst (bJ (makes p)))by rw[aL nma,aL (aG npm),ao])]
 left
 intro acc hacc
 obtain⟨nca,hac2⟩:=dD hacc
 obtain⟨ncp,hac3⟩:=dD hac2
 obtain⟨ncm,hac0⟩:=dD hac3
 have k0:Ch [a] G (up (up (up G m (.lst (bJ (makes p)))) pa (.lst (fZ p))) a (.ins C dx [("signs",.str (oi T)),("makes",.ref m),("parts",.ref pa)])):=((Ch.refl.mod' hm0).mod' hpa0).put (by simp)
 have g0a:up (up (up G m (.lst (bJ (makes p)))) pa (.lst (fZ p))) a (.ins C dx [("signs",.str (oi T)),("makes",.ref m),("parts",.ref pa)]) a=some (.ins C dx [("signs",.str (oi T)),("makes",.ref m),("parts",.ref pa)]):=ao
 have g0m:up (up (up G m (.lst (bJ (makes p)))) pa (.lst (fZ p))) a (.ins C dx [("signs",.str (oi T)),("makes",.ref m),("parts",.ref pa)]) m=some (.lst (bJ (makes p))):=by rw[aL nma,aL (aG npm),ao]
 have g0p:up (up (up G m (.lst (bJ (makes p)))) pa (.lst (fZ p))) a (.ins C dx [("signs",.str (oi T)),("makes",.ref m),("parts",.ref pa)]) pa=some (.lst (fZ p)):=by rw[aL npa,ao]
 change OW _ _ _ _ _ _ _ _ (up (up (up G m (.lst (bJ (makes p)))) pa (.lst (fZ p))) a (.ins C dx [("signs",.str (oi T)),("makes",.ref m),("parts",.ref pa)])) acc
 change up (up (up G m (.lst (bJ (makes p)))) pa (.lst (fZ p))) a (.ins C dx [("signs",.str (oi T)),("makes",.ref m),("parts",.ref pa)]) acc=none at hacc
 generalize up (up (up G m (.lst (bJ (makes p)))) pa (.lst (fZ p))) a (.ins C dx [("signs",.str (oi T)),("makes",.ref m),("parts",.ref pa)])=G0 at k0 g0a g0m g0p hacc⊢
 refine⟨λi ys G1=>∃ts:List Addr,ys=ts.map PV.ref/\ts.length=i/\ts.Nodup/\(∀t∈ts,G1 t=some (.dK [])/\G0 t=none)/\GE G0 G1/\G1 acc=some (.lst ys),?_,?_,?_,?_⟩
 ·exact⟨[],rfl,rfl,by simp,by simp,GE.refl.new hacc,ao⟩
 ·rintro i ys G1 hi ⟨ts,rfl,rfl,nd',ht,ge,gc⟩
  refine⟨aV (ge _ _ g0m),gc,?_⟩
  rw[ap];ac_nf
 ·rintro i ys G1 x hx ⟨ts,rfl,rfl,nd',ht,ge,gc⟩
  refine iU rfl ?_
  left
  intro d hd
  have hd0:=none_of ge hd
  have ndc:d≠acc:=λz=>by rw[z,gc]at hd;cases hd
  refine⟨by rw[aL (aG ndc)];exact gc,ts++[d],by rw[aS];rfl,by simp,?_,λt h=> ?_,((ge.mod hd0).mod hacc),ao⟩
  ·rw[jN]
   refine⟨nd',by simp,λx hx y hy=> ?_⟩
   cases au.mp hy
   intro z
   rw[z]at hx
   rw[(ht d hx).1]at hd;cases hd
  ·rcases aR.mp h with h|h
   ·have h1:=ht t h
    exact⟨by rw[aL (λz=>by rw[z,gc]at h1;cases h1.1),aL (aZ h1.1 hd)];exact h1.1,h1.2⟩
   ·cases au.mp h
    exact⟨by rw[aL ndc,ao],hd0⟩
 ·rintro ys G1 ⟨ts,rfl,hts,nd',ht,ge,gc⟩
  rw[lM]at hts
  exists iK (ge _ _ g0a) (aP rfl) ?_
  have nac:a≠acc:=aZ g0a hacc
  have k1:Ch [a] G (up G1 a (.ins C dx (GS T m pa acc))):=(k0.trans ge.ch).put (by simp)
  have nta:∀t∈ts,t≠a:=λt h z=>by have:=(ht t h).2;rw[z,g0a]at this;cases this
  have htG:∀t∈ts,G t=none:=λt h=>by
   cases ez:G t with
   |none=>rfl
   |some o=>
    have:=k0 t o (by simpa using nta t h) ez
    rw[(ht t h).2]at this;cases this
  have tb0:Tb C (up G1 a (.ins C dx (GS T m pa acc))) a T p (λ_ _=>False) dx m pa acc ts:=⟨ao,by rw[aL nma];exact ge _ _ g0m,by rw[aL npa];exact ge _ _ g0p,by rw[aL (aG nac)];exact gc,hts,λi t hi=>⟨[],by rw[aL (nta t (ax hi))];exact(ht t (ax hi)).1,λ_ _ _ hf=>hf.elim⟩⟩
  have l0:∀(j:Nat) (t:Addr),ts[j]? =some t->∃kvs,up G1 a (.ins C dx (GS T m pa acc)) t=some (.dK kvs)/\kvs.length<=0:=λj t hj=>⟨[],by rw[aL (nta t (ax hj))];exact(ht t (ax hj)).1,av _⟩
  change (λG3=>_) (up G1 a (.ins C dx (GS T m pa acc)))
  generalize up G1 a (.ins C dx (GS T m pa acc))=G2 at k1 tb0 l0⊢
  exists tV (by rw[ia];ac_nf) ?_
  rw[ia]
  exists⟨rfl,⟨by ac_nf,by ac_nf,by decide,by decide⟩,?_⟩
  rw[show((T.length:Int)- -1).toNat=T.length+1 by ac_nf]
  refine⟨λi τ G3=>∃(t3 t4:Option PV),τ=[some (.ref a),some (jd p),some (.str (oi T)),t3,t4]/\Ch [a] G G3/\Tb C G3 a T p (λ_ e=>T.length<e+i) dx m pa acc ts/\∀(j:Nat) (t:Addr),ts[j]? =some t->∃kvs,G3 t=some (.dK kvs)/\kvs.length<=i,?_,?_,?_,?_⟩
  ·exact⟨none,none,rfl,k1,tb0.mono λ_ e h1 h2=>by ac_nf,l0⟩
  ·intros;trivial
  ·rintro i x τ G3 hx ⟨t3,t4,rfl,k3,tb3,l3⟩
   obtain⟨hi,rfl⟩:=um hx
   obtain⟨e0,he0⟩:∃e0,e0=T.length-i:=⟨_,rfl⟩
   rw[show((T.length:Int)-(i:Nat))=(e0:Nat)by ac_nf]
   exists cy tb3.ins rfl ?_
   exists mG (aV tb3.mks) ?_
   rw[lM]
   exists⟨rfl,⟨by ac_nf,by ac_nf,by decide,by decide⟩,?_⟩
   rw[show((size p:Int)-1- -1).toNat=size p by ac_nf]
   refine⟨λk τ G4=>∃(t4:Option PV),τ=[some (.ref a),some (jd p),some (.str (oi T)),some (.int (e0:Nat)),t4]/\Ch [a] G G4/\Tb C G4 a T p (λj e=>e0<e\/e=e0/\size p<=j+k) dx m pa acc ts/\∀(j:Nat) (t:Addr),ts[j]? =some t->∃kvs,G4 t=some (.dK kvs)/\kvs.length<=i+1/\(j+k<size p->kvs.length<=i),?_,?_,?_,?_⟩
   ·refine⟨t4,rfl,k3,tb3.mono' λj e h0 h1 h2=> ?_,λj t hj=> ?_⟩
    ·rcases h2 with h2|⟨h2,h3⟩
     ·ac_nf
     ·ac_nf
    ·obtain⟨kvs,h1,h2⟩:=l3 j t hj
     exact⟨kvs,h1,by ac_nf,λ_=>h2⟩
   ·intros;trivial
   ·rintro k x τ G4 hx ⟨t4,rfl,k4,tb4,l4⟩
    obtain⟨hk,rfl⟩:=um hx
    obtain⟨n,hn⟩:∃n,n=size p-1-k:=⟨_,rfl⟩
    rw[show((size p:Int)-1-(k:Nat))=(n:Nat)by ac_nf]
    have hnl:n<(makes p).length:=by rw[bO];ac_nf
    obtain⟨qn,hqn⟩:∃qn,(makes p)[n]? =some qn:=⟨_,al hnl⟩
    obtain⟨t,htn⟩:∃t,ts[n]? =some t:=⟨_,al (by ac_nf)⟩
    obtain⟨kvs,hk1,_,hk3⟩:=l4 n t htn
    exists⟨⟨a,dx,_,rfl,tb4.ins,rfl⟩,?_⟩
    exists⟨a,dx,m,pa,acc,ts,T,p,qn,n,e0,rfl,cs,tb4.mono λj e h1 h2=> ?_,hqn,rfl,by ac_nf,λd ws hd hw=> ?_⟩
    ·rcases h2 with h2|⟨h2,h3⟩
     ·exact .inl h2
     ·exact .inr ⟨h2,by ac_nf⟩
    left
    have ge5:GE G4 (up G4 d (.rd (eR ws))):=GE.refl.new hd
    have tb5:=tb4.ge ge5
    refine cy tb5.ins rfl ?_
    exists cQ (aV tb5.tbl) (bS (K0 (α:=Nat) htn)) ?_
    exists w9 (ge5 _ _ hk1) rfl (by have:=hk3 (by ac_nf);ac_nf) ?_
    refine⟨_,rfl,(k4.new hd).mod' (htG t (ax htn)),tb4.write nd' htn hqn hk1 hd hw λj e h1 h2=> ?_,λj t' hj=> ?_⟩
    ·rcases h2 with h2|⟨h2,h3⟩
     ·exact .inl (.inl h2)
     ·by_cases z:j=n
      ·exact .inr ⟨z,h2⟩
      ·exact .inl (.inr ⟨h2,by ac_nf⟩)
    ·obtain⟨kv',m1,m2,m3⟩:=l4 j t' hj
     by_cases z:t'=t
     ·subst z
      refine⟨_,ao,?_,λh=> ?_⟩
      ·have:=vn (k:= .inl (e0:Int)) (v:= .ref d) kvs
       have:=hk3 (by ac_nf)
       ac_nf
      ·exfalso
       have pw:=wv.mp nd'
       obtain⟨a1,b1⟩:=am.mp hj
       obtain⟨a2,b2⟩:=am.mp htn
       rcases Nat.lt_or_gt_of_ne (show j≠n by ac_nf)with z|z
       ·exact pw j n a1 a2 z (by rw[b1,b2])
       ·ac_nf
     ·exact⟨kv',by rw[aL z,aL (aZ m1 hd)];exact m1,m2,λh=>m3 (by ac_nf)⟩
   ·rintro τ G4 ⟨t4,rfl,k4,tb4,l4⟩
    rw[qW]at tb4 l4
    refine⟨_,_,rfl,k4,tb4.mono λj e h1 h2=> ?_,λj t hj=> ?_⟩
    ·by_cases z:e0<e
     ·exact .inl z
     ·exact .inr ⟨by ac_nf,by ac_nf⟩
    ·obtain⟨kvs,h1,h2,_⟩:=l4 j t hj
     exact⟨kvs,h1,h2⟩
  ·rintro τ G3 ⟨t3,t4,rfl,k3,tb3,l3⟩
   rw[qW]at tb3
   exact⟨_,GE.refl,q G3 m pa acc ts k3 (tb3.mono λj e h1 _=>by ac_nf)⟩
end
noncomputable abbrev HX:Stmt:=top 1
theorem Hw:bj ["thing"] ["thing"] (aM HX):=⟨rfl,rfl,rfl,by decide+kernel,rfl,by decide+kernel,by decide+kernel⟩
noncomputable abbrev Bs:Stmt:=top 15
noncomputable abbrev sO:Stmt:=top 16
noncomputable abbrev pr:Stmt:=top 17
@[reducible] noncomputable def LC:PV->Bool
 | .tup [.str k,_]=>k== "sign"
 |_=>false
@[reducible] noncomputable def Oi:PV->PV
 | .tup [_,y]=>y
 |_=> .non
theorem BP:∀l:List Tr,((en l).filter LC).map Oi=(l.filterMap Iq).map PV.str
 |[]=>rfl
 |c::l=>by
  have ih:=BP l
  show((gG c::en l).filter LC).map Oi=_
  cases c with
  |sign s=>
   rw[ye (by rfl),aE,ih];rfl
  |_=>rw[yf (by simp only[gG,LC];decide),ih];rfl
section
variable{P:aI}{w:aY}{K:PySem.W.Frag}{mg:Str->Option ae}{base:Heap}{f fi:Addr}{fd di:aW}
theorem BY:bj ["tree", "kind"] ["tree"] (aM Bs):=⟨rfl,rfl,rfl,by decide+kernel,rfl,by decide+kernel,by decide+kernel⟩
noncomputable def tG:im:=λps G Q=>∃t,ps=[gG t]/\Q (.tup (en (fc t))) G
theorem FA(F:Fun K "inner_trees" "inner_trees" Bs f fd)(B:BN mg):iz P w K mg base 1 f fd ["tree"] tG:=by
 have nd:=BY.nd
 refine jY F BY (λvs G Q h=> ?_) (λcdv A outer s H E as G Q hr h=> ?_)
 ·obtain⟨p,rfl,_⟩:=h
  rfl
 have hU:=eI hr
 apply jc
 case a=>symm
 obtain⟨t,rfl,q⟩:=h
 cases t with
 |blank=>exact⟨dE,rfl,rfl,dE,rfl,rfl,dE,G,GE.refl,q⟩
 |sign s=>exact⟨dE,rfl,rfl,dE,rfl,rfl,dE,G,GE.refl,q⟩
 |row ps=>exact⟨dE,rfl,rfl,G,GE.refl,q⟩
 |again ps=>exact⟨dE,rfl,rfl,G,GE.refl,q⟩
 |pick k p=>exact⟨dE,rfl,rfl,dE,rfl,rfl,dE,G,GE.refl,q⟩
 |held n p=>exact⟨dE,rfl,rfl,dE,rfl,rfl,dE,G,GE.refl,q⟩
 |price n p=>exact⟨dE,rfl,rfl,dE,rfl,rfl,dE,G,GE.refl,q⟩
theorem uY:bj ["tree", "found", "waiting", "inner"] ["tree"] (aM sO):=⟨rfl,rfl,rfl,by decide+kernel,rfl,by decide+kernel,by decide+kernel⟩
noncomputable def qi:im:=λps G Q=>∃t,ps=[gG t]/\kW t<=900000/\∀c,G c=none->Q (.ref c) (up G c (.lst (en (uD t))))
theorem BE(ts:List Tr):(gy ts).length=fD ts:=by
 induction ts with
 |nil=>rfl
 |cons a l ih=>simp only[gy,aN,fD];rw[pB _ a (av _),ih]
theorem Ao(F:Fun K "trees_within" "trees_within" sO f fd)(B:BN mg)(C:dC P w K mg base 1 "inner_trees" fi di ["tree"] tG):iz P w K mg base 2 f fd ["tree"] qi:=by
 have nd:=uY.nd
 refine jY F uY (λvs G Q h=> ?_) (λcdv A outer s H E as G Q hr h=> ?_)
 ·obtain⟨p,rfl,_⟩:=h
  rfl
 have hU:=eI hr
 apply jc
 case a=>symm
 obtain⟨p,rfl,hz,q⟩:=h
 refine⟨dE,λm hm=>⟨dE,λv hv=> ?_⟩⟩
 obtain⟨hvm,hv⟩:=dD hv
 refine⟨λk τ G'=>∃(dn st:List Tr) (z:Option PV),τ=[some (gG p),some (.ref m),some (.ref v),z]/\G' m=some (.lst (en dn))/\G' v=some (.lst (en st.reverse))/\GE G G'/\dn++gy st=uD p/\k=fD st,
  ⟨_,[],[p],.none,rfl,by rw[aL (aG hvm),ao];rfl,by rw[ao];rfl,(GE.refl.new hm).mod hv,by simp[gy],rfl⟩,?_⟩
 rintro k τ G' ⟨dn,st,z,rfl,gm,gv,ge,he,rfl⟩
 have hl:dn.length+fD st=kW p:=by
  have:=congrArg cG he
  rwa [aN,BE,pB _ p (av _)]at this
 refine mG (aV gv) ?_
 cases st with
 |nil=>
  have hd:dn=uD p:=by simpa [gy]using he
  subst hd
  exact⟨_,ge.at gm,q m hm⟩
 |cons x st=>
  have ln:(en (x::st).reverse).length=st.length+1:=by rw[gq,bA];rfl
  have hs:fD (x::st)=kW x+fD st:=rfl
  have hx:=ml x
  have hi:=mi (fc x)
  have hst:=mi st
  rw[show en (x::st).reverse=en st.reverse++[gG x]by rw[eK,ij];rfl]at gv ln⊢
  refine iU ?_ ?_
  ·refine decide_eq_true ?_
   rw[ln];ac_nf
  refine⟨⟨_,gv⟩,Cg gv ?_⟩
  refine⟨⟨en dn,by rw[aL (aG hvm)];exact gm⟩,ik (by rw[aL (aG hvm)];exact gm) (by rw[gq];ac_nf) ?_⟩
  refine⟨⟨_,by rw[aL hvm,ao]⟩,x,rfl,DR (by rw[aL hvm,ao]) ?_ ?_⟩
  ·rw[bA,gq,gq,bA];ac_nf
  refine⟨fD (fc x++st),?_,dn++[x],fc x++st,_,rfl,?_,?_,((ge.mod hv).mod hm).mod hv,?_,rfl⟩
  ·rw[uJ];ac_nf
  ·rw[aL (aG hvm),ao,ij];rfl
  ·rw[ao,nz,ij,ui (fc x)]
  ·rw[uN]
   rw[<-he]
   simp[gy,pC x]
theorem vc:bj ["tree"] ["tree"] (aM pr):=⟨rfl,rfl,rfl,by decide+kernel,rfl,by decide+kernel,by decide+kernel⟩
theorem D7:fq (aM pr) ["tree"] (jI [(".0",.local),("inner",.local)]) ["inner"] [none] 0 "inner" =true:=by decide+kernel
noncomputable def qk:im:=λps G Q=>∃t,ps=[gG t]/\wt t/\kW t<=900000/\Q (.str (tx t)) G
theorem Ip{l:List Tr}(h:∀c∈l,Ll c):((l.filterMap Iq).map (·.length)).sum<=l.length:=by
 have:=yA h
 unfold iI at this
 rw[nA,bT]at this
 refine aO (Nat.le_of_eq ?_) this
 congr 1
theorem As(F:Fun K "text_of" "text_of" pr f fd)(B:BN mg)(C:dC P w K mg base 2 "trees_within" fi di ["tree"] qi):iz P w K mg base 3 f fd ["tree"] qk:=by
 have nd:=vc.nd
 refine jY F vc (λvs G Q h=> ?_) (λcdv A outer s H E as G Q hr h=> ?_)
 ·obtain⟨p,rfl,_⟩:=h
  rfl
 have hU:=eI hr
 apply jc
 case a=>
  symm
  all_goals try (refine' qN D7 rfl ?_ λ_ _ _ _=>⟨?_,?_⟩)
  all_goals symm
 obtain⟨t,rfl,hw,hz,q⟩:=h
 exists⟨t,rfl,hz,λl hl=> ?_⟩
 left
 rw[iT]
 left
 intro acc hacc
 have nla:=aZ (G:=up G l (.lst (en (uD t)))) ao hacc
 have hln:=pB _ t (av _)
 refine nj LC Oi (by rw[gq];ac_nf) (λys=>aV (by rw[aL nla,ao])) (λx ys R hx r=> ?_) (λx ys R hx hs r=> ?_) ?_
 ·rw[dz]at hx
  obtain⟨c,_,rfl⟩:=ay.mp hx
  cases c<;>exact⟨rfl,rfl,r⟩
 ·rw[dz]at hx
  obtain⟨c,_,rfl⟩:=ay.mp hx
  cases c with
  |sign s=>exact r
  |_=>exact absurd hs (by simp only[gG,LC];decide)
 exists FS (zs:=(uD t).filterMap Iq) (aV (by rw[ao,BP])) ?_ ?_
 ·have:=Ip hw
  have e:(a9 "").length=0:=rfl
  rw[e,Nat.mul_zero]
  ac_nf
 rw[Dr]
 exact⟨G,(GE.refl.new hl).new hacc,q⟩
end
noncomputable abbrev N1:Stmt:=top 21
noncomputable abbrev wJ:Stmt:=top 22
@[reducible] noncomputable def gH:Int⊕Tr->PV
 | .inl i=> .int i
 | .inr t=>gG t
noncomputable def fR:List Tr->List (Int⊕Tr)
 |[]=>[]
 |t::ts=> .inl 0:: .inr t::fR ts
theorem lz:∀ts:List Tr,(fR ts).length=2*ts.length
 |[]=>rfl
 |t::ts=>by show(fR ts).length+1+1=_;rw[lz ts,aT];ac_nf
theorem pY:∀ts us:List Tr,fR (ts++us)=fR ts++fR us
 |[],us=>rfl
 |t::ts,us=>by show .inl 0:: .inr t::fR (ts++us)=_;rw[pY ts us];rfl
noncomputable def oh:Tr->List (Int⊕Tr)
 | .pick k t=>[.inl k,.inr t]
 | .again ts=>fR ts++[.inl 1]
 |t=>(fc t).map .inr
section
variable{P:aI}{w:aY}{K:PySem.W.Frag}{mg:Str->Option ae}{base:Heap}{f fi:Addr}{fd di:aW}
theorem LD:bj ["tree", "row", "turn"] ["tree"] (aM N1):=⟨rfl,rfl,rfl,by decide+kernel,rfl,by decide+kernel,by decide+kernel⟩
noncomputable def Il:im:=λps G Q=>∃t,ps=[gG t]/\kW t<=400000/\∀c,G c=none->Q (.ref c) (up G c (.lst ((oh t).map gH)))
theorem LZ{t0 t1:Tok}(h0:mg "TURN" =some (.int 0 t0))(h1:mg "STOP" =some (.int 1 t1))(F:Fun K "marks_and_trees" "marks_and_trees" N1 f fd)(B:BN mg)(C:dC P w K mg base 1 "inner_trees" fi di ["tree"] tG):iz P w K mg base 2 f fd ["tree"] Il:=by
 have nd:=LD.nd
 refine jY F LD (λvs G Q h=> ?_) (λcdv A outer s H E as G Q hr h=> ?_)
 ·obtain⟨_,rfl,_⟩:=h
  rfl
 have hU:=eI hr
 apply jc
 case a=>symm
 obtain⟨t,rfl,hz,q⟩:=h
 cases t with
 |pick k t=>
  refine⟨rfl,rfl,?_⟩
  refine iU rfl ?_
  left
  exact⟨dE,λc hc=>⟨_,GE.refl,q c hc⟩⟩
 |blank=>
  refine⟨rfl,rfl,?_⟩
  refine ji rfl ?_
  exists⟨rfl,rfl,?_⟩
  refine iU rfl ?_
  exists⟨_,rfl,?_⟩
  left
  intro c hc
  have:=q c hc
  rw[show(oh (.blank)).map gH=en (fc (.blank))by rw[dz];simp[oh,fc,gH];try rfl]at this
  exact⟨_,GE.refl,this⟩
 |sign z=>
  refine⟨rfl,rfl,?_⟩
  refine ji rfl ?_
  exists⟨rfl,rfl,?_⟩
  refine iU rfl ?_
  exists⟨_,rfl,?_⟩
  left
  intro c hc
  have:=q c hc
  rw[show(oh (.sign z)).map gH=en (fc (.sign z))by rw[dz];simp[oh,fc,gH];try rfl]at this
  exact⟨_,GE.refl,this⟩
 |row ts=>
  refine⟨rfl,rfl,?_⟩
  refine ji rfl ?_
  exists⟨rfl,rfl,?_⟩
  refine iU rfl ?_
  exists⟨_,rfl,?_⟩
  left
  intro c hc
  have:=q c hc
  rw[show(oh (.row ts)).map gH=en (fc (.row ts))by rw[dz];simp[oh,fc,gH];try rfl]at this
  exact⟨_,GE.refl,this⟩
 |held m t=>
  refine⟨rfl,rfl,?_⟩
  refine ji rfl ?_
  exists⟨rfl,rfl,?_⟩
  refine iU rfl ?_
  exists⟨_,rfl,?_⟩
  left
  intro c hc
  have:=q c hc
  rw[show(oh (.held m t)).map gH=en (fc (.held m t))by rw[dz];simp[oh,fc,gH];try rfl]at this
  exact⟨_,GE.refl,this⟩
 |price m t=>
  refine⟨rfl,rfl,?_⟩
  refine ji rfl ?_
  exists⟨rfl,rfl,?_⟩
  refine iU rfl ?_
  exists⟨_,rfl,?_⟩
  left
  intro c hc
  have:=q c hc
  rw[show(oh (.price m t)).map gH=en (fc (.price m t))by rw[dz];simp[oh,fc,gH];try rfl]at this
  exact⟨_,GE.refl,this⟩
 |again ts=>
  refine⟨rfl,rfl,?_⟩
  refine ji rfl ?_
  exists⟨rfl,rfl,?_⟩
  refine ji rfl ?_
  exists⟨dE,λr hr=> ?_⟩
  left
  have hts:ts.length<=400000:=by
   have h1:=ml (.again ts)
   have h2:=mi ts
   have h3:fc (.again ts)=ts:=rfl
   rw[h3]at h1
   ac_nf
  refine⟨λi τ G1=>∃t2:Option PV,τ=[some (gG (.again ts)),some (.ref r),t2]/\GE G G1/\G1 r=some (.lst ((fR (ts.take i)).map gH)),⟨_,rfl,GE.refl.new hr,by rw[ao];rfl⟩,λ_ _ _ _ _=>trivial,?_,?_⟩
  ·rintro i x τ G1 hx ⟨t2,rfl,ge,gr⟩
   obtain⟨c,hc,rfl⟩:=GK hx
   have tk:ts.take (i+1)=ts.take i++[c]:=by rw[bZ,hc];rfl
   have hi:i<ts.length:=(am.mp hc).1
   exists⟨⟨_,gr⟩,?_⟩
   exists⟨dE,λl hl=> ?_⟩
   exists DS (by rw[aL (aZ gr hl)];exact gr) ao ?_ ?_
   ·rw[ap,lz,bb]
    show _+2<=_
    ac_nf
   exists⟨_,rfl,(ge.new hl).mod hr,?_⟩
   rw[ao,tk,pY,aS]
   rfl
  ·rintro τ G1 ⟨t2,rfl,ge,gr⟩
   rw[gq,bD]at gr
   exists⟨⟨_,gr⟩,?_⟩
   exists ik gr (by rw[ap,lz];ac_nf) ?_
   exists⟨_,(ge.mod hr).at ao,?_⟩
   have:=q r hr
   rw[show(oh (.again ts)).map gH=(fR ts).map gH++[.int 1]by show(fR ts++[il 1]).map gH=_;rw[aS];rfl]at this
   exact this
end
mutual
noncomputable def mks:Tr->List Int
 | .pick k t=>k::mks t
 | .again ts=>lG ts
 | .row ts=>lF ts
 | .held _ t=>mks t
 | .price _ t=>mks t
 |_=>[]
noncomputable def lF:List Tr->List Int
 |[]=>[]
 |t::ts=>mks t++lF ts
noncomputable def lG:List Tr->List Int
 |[]=>[1]
 |t::ts=>0::(mks t++lG ts)
end
mutual
noncomputable def wT:Tr->Nat
 | .pick _ t=>2+wT t
 | .again ts=>2+Ez ts
 | .row ts=>1+Ey ts
 | .held _ t=>1+wT t
 | .price _ t=>1+wT t
 |_=>1
noncomputable def Ey:List Tr->Nat
 |[]=>0
 |t::ts=>wT t+Ey ts
noncomputable def Ez:List Tr->Nat
 |[]=>0
 |t::ts=>1+wT t+Ez ts
end
mutual
theorem rR:∀t:Tr,wT t+1<=3*kW t
 | .pick _ t=>by have:=rR t;simp only[wT,kW];ac_nf
 | .again ts=>by have:=Bz ts;simp only[wT,kW];ac_nf
 | .row ts=>by have:=By ts;simp only[wT,kW];ac_nf
 | .held _ t=>by have:=rR t;simp only[wT,kW];ac_nf
 | .price _ t=>by have:=rR t;simp only[wT,kW];ac_nf
 | .blank=>by simp[wT,kW]
 | .sign _=>by simp[wT,kW]
theorem By:∀ts:List Tr,Ey ts<=3*fD ts
 |[]=>by simp[Ey]
 |t::ts=>by have:=rR t;have:=By ts;simp only[Ey,fD];ac_nf
theorem Bz:∀ts:List Tr,Ez ts<=3*fD ts
 |[]=>by simp[Ez]
 |t::ts=>by have:=rR t;have:=Bz ts;simp only[Ez,fD];ac_nf
end
noncomputable def wI:Int⊕Tr->Nat
 | .inl _=>1
 | .inr t=>wT t
noncomputable def ny:List (Int⊕Tr)->Nat
 |[]=>0
 |x::l=>wI x+ny l
theorem pz:∀a b:List (Int⊕Tr),ny (a++b)=ny a+ny b
 |[],b=>by simp[ny]
 |x::a,b=>by simp only[iu,ny,pz a b];ac_nf
noncomputable def HH:Int⊕Tr->List Int
 | .inl i=>[i]
 | .inr t=>mks t
noncomputable def jT:List (Int⊕Tr)->List Int
 |[]=>[]
 |x::l=>HH x++jT l
theorem vS:∀a b:List (Int⊕Tr),jT (a++b)=jT a++jT b
 |[],b=>rfl
 |x::a,b=>by simp only[iu,jT,vS a b,cH]
theorem vR:∀ts:List Tr,jT (ts.map .inr)=lF ts
 |[]=>rfl
 |t::ts=>by simp only[aE,jT,HH,lF,vR ts]
theorem qP:∀ts:List Tr,jT (fR ts++[.inl 1])=lG ts
 |[]=>rfl
 |t::ts=>by
  show jT (.inl 0:: .inr t::(fR ts++[.inl 1]))=_
  simp only[jT,HH,lG,qP ts]
  rfl
theorem Gu(t:Tr):jT (oh t)=mks t:=by
 cases t with
 |pick k t=>simp[oh,jT,HH,mks]
 |again ts=>exact qP ts
 |row ts=>exact vR ts
 |held n t=>simp[oh,fc,jT,HH,mks]
 |price n t=>simp[oh,fc,jT,HH,mks]
 |blank=>rfl
 |sign z=>rfl
theorem yh:∀ts:List Tr,ny (ts.map .inr)=Ey ts
 |[]=>rfl
 |t::ts=>by simp only[aE,ny,wI,Ey,yh ts]
theorem rS:∀ts:List Tr,ny (fR ts)=Ez ts
 |[]=>rfl
 |t::ts=>by
  show ny (.inl 0:: .inr t::fR ts)=_
  simp only[ny,wI,Ez,rS ts]
  ac_nf
theorem BA(t:Tr):ny (oh t)+1=wT t:=by
 cases t with
 |pick k t=>simp[oh,ny,wI,wT];ac_nf
 |again ts=>
  show ny (fR ts++[.inl 1])+1=2+Ez ts
  rw[pz,rS]
  simp[ny,wI]
  ac_nf
 |row ts=>show ny (ts.map .inr)+1=1+Ey ts;rw[yh];ac_nf
 |held n t=>simp[oh,fc,ny,wI,wT];ac_nf
 |price n t=>simp[oh,fc,ny,wI,wT];ac_nf
 |blank=>rfl
 |sign z=>rfl
mutual
theorem nJ:∀t:Tr,kW t<=wT t
 | .pick _ t=>by have:=nJ t;simp only[wT,kW];ac_nf
 | .again ts=>by have:=uI ts;simp only[wT,kW];ac_nf
 | .row ts=>by have:=uH ts;simp only[wT,kW];ac_nf
 | .held _ t=>by have:=nJ t;simp only[wT,kW];ac_nf
 | .price _ t=>by have:=nJ t;simp only[wT,kW];ac_nf
 | .blank=>by simp[wT,kW]
 | .sign _=>by simp[wT,kW]
theorem uH:∀ts:List Tr,fD ts<=Ey ts
 |[]=>by simp[fD]
 |t::ts=>by have:=nJ t;have:=uH ts;simp only[Ey,fD];ac_nf
theorem uI:∀ts:List Tr,fD ts<=Ez ts
 |[]=>by simp[fD]
 |t::ts=>by have:=nJ t;have:=uI ts;simp only[Ez,fD];ac_nf
end
section
variable{P:aI}{w:aY}{K:PySem.W.Frag}{mg:Str->Option ae}{base:Heap}{f ft fm:Addr}{fd dt dm:aW}
noncomputable def M4:Int⊕Tr->Bool
 | .inl _=>true
 | .inr _=>false
noncomputable def qj:im:=λps G Q=>∃x:Int⊕Tr,ps=[gH x]/\Q (.bl (M4 x)) G
theorem Ap(F:Fun K "is_whole" "is_whole" HX f fd)(B:BN mg):iz P w K mg base 1 f fd ["thing"] qj:=by
 have nd:=Hw.nd
 refine jY F Hw (λvs G Q h=> ?_) (λcdv A outer s H E as G Q hr h=> ?_)
 ·obtain⟨p,rfl,_⟩:=h
  rfl
 have hU:=eI hr
 apply jc
 case a=>symm
 obtain⟨x,rfl,q⟩:=h
 cases x with
 |inl n=>
  exists qR rfl (by decide) ?_
  refine iU rfl ?_
  exists qR rfl (by decide) ?_
  left
  exact⟨G,GE.refl,q⟩
 |inr t=>
  cases t<;>(refine qR rfl (by decide) ?_;refine ji rfl ?_;exact⟨G,GE.refl,q⟩)
theorem yO:bj ["tree", "marks", "waiting", "one"] ["tree"] (aM wJ):=⟨rfl,rfl,rfl,by decide+kernel,rfl,by decide+kernel,by decide+kernel⟩
noncomputable def tE:im:=λps G Q=>∃t,ps=[gG t]/\kW t<=100000/\Q (.tup ((mks t).map PV.int)) G
theorem CJ(F:Fun K "marks_of" "marks_of" wJ f fd)(B:BN mg)(CW:dC P w K mg base 1 "is_whole" ft dt ["thing"] qj)(C:dC P w K mg base 2 "marks_and_trees" fm dm ["tree"] Il):iz P w K mg base 3 f fd ["tree"] tE:=by
 have nd:=yO.nd
 refine jY F yO (λvs G Q h=> ?_) (λcdv A outer s H E as G Q hr h=> ?_)
 ·obtain⟨p,rfl,_⟩:=h
  rfl
 have hU:=eI hr
 apply jc
 case a=>symm
 obtain⟨t,rfl,hz,q⟩:=h
 have hwt:=rR t
 refine⟨dE,λm hm=>⟨dE,λv hv=> ?_⟩⟩
 obtain⟨hvm,hv⟩:=dD hv
 refine⟨λk τ G'=>∃(dn:List Int) (st:List (Int⊕Tr)) (z:Option PV),τ=[some (gG t),some (.ref m),some (.ref v),z]/\G' m=some (.lst (dn.map PV.int))/\G' v=some (.lst (st.reverse.map gH))/\GE G G'/\dn++jT st=mks t/\dn.length+ny st<=wT t/\k=ny st,
  ⟨_,[],[.inr t],.none,rfl,by rw[aL (aG hvm),ao];rfl,by rw[ao];rfl,(GE.refl.new hm).mod hv,by simp[jT,HH],by simp[ny,wI],rfl⟩,?_⟩
 rintro k τ G' ⟨dn,st,z,rfl,gm,gv,ge,he,hl,rfl⟩
 have hlen:∀l:List (Int⊕Tr),l.length<=ny l:=by
  intro l
  induction l with
  |nil=>simp
  |cons x l ih=>
   have:1<=wI x:=by
    cases x with
    |inl i=>exact av _
    |inr t=>have:=BA t;show 1<=wT t;ac_nf
   simp only[aT,ny]
   ac_nf
 refine mG (aV gv) ?_
 cases st with
 |nil=>
  have hd:dn=mks t:=by simpa [jT]using he
  subst hd
  exists iX (aV gm) ?_
  exact⟨G,ge,q⟩
 |cons x st=>
  have ln:((x::st).reverse.map gH).length=st.length+1:=by rw[ap,bA];rfl
  have hls:=hlen st
  have hw:ny (x::st)=wI x+ny st:=rfl
  rw[show(x::st).reverse.map gH=st.reverse.map gH++[gH x]by rw[eK,aS];rfl]at gv ln⊢
  refine iU ?_ ?_
  ·refine decide_eq_true ?_
   rw[ln];ac_nf
  refine⟨⟨_,gv⟩,Cg gv ?_⟩
  exists⟨x,rfl,?_⟩
  cases x with
  |inl i=>
   refine iU rfl ?_
   exists⟨⟨_,by rw[aL (aG hvm)];exact gm⟩,?_⟩
   refine ik (by rw[aL (aG hvm)];exact gm) (by rw[ap];ac_nf) ?_
   have h1:wI (.inl i)=1:=rfl
   refine⟨ny st,by ac_nf,dn++[i],st,_,rfl,?_,?_,(ge.mod hv).mod hm,?_,?_,rfl⟩
   ·rw[ao,aS];rfl
   ·rw[aL hvm,ao]
   ·rw[<-he];simp[jT,HH]
   ·rw[aN];show dn.length+1+ny st<=wT t;ac_nf
  |inr u=>
   have h1:wI (.inr u)=wT u:=rfl
   have h2:=BA u
   have h3:=hlen (oh u)
   refine ji rfl ?_
   exists⟨⟨_,by rw[ao]⟩,?_⟩
   exists⟨u,rfl,?_,λr hr'=> ?_⟩
   ·have:=nJ u
    ac_nf
   left
   rw[iT]
   left
   intro r2 hr2
   have nvr:v≠r:=λe=>by subst e;rw[ao]at hr';cases hr'
   have gv2:up (up G' v (.lst (st.reverse.map gH))) r (.lst ((oh u).map gH)) v=some (.lst (st.reverse.map gH)):=by rw[aL nvr,ao]
   have nv2:v≠r2:=aZ gv2 hr2
   have nmr:m≠r:=aZ (show up G' v (.lst (st.reverse.map gH)) m=some (.lst (dn.map PV.int))by rw[aL (aG hvm)];exact gm) hr'
   have gm2:up (up G' v (.lst (st.reverse.map gH))) r (.lst ((oh u).map gH)) m=some (.lst (dn.map PV.int)):=by rw[aL nmr,aL (aG hvm)];exact gm
   have nm2:m≠r2:=aZ gm2 hr2
   exists DS (xs:=st.reverse.map gH) (ys:=((oh u).map gH).reverse) (by rw[aL nv2];exact gv2) ao ?_ ?_
   ·rw[ap,bA,bA,ap];ac_nf
   refine⟨ny (oh u++st),by rw[pz];ac_nf,dn,oh u++st,_,rfl,?_,?_,(((ge.mod hv).new hr').new hr2).mod hv,?_,?_,rfl⟩
   ·rw[aL (aG hvm),aL nm2];exact gm2
   ·rw[ao,nz,aS,List.map_reverse (l:=oh u)]
   ·rw[vS,Gu,<-he];rfl
   ·rw[pz];ac_nf
end
noncomputable abbrev Bv:Stmt:=dJ (top 8) 1
noncomputable abbrev wP:Stmt:=dJ (top 26) 0
noncomputable abbrev sT:Stmt:=dJ (top 26) 1
noncomputable abbrev wH:Stmt:=dJ (top 25) 0
noncomputable abbrev pT:Stmt:=dJ (top 25) 1
noncomputable abbrev wO:Stmt:=dJ (top 27) 0
noncomputable abbrev sP:Stmt:=dJ (top 27) 1
noncomputable abbrev sR:Stmt:=dJ (top 27) 2
noncomputable abbrev wQ:Stmt:=dJ (top 27) 3
noncomputable abbrev EC:Stmt:=dJ (top 27) 4
noncomputable abbrev pU:Stmt:=dJ (top 27) 5
noncomputable abbrev l8:Stmt:=dJ (top 27) 6
noncomputable abbrev l7:Stmt:=dJ (top 27) 7
noncomputable def ip:List Nat->Nat->Nat×Nat
 |[],k=>(0,k)
 |n::ns,k=>if k<n then(0,k)else((ip ns (k-n)).1+1,(ip ns (k-n)).2)
theorem iM(n:Nat)(ns:List Nat)(k:Nat):ip (n::ns) k=if k<n then(0,k)else((ip ns (k-n)).1+1,(ip ns (k-n)).2):=rfl
theorem zI:∀(ns:List Nat) (k:Nat),k<ns.sum->(ip ns k).1<ns.length/\(ip ns k).2+(ns.take (ip ns k).1).sum=k
 |[],k,h=>absurd h (gJ _)
 |n::ns,k,h=>by
  rw[cA]at h
  rw[iM]
  by_cases e:k<n
  ·rw[if_pos e];exact⟨by simp,by simp⟩
  ·rw[if_neg e]
   obtain⟨h1,h2⟩:=zI ns (k-n) (by ac_nf)
   refine⟨by simp only[aT];ac_nf,?_⟩
   show(ip ns (k-n)).2+(n::ns.take (ip ns (k-n)).1).sum=k
   rw[cA]
   ac_nf
structure Gs where
 ms:List Int
 N:Nat
 u:Nat
 k:Nat
noncomputable def gM(g:Gs):List (Str×PV):=[("marks",.tup (g.ms.map PV.int)),("used",.int (g.u:Int)),("passed",.int ((g.N:Int)-(g.k:Int)))]
noncomputable def gN(g:Gs):List (Str×PV):=[("left",.int (g.k:Int))]
noncomputable def Gs.to(g:Gs)(d r:Nat):Gs:=⟨g.ms,g.N,g.u+d,r⟩
theorem EI(ns:List Nat):(ns.map fun(n:Nat)=>(n:Int)).sum=((ns.sum:Nat):Int):=by
 induction ns with
 |nil=>rfl
 |cons n ns ih=>rw[aE,cA,ih,cA,gL]
section
variable{P:aI}{w:aY}{K:PySem.W.Frag}{mg:Str->Option ae}{base:Heap}{f C CB:Addr}{fd:aW}
theorem B1:bj ["self", "number", "at"] ["self", "number", "at"] (aM Bv):=⟨rfl,rfl,rfl,by decide+kernel,rfl,by decide+kernel,by decide+kernel⟩
noncomputable def nV(C:Addr):im:=λps G Q=>∃(a dx m pa tb:Addr) (ts:List Addr) (T:List Nat) (p q:Pt) (n e:Nat),ps=[.ref a,.int (n:Int),.int (e:Int)]/\Tb C G a T p (λ_ _=>True) dx m pa tb ts/\(makes p)[n]? =some q/\e<=T.length/\
 ∀d ws,G d=some (.rd (eR ws))->Wy ws (T.length+1) (nT T q e)->Q (.ref d) G
theorem FD(c:Cls K C)(n4:NoAttr K C "table")(F:Fun K "ends_of" "Counts.ends_of" Bv f fd)(B:BN mg):iz P w K mg base 1 f fd ["self", "number", "at"] (nV C):=by
 have nd:=B1.nd
 refine jY F B1 (λvs G Q h=> ?_) (λcdv A outer s H E as G Q hr h=> ?_)
 ·obtain⟨_,_,_,_,_,_,_,_,_,_,_,rfl,_⟩:=h
  rfl
 have hU:=eI hr
 apply jc
 case a=>symm
 obtain⟨a,dx,m,pa,tb,ts,T,p,qq,n,e,rfl,tbl,hq,he,q⟩:=h
 obtain⟨t,d,kvs,ms,r1,r2,r3,r4,r5⟩:=tbl.read hq (k:=e) trivial he
 exists cy tbl.ins rfl ?_
 exists cQ (aV tbl.tbl) (bS r1) ?_
 exists lm (jm r2) rfl r3 ?_
 exact⟨_,GE.refl,q d ms r4 r5⟩
theorem yU:bj ["self", "marks"] ["self", "marks"] (aM wP):=⟨rfl,rfl,rfl,by decide+kernel,rfl,by decide+kernel,by decide+kernel⟩
noncomputable def yG(CB:Addr):im:=λps G Q=>∃(a dx:Addr) (ms:List Int),ps=[.ref a,.tup (ms.map PV.int)]/\G a=some (.ins CB dx [])/\Q .non (up G a (.ins CB dx [("marks",.tup (ms.map PV.int)),("used",.int 0),("passed",.int 0)]))
theorem CY(c:Cls K CB)(n1:NoAttr K CB "marks")(n2:NoAttr K CB "used")(n3:NoAttr K CB "passed")(F:Fun K "__init__" "ByMarks.__init__" wP f fd)(B:BN mg):iz P w K mg base 1 f fd ["self", "marks"] (yG CB):=by
 have nd:=yU.nd
 refine jY F yU (λvs G Q h=> ?_) (λcdv A outer s H E as G Q hr h=> ?_)
 ·obtain⟨_,_,_,rfl,_⟩:=h
  rfl
 have hU:=eI hr
 apply jc
 case a=>symm
 obtain⟨a,dx,ms,rfl,ga,q⟩:=h
 exists iK ga (aP rfl) ?_
 exists iK ao (aP rfl) ?_
 exists iK ao (aP rfl) ?_
 rw[fO,fO]
 exact⟨_,GE.refl,q⟩
theorem vf:bj ["self", "sizes", "mark"] ["self", "sizes"] (aM sT):=⟨rfl,rfl,rfl,by decide+kernel,rfl,by decide+kernel,by decide+kernel⟩
noncomputable def ie(gF:Gs->List (Str×PV))(CB:Addr):im:=λps G Q=>∃(a dx sz:Addr) (g:Gs) (ns:List Nat),ps=[.ref a,.ref sz]/\G a=some (.ins CB dx (gF g))/\G sz=some (.lst (ns.map cI))/\g.k<ns.sum/\g.ms[g.u]? =some ((ip ns g.k).1:Int)/\
 ∀G',G' a=some (.ins CB dx (gF (g.to 1 (ip ns g.k).2)))->Ch [a] G G'->Q (.int ((ip ns g.k).1:Nat)) G'
noncomputable def KZ(C a:Addr)(f:Str)(i:Int)(Q:Gp->Prop)(y:PV)(G1:Gp):Prop:=match y with
 | .int j=>match G1 a with
  |some (.ins C'' dx' fs')=>C''=C/\fs'.length<1000/\Q (up G1 a (.ins C dx' (ig f (.int (i+j)) fs')))
  |_=>False
 |_=>False
theorem Eh{C a dx:Addr}{f:Str}{G:Gp}{Q:Gp->Prop}{fs:List (Str×PV)}{i j:Int}{τ:jo}(h:G a=some (.ins C dx fs))(e:fs.lookup f=some (.int i))(hl:fs.length<1000)(hq:Q (up G a (.ins C dx (ig f (.int (i+j)) fs)))):sL C f (.ref a) (eC (.int j)) τ G Q:=by
 unfold sL;simp only[h,e,eC];exact⟨trivial,trivial,hl,hq⟩
theorem KW{C a dx:Addr}{f:Str}{G:Gp}{Q:Gp->Prop}{fs:List (Str×PV)}{i:Int}{τ:jo}{tv:E2}(h:G a=some (.ins C dx fs))(e:fs.lookup f=some (.int i))
  (q:tv τ G λy G1=>KZ C a f i Q y G1):sL C f (.ref a) tv τ G Q:=by
 unfold sL;simp only[h,e]
 exact⟨trivial,q⟩
theorem KY{C a dx:Addr}{f:Str}{G:Gp}{Q:Gp->Prop}{fs:List (Str×PV)}{i j:Int}(h:G a=some (.ins C dx fs))(hl:fs.length<1000)(q:Q (up G a (.ins C dx (ig f (.int (i+j)) fs)))):KZ C a f i Q (.int j) G:=by
 unfold KZ;simp only[h]
 exact⟨trivial,hl,q⟩
theorem Ho{a:Addr}{lo hi:Option Int}{xs:List PV}{G:Gp}{Q:K2}(h:lk G a=some xs)(q:∀c,G c=none->Q (.ref c) (up G c (.lst (q9 xs lo hi)))):Be (.ref a) lo hi G Q:=by
 unfold Be;simp only[h]
 exact q
theorem xy(c:Cls K CB)(n1:NoAttr K CB "marks")(n2:NoAttr K CB "used")(n3:NoAttr K CB "passed")(F:Fun K "choose" "ByMarks.choose" sT f fd)(B:BN mg):iz P w K mg base 1 f fd ["self", "sizes"] (ie gM CB):=by
 have nd:=vf.nd
 refine jY F vf (λvs G Q h=> ?_) (λcdv A outer s H E as G Q hr h=> ?_)
 ·obtain⟨_,_,_,_,_,rfl,_⟩:=h
  rfl
 have hU:=eI hr
 apply jc
 case a=>symm
 obtain⟨a,dx,sz,g,ns,rfl,ga,gs,hk,hm,q⟩:=h
 obtain⟨h1,h2⟩:=zI ns g.k hk
 have nsa:sz≠a:=λz=>by rw[z,ga]at gs;cases gs
 exists cy ga rfl ?_
 exists cy ga rfl ?_
 exists ko (x:= .int ((ip ns g.k).1:Int)) (bS (by rw[aF,hm];rfl)) ?_
 exists Eh ga rfl (aP rfl) ?_
 exists KW ao rfl ?_
 exists Ho (aV (show up G a (.ins CB dx (ig "used" (.int ((g.u:Int)+1)) (gM g))) sz=_ from by rw[aL nsa];exact gs)) λc hc=> ?_
 have hcut:q9 (ns.map cI) none (some ((ip ns g.k).1:Int))=(ns.take (ip ns g.k).1).map cI:=by
  unfold q9
  rw[HT.sIx_none,HT.sIx_nat,ap,iR (by ac_nf),Nat.sub_zero,List.drop_zero,oH]
 rw[hcut]
 have nca:c≠a:=(dD hc).1
 have hc0:G c=none:=(dD hc).2
 exists BL (ns:=(ns.take (ip ns g.k).1).map fun(n:Nat)=>(n:Int)) (by rw[bT];exact iT) ?_
 rw[EI]
 refine KY (show up (up G a _) c _ a=some (.ins CB dx (ig "used" (.int ((g.u:Int)+1)) (gM g)))from by rw[aL (aG nca),ao]) (aP rfl) ?_
 left
 have e1:ig "passed" (.int (((g.N:Int)-(g.k:Int))+(((ns.take (ip ns g.k).1).sum:Nat):Int))) (ig "used" (.int ((g.u:Int)+1)) (gM g))=gM (g.to 1 (ip ns g.k).2):=by
  show[(("marks" :Str),PV.tup (g.ms.map PV.int)),("used",.int ((g.u:Int)+1)),("passed",.int (((g.N:Int)-(g.k:Int))+(((ns.take (ip ns g.k).1).sum:Nat):Int)))]=_
  unfold gM Gs.to
  rw[show((g.N:Int)-(g.k:Int))+(((ns.take (ip ns g.k).1).sum:Nat):Int)=(g.N:Int)-((ip ns g.k).2:Int)by ac_nf]
  rfl
 rw[e1]
 refine⟨_,GE.refl,q _ ao ?_⟩
 exact(((Ch.refl.put (by simp)).new hc).put (by simp))
theorem yM:bj ["self", "number"] ["self", "number"] (aM wH):=⟨rfl,rfl,rfl,by decide+kernel,rfl,by decide+kernel,by decide+kernel⟩
noncomputable def tD(CB:Addr):im:=λps G Q=>∃(a dx:Addr) (k:Int),ps=[.ref a,.int k]/\G a=some (.ins CB dx [])/\Q .non (up G a (.ins CB dx [("left",.int k)]))
theorem vq(c:Cls K CB)(n1:NoAttr K CB "left")(F:Fun K "__init__" "ByNumber.__init__" wH f fd)(B:BN mg):iz P w K mg base 1 f fd ["self", "number"] (tD CB):=by
 have nd:=yM.nd
 refine jY F yM (λvs G Q h=> ?_) (λcdv A outer s H E as G Q hr h=> ?_)
 ·obtain⟨_,_,_,rfl,_⟩:=h
  rfl
 have hU:=eI hr
 apply jc
 case a=>symm
 obtain⟨a,dx,k,rfl,ga,q⟩:=h
 exists iK ga (aP rfl) ?_
 exact⟨_,GE.refl,q⟩
theorem Ik{C a dx:Addr}{f:Str}{G:Gp}{Q:Gp->Prop}{fs:List (Str×PV)}{i j:Int}{τ:jo}{tv:E2}(h:G a=some (.ins C dx fs))(e:fs.lookup f=some (.int i))(hl:fs.length<1000)(hv:∀R:K2,R (.int j) G->tv τ G R)(hq:Q (up G a (.ins C dx (ig f (.int (i-j)) fs)))):yB C f (.ref a) tv τ G Q:=by
 unfold yB;simp only[h,e]
 exact⟨trivial,hv _ (by simp only[h];exact⟨trivial,hl,hq⟩)⟩
theorem sh:bj ["self", "sizes", "mark"] ["self", "sizes"] (aM pT):=⟨rfl,rfl,rfl,by decide+kernel,rfl,by decide+kernel,by decide+kernel⟩
theorem xx(c:Cls K CB)(n1:NoAttr K CB "left")(F:Fun K "choose" "ByNumber.choose" pT f fd)(B:BN mg):iz P w K mg base 1 f fd ["self", "sizes"] (ie gN CB):=by
 have nd:=sh.nd
 refine jY F sh (λvs G Q h=> ?_) (λcdv A outer s H E as G Q hr h=> ?_)
 ·obtain⟨_,_,_,_,_,rfl,_⟩:=h
  rfl
 have hU:=eI hr
 apply jc
 case a=>symm
 obtain⟨a,dx,sz,g,ns,rfl,ga,gs,hk,hmm,q'⟩:=h
 generalize hgk:g.k=k at hk q'
 have ga:G a=some (.ins CB dx [("left",.int (k:Int))]):=by rw[<-hgk];exact ga
 have q:Q (.int ((ip ns k).1:Nat)) (up G a (.ins CB dx [("left",.int ((ip ns k).2:Nat))])):=q' _ ao (Ch.refl.put (by simp))
 have nsa:sz≠a:=λz=>by rw[z,ga]at gs;cases gs
 exists⟨λm τ G'=>∃(j r:Nat),τ=[some (.ref a),some (.ref sz),some (.int (j:Int))]/\G'=up G a (.ins CB dx [("left",.int (r:Int))])/\j+m=ns.length/\r<(ns.drop j).sum/\(j+(ip (ns.drop j) r).1,(ip (ns.drop j) r).2)=ip ns k,⟨ns.length,0,k,rfl,(yk ga).symm,by ac_nf,hk,by simp⟩,?_⟩
 rintro m τ G' ⟨j,r,rfl,rfl,hm,hr2,he⟩
 have gs':up G a (.ins CB dx [("left",.int (r:Int))]) sz=some (.lst (ns.map cI)):=by rw[aL nsa];exact gs
 cases ed:ns.drop j with
 |nil=>rw[ed]at hr2;exact absurd hr2 (gJ _)
 |cons x xs=>
  have hj:ns[j]? =some x:=by
   have:(ns.drop j)[0]? =some x:=by rw[ed];rfl
   rwa [oY]at this
  have hat:(ns.map cI)[j]? =some (.int (x:Int)):=by rw[aF,hj];rfl
  have hd1:ns.drop (j+1)=xs:=by rw[<-List.tail_drop,ed];rfl
  rw[ed]at hr2 he
  rw[cA]at hr2
  exists cy ao rfl ?_
  exists cQ (aV gs') (bS hat) ?_
  left
  by_cases hx:x<=r
  ·refine iU (decide_eq_true (by ac_nf)) ?_
   exists Ik (i:=(r:Int)) (j:=(x:Int)) ao rfl (aP rfl) (λR r'=> ?_) ?_
   ·refine cQ (aV gs') (bS hat) ?_
    exact r'
   rw[fO]
   exists⟨m-1,by have:=(am.mp hj).1;ac_nf,j+1,r-x,rfl,?_,by have:=(am.mp hj).1;ac_nf,by rw[hd1];ac_nf,?_⟩
   ·show up G a (.ins CB dx [("left",.int ((r:Int)-(x:Int)))])=_
    rw[show(r:Int)-(x:Int)=((r-x:Nat):Int)by ac_nf]
   ·rw[hd1,<-he]
    show _=(j+(ip (x::xs) r).1,(ip (x::xs) r).2)
    rw[iM,if_neg (by ac_nf),show j+1+(ip xs (r-x)).1=j+((ip xs (r-x)).1+1)by ac_nf]
  ·refine ji (decide_eq_false (by ac_nf)) ?_
   left
   have e1:ip (x::xs) r=(0,r):=by rw[iM,if_pos (by ac_nf)]
   rw[e1]at he
   have e2:(ip ns k).1=j:=by rw[<-he];rfl
   have e3:(ip ns k).2=r:=by rw[<-he]
   rw[e2,e3]at q
   exact⟨_,GE.refl,q⟩
end
noncomputable def rL(cn gd:Addr)(e:Nat):List (Str×PV):=[("counts",.ref cn),("guide",.ref gd),("at",.int (e:Int))]
noncomputable def EA:Pt->Prop
 | .row ps=>1<=ps.length/\ps.length<=6
 | .pick ps=>1<=ps.length/\ps.length<=6
 |_=>True
structure O6(gF:Gs->List (Str×PV)):Prop where
 a:∀g cn gd e,gF g≠rL cn gd e
 b:∀g T m pa tb,gF g≠GS T m pa tb
 c:∀g,(gF g).lookup ("choose" :Str)=none
theorem Nm:O6 gM:=⟨λg cn gd e h=>(by unfold gM rL at h;cases h),λg T m pa tb h=>(by unfold gM GS at h;cases h),λ_=>rfl⟩
theorem HJ:O6 gN:=⟨λg cn gd e h=>(by unfold gN rL at h;cases h),λg T m pa tb h=>(by unfold gN GS at h;cases h),λ_=>rfl⟩
structure Ds(gF:Gs->List (Str×PV))(CD CC CB:Addr)(G:Gp)(ds cn gd:Addr)(T:List Nat)(p:Pt)(k:Gs)(e:Nat)(dd db dx m pa tb:Addr)(ts:List Addr):Prop where
 ins:G ds=some (.ins CD dd (rL cn gd e))
 gui:G gd=some (.ins CB db (gF k))
 tab:Tb CC G cn T p (λ_ _=>True) dx m pa tb ts
 cs:Cs T p
 ar:∀q∈makes p,EA q
 gok:O6 gF
noncomputable def On(G:Gp)(ow:Addr)(S:Nat->Prop)(o:Nat->Nat):Prop:=∃kvs,jZ G ow=some kvs/\∀j,S j->(gU kvs (.inl (j:Int))).getD (.int 0)= .int (o j:Int)
section
variable{gF:Gs->List (Str×PV)}{CD CC CB:Addr}{G G':Gp}{ds cn gd dd db dx m pa tb:Addr}{T:List Nat}{p:Pt}{k:Gs}{e:Nat}{ts:List Addr}
theorem Ds.ge(h:Ds gF CD CC CB G ds cn gd T p k e dd db dx m pa tb ts)(g:GE G G'):Ds gF CD CC CB G' ds cn gd T p k e dd db dx m pa tb ts:=⟨g _ _ h.ins,g _ _ h.gui,h.tab.ge g,h.cs,h.ar,h.gok⟩
theorem DZ{a:Addr}{kvs:List (Key×PV)}(g:GE G G')(h:jZ G a=some kvs):jZ G' a=some kvs:=by
 cases eg:G a with
 |none=>simp[jZ,eg]at h
 |some o=>
  cases o with
  |dK k'=>simp[jZ,eg]at h;subst h;exact jm (g _ _ eg)
  |rd k'=>simp[jZ,eg]at h;subst h;exact mV (g _ _ eg)
  |_=>simp[jZ,eg]at h
theorem On.ge{ow:Addr}{S:Nat->Prop}{o:Nat->Nat}(h:On G ow S o)(g:GE G G'):On G' ow S o:=by
 obtain⟨kvs,h1,h2⟩:=h
 exact⟨kvs,DZ g h1,h2⟩
end
section
variable{gF:Gs->List (Str×PV)}{P:aI}{w:aY}{K:PySem.W.Frag}{mg:Str->Option ae}{base:Heap}{f fa CD CC CB:Addr}{fd da:aW}
theorem yL:bj ["self", "number", "at", "onward", "ends"] ["self", "number", "at", "onward"] (aM sR):=⟨rfl,rfl,rfl,by decide+kernel,rfl,by decide+kernel,by decide+kernel⟩
theorem GP:fq (aM sR) ["self", "number", "at", "onward", "ends"] (jI [(".0",.local),("end",.local),("ends",.free),("onward",.free)]) ["end", "ends", "onward"] [none,some 4,some 3] 0 "end" =true:=by decide+kernel
noncomputable def jw(gF:Gs->List (Str×PV))(CD CC CB:Addr):im:=λps G Q=>∃(ds cn gd dd db dx m pa tb:Addr) (ts:List Addr) (T:List Nat) (p q:Pt) (k:Gs) (e0 n e:Nat) (ow:Addr) (o:Nat->Nat),ps=[.ref ds,.int (n:Int),.int (e:Int),.ref ow]/\Ds gF CD CC CB G ds cn gd T p k e0 dd db dx m pa tb ts/\(makes p)[n]? =some q/\e<=T.length/\On G ow (λj=>nT T q e j≠0) o/\
 Q (.int (bG o (bo T q e):Nat)) G
theorem uO:∀(ws:Ws) (g:Nat->Nat),(ws.map λv=>((v.2:Nat):Int)*((g v.1:Nat):Int)).sum=(((ws.map λv=>g v.1*v.2).sum:Nat):Int)
 |[],g=>rfl
 |v::ws,g=>by
  rw[aE,cA,uO ws g,aE,cA]
  rw[gL,lx,Int.mul_comm]
theorem vp(c:Cls K CD)(n1:NoAttr K CD "counts")(F:Fun K "size" "Descent.size" sR f fd)(B:BN mg)(ME:dF P w K mg base CC 1 "ends_of" fa da ["self", "number", "at"] (nV CC)):iz P w K mg base 2 f fd ["self", "number", "at", "onward"] (jw gF CD CC CB):=by
 have nd:=yL.nd
 refine jY F yL (λvs G Q h=> ?_) (λcdv A outer s H E as G Q hr h=> ?_)
 ·obtain⟨_,_,_,_,_,_,_,_,_,_,_,_,_,_,_,_,_,_,_,rfl,_⟩:=h
  rfl
 have hU:=eI hr
 apply jc
 case a=>
  symm
  all_goals try (refine' qN GP rfl ?_ λ_ _ _ _=>⟨?_,?_⟩)
  all_goals symm
 obtain⟨ds,cn,gd,dd,db,dx,m,pa,tb,ts,T,p,qq,k,e0,n,e,ow,o,rfl,D,hq,he,⟨okv,ho1,ho2⟩,q⟩:=h
 exists cy D.ins rfl ?_
 exists⟨⟨cn,dx,_,rfl,D.tab.ins,rfl⟩,?_⟩
 exists⟨cn,dx,m,pa,tb,ts,T,p,qq,n,e,rfl,D.tab,hq,he,λd ws gd' wy=> ?_⟩
 exists xU rfl gd' ?_
 rw[jk]
 intro acc hacc
 have nda:d≠acc:=aZ gd' hacc
 have hln:=wy.len
 have hLT:=D.cs.len
 refine nj (λ_=>true) (λx=>match x with| .int i=> .int ((jR ws i.toNat:Int)*(o i.toNat:Int))|_=> .non) (by rw[ap];ac_nf) (λys=>by rw[aL nda];exact gd') (λx ys R _ hR=>hR) (λx ys R hx _ hR=> ?_) ?_
 ·obtain⟨v,hv,rfl⟩:=ay.mp hx
  obtain⟨i,hi⟩:=fI.mp hv
  obtain⟨k1,k2,k3⟩:=wy.key hi
  have hlk:=oj wy.nd hi
  have goe:jZ (up G acc (.lst ys)) ow=some okv:=DZ (GE.refl.new hacc) ho1
  exists lm (mV (by rw[aL nda];exact gd')) rfl (wy.read hi) ?_
  exists⟨qQ goe,?_⟩
  exists ug goe rfl ?_
  rw[ho2 v.1 (by show nT T qq e v.1≠0;rw[k1];ac_nf)]
  exists C9 (.inl ⟨by ac_nf,by have:=wy.big D.cs (ax hq) he v hv;ac_nf⟩) ?_
  have e1:((v.1:Int)).toNat=v.1:=by ac_nf
  show R (.int ((v.2:Int)*(o v.1:Int))) _
  change R (.int ((jR ws ((v.1:Int)).toNat:Int)*(o ((v.1:Int)).toNat:Int))) _ at hR
  rw[e1,hlk]at hR
  exact hR
 have el:((ws.map λw=>PV.int (w.1:Int)).filter λ_=>true).map (λx=>match x with| .int i=>PV.int ((jR ws i.toNat:Int)*(o i.toNat:Int))|_=> .non)=(ws.map λv=>((v.2:Nat):Int)*((o v.1:Nat):Int)).map PV.int:=by
  rw[nE.mpr (λ_ _=>rfl),bT,bT]
  refine gu λv hv=> ?_
  obtain⟨i,hi⟩:=fI.mp hv
  have e1:((v.1:Int)).toNat=v.1:=by ac_nf
  show PV.int ((jR ws ((v.1:Int)).toNat:Int)*(o ((v.1:Int)).toNat:Int))= .int ((v.2:Int)*(o v.1:Int))
  rw[e1,oj wy.nd hi]
 rw[el]
 exists BL (ns:=ws.map λv=>((v.2:Nat):Int)*((o v.1:Nat):Int)) iT ?_
 rw[uO ws o,KB (h:=o) wy.nd wy.lt]
 refine⟨G,GE.refl.new hacc,?_⟩
 have e2:iy (T.length+1) (λk=>jR ws k*o k)=bG o (bo T qq e):=by
  rw[ED he]
  exact fF λj _=>by rw[wy.val]
 rw[e2]
 exact q
end
section
variable{gF:Gs->List (Str×PV)}{P:aI}{w:aY}{K:PySem.W.Frag}{mg:Str->Option ae}{base:Heap}{f fa CD CC CB:Addr}{fd da:aW}
theorem yS:bj ["self", "counts", "guide"] ["self", "counts", "guide"] (aM wO):=⟨rfl,rfl,rfl,by decide+kernel,rfl,by decide+kernel,by decide+kernel⟩
noncomputable def pF(CD:Addr):im:=λps G Q=>∃(a dx cn gd:Addr),ps=[.ref a,.ref cn,.ref gd]/\G a=some (.ins CD dx [])/\Q .non (up G a (.ins CD dx (rL cn gd 0)))
theorem qA(c:Cls K CD)(n1:NoAttr K CD "counts")(n2:NoAttr K CD "guide")(n3:NoAttr K CD "at")(F:Fun K "__init__" "Descent.__init__" wO f fd)(B:BN mg):iz P w K mg base 1 f fd ["self", "counts", "guide"] (pF CD):=by
 have nd:=yS.nd
 refine jY F yS (λvs G Q h=> ?_) (λcdv A outer s H E as G Q hr h=> ?_)
 ·obtain⟨_,_,_,_,rfl,_⟩:=h
  rfl
 have hU:=eI hr
 apply jc
 case a=>symm
 obtain⟨a,dx,cn,gd,rfl,ga,q⟩:=h
 exists iK ga (aP rfl) ?_
 exists iK ao (aP rfl) ?_
 exists iK ao (aP rfl) ?_
 rw[fO,fO]
 exact⟨_,GE.refl,q⟩
theorem yV:bj ["self", "number", "places", "onward", "ahead", "place"] ["self", "number", "places", "onward"] (aM wQ):=⟨rfl,rfl,rfl,by decide+kernel,rfl,by decide+kernel,by decide+kernel⟩
noncomputable def kB(gF:Gs->List (Str×PV))(CD CC CB:Addr):im:=λps G Q=>∃(ds cn gd dd db dx m pa tb:Addr) (ts:List Addr) (T:List Nat) (p q:Pt) (k:Gs) (e0 n:Nat) (pl ow:Addr) (js:List Nat) (o:Nat->Nat),ps=[.ref ds,.int (n:Int),.ref pl,.ref ow]/\Ds gF CD CC CB G ds cn gd T p k e0 dd db dx m pa tb ts/\(makes p)[n]? =some q/\G pl=some (.lst (js.map cI))/\js.length<=10000/\(∀j∈js,j<=T.length)/\On G ow (λi=>∃j∈js,nT T q j i≠0) o/\
 ∀c G',G c=none->GE G G'->On G' c (λj=>j∈js) (λj=>bG o (bo T q j))->Q (.ref c) G'
theorem vv(c:Cls K CD)(n1:NoAttr K CD "counts")(F:Fun K "onward_ahead" "Descent.onward_ahead" wQ f fd)(B:BN mg)(MS:dF P w K mg base CD 2 "size" fa da ["self", "number", "at", "onward"] (jw gF CD CC CB)):iz P w K mg base 3 f fd ["self", "number", "places", "onward"] (kB gF CD CC CB):=by
 have nd:=yV.nd
 refine jY F yV (λvs G Q h=> ?_) (λcdv A outer s H E as G Q hr h=> ?_)
 ·obtain⟨_,_,_,_,_,_,_,_,_,_,_,_,_,_,_,_,_,_,_,_,rfl,_⟩:=h
  rfl
 have hU:=eI hr
 apply jc
 case a=>symm
 obtain⟨ds,cn,gd,dd,db,dx,m,pa,tb,ts,T,p,qq,k,e0,n,pl,ow,js,o,rfl,D,hq,gp,hjl,hjs,hon,q⟩:=h
 left
 intro ah hah
 left
 rw[aV (show up G ah (.dK []) pl=some (.lst (js.map cI))by rw[aL (aZ gp hah)];exact gp)]
 exists⟨λi τ G'=>∃(kvs:List (Key×PV)) (t5:Option PV),τ=[some (.ref ds),some (.int (n:Int)),some (.ref pl),some (.ref ow),some (.ref ah),t5]/\G'=up G ah (.dK kvs)/\kvs.length<=i/\∀j∈js.take i,gU kvs (.inl (j:Int))=some (.int (bG o (bo T qq j):Nat)),⟨[],none,rfl,rfl,av _,by simp⟩,?_,?_,?_⟩
 ·rintro i τ G' hi ⟨kvs,t5,rfl,rfl,_⟩
  exact aV (by rw[aL (aZ gp hah)];exact gp)
 ·rintro i x τ G' hx ⟨kvs,t5,rfl,rfl,hl,hv⟩
  rw[aF]at hx
  cases ej:js[i]? with
  |none=>rw[ej]at hx;cases hx
  |some j=>
   rw[ej]at hx
   cases hx
   have mj:=ax ej
   have hil:=(am.mp ej).1
   have ge1:GE G (up G ah (.dK kvs)):=GE.refl.new hah
   have D1:=D.ge ge1
   obtain⟨okv,ho1,ho2⟩:=hon.ge ge1
   exists⟨⟨ds,dd,_,rfl,D1.ins,rfl⟩,?_⟩
   exists⟨ds,cn,gd,dd,db,dx,m,pa,tb,ts,T,p,qq,k,e0,n,j,ow,o,rfl,D1,hq,hjs j mj,⟨okv,ho1,λi hi=>ho2 i ⟨j,mj,hi⟩⟩,?_⟩
   exists w9 ao rfl (by ac_nf) ?_
   refine⟨_,_,rfl,by rw[fO],?_,λj' hj'=> ?_⟩
   ·have:=vn (k:= .inl (j:Int)) (v:= .int (bG o (bo T qq j):Nat)) kvs
    ac_nf
   ·show gU (jf kvs (.inl (j:Int)) (.int (bG o (bo T qq j):Nat))) (.inl (j':Int))=_
    rw[pW]
    by_cases e:j=j'
    ·subst e;rw[if_pos rfl]
    ·rw[if_neg (qK e)]
     rw[bZ,ej]at hj'
     rcases aR.mp hj' with h|h
     ·exact hv j' h
     ·exact absurd (by simpa using h) (aG e)
 ·rintro τ G' ⟨kvs,t5,rfl,rfl,hl,hv⟩
  rw[ap,bD]at hv
  exists⟨_,GE.refl,q ah _ hah (GE.refl.new hah) ⟨kvs,jm ao,λj hj=> ?_⟩⟩
  rw[hv j hj];rfl
end
theorem za{T:List Nat}{o:Nat->Nat}{e:Nat}:∀(ps:List Pt) (i k:Nat),k<(ps.map λc=>bG o (bo T c e)).sum->
  ∃c,ps[(ip (ps.map λc=>bG o (bo T c e)) k).1]? =some c/\(ip (ps.map λc=>bG o (bo T c e)) k).2<bG o (bo T c e)/\
   pk o (eX T ps i e) k=(pk o (bo T c e) (ip (ps.map λc=>bG o (bo T c e)) k).2).map λy=>(Tr.pick ((i+(ip (ps.map λc=>bG o (bo T c e)) k).1:Nat):Int) y.1,y.2)
 |[],i,k,h=>absurd h (gJ _)
 |p::ps,i,k,h=>by
  rw[aE,cA]at h
  rw[aE,iM]
  have hw:bG o ((bo T p e).map λt=>(Tr.pick (i:Int) t.1,t.2))=bG o (bo T p e):=l9 (Tr.pick (i:Int)) (bo T p e)
  by_cases hk:k<bG o (bo T p e)
  ·rw[if_pos hk]
   refine⟨p,rfl,hk,?_⟩
   unfold eX
   rw[pG _ _ _ (by rw[hw];exact hk),nZ (Tr.pick (i:Int)) (bo T p e) k]
   rfl
  ·rw[if_neg hk]
   obtain⟨c,h1,h2,h3⟩:=za (T:=T) (o:=o) (e:=e) ps (i+1) (k-bG o (bo T p e)) (by ac_nf)
   refine⟨c,by simpa using h1,h2,?_⟩
   unfold eX
   rw[mC _ _ _ (by rw[hw];ac_nf),hw,h3]
   congr 1
   funext y
   rw[show i+1+(ip (ps.map λc=>bG o (bo T c e)) (k-bG o (bo T p e))).1=i+((ip (ps.map λc=>bG o (bo T c e)) (k-bG o (bo T p e))).1+1)by ac_nf]
theorem rQ{T:List Nat}{o:Nat->Nat}{e:Nat}:∀(ps:List Pt) (i:Nat),bG o (eX T ps i e)=(ps.map λc=>bG o (bo T c e)).sum
 |[],i=>by unfold eX;rfl
 |p::ps,i=>by
  unfold eX
  rw[j7,l9 (Tr.pick (i:Int)) (bo T p e),rQ ps (i+1),aE,cA]
theorem qE{T:List Nat}{ps:List Pt}{c:Pt}{e j:Nat}(hc:c∈ps)(h:nT T c e j≠0):nT T (.pick ps) e j≠0:=by
 rw[zj]
 induction ps with
 |nil=>cases hc
 |cons x ps ih=>
  rw[aE,cA]
  rcases aD.mp hc with rfl|hc
  ·ac_nf
  ·have:=ih hc;ac_nf
noncomputable def Hh:Tr->List Tr
 | .again ts=>ts
 |_=>[]
noncomputable def agS(T:List Nat)(p:Pt)(l:List (Tr×Nat)):List (Tr×Nat):=l.flatMap λt=>(bo T (.again p) t.2).map λu=>(Tr.again (t.1::Hh u.1),u.2)
theorem EG{T:List Nat}{p:Pt}{e:Nat}(hc:gY p=false)(he:e<=T.length):bo T (.again p) e=agS T p (bo T p e)++[(.again [],e)]:=by
 rw[rW hc he]
 rfl
noncomputable def nk(T:List Nat)(r:Pt)(o:Nat->Nat)(e:Nat):Nat:=bG o (bo T (.again r) e)
noncomputable def wl(t:Tr)(u:Tr):Tr:= .again (t::Hh u)
theorem uz{T:List Nat}{r:Pt}{e:Nat}(hc:gY r=false)(he:e<=T.length):bo T (.again r) e=((bo T r e).flatMap λt=>(bo T (.again r) t.2).map λu=>(wl t.1 u.1,u.2))++[(.again [],e)]:=EG hc he
theorem Eg{T:List Nat}{r:Pt}{o:Nat->Nat}{e:Nat}(hc:gY r=false)(he:e<=T.length):nk T r o e=bG (nk T r o) (bo T r e)+o e:=by
 unfold nk
 rw[uz hc he,j7,iB (λj=>bo T (.again r) j) wl (bo T r e),gl,iG]
 rfl
theorem Fd{T:List Nat}{r:Pt}{o:Nat->Nat}{e k:Nat}(hc:gY r=false)(he:e<=T.length)(hk:k<bG (nk T r o) (bo T r e)):
  pk o (bo T (.again r) e) k=(pk (nk T r o) (bo T r e) k).bind λy=>(pk o (bo T (.again r) y.2.1) y.2.2).map λz=>(wl y.1 z.1,z.2):=by
 rw[uz hc he,pG _ _ _ (by rw[iB (λj=>bo T (.again r) j) wl (bo T r e)];exact hk)]
 exact tO (λj=>bo T (.again r) j) wl (bo T r e) k
theorem Fe{T:List Nat}{r:Pt}{o:Nat->Nat}{e k:Nat}(hc:gY r=false)(he:e<=T.length)(hk:¬k<bG (nk T r o) (bo T r e))(hk2:k<nk T r o e):
  pk o (bo T (.again r) e) k=some (.again [],e,k-bG (nk T r o) (bo T r e)):=by
 rw[Eg hc he]at hk2
 rw[uz hc he,mC _ _ _ (by rw[iB (λj=>bo T (.again r) j) wl (bo T r e)];exact Nat.le_of_not_lt hk),iB (λj=>bo T (.again r) j) wl (bo T r e)]
 show pk o [(Tr.again [],e)] (k-bG (nk T r o) (bo T r e))=_
 rw[L3.pk_cons,if_pos (by show k-bG (nk T r o) (bo T r e)<o e;ac_nf)]
theorem xW{T:List Nat}{r:Pt}(hc:gY r=false):∀(n e0 e e1:Nat),T.length-e0<=n->e0<=T.length->nT T (.again r) e0 e≠0->e<=T.length->nT T r e e1≠0->nT T (.again r) e0 e1≠0:=by
 intro n
 induction n with
 |zero=>
  intro e0 e e1 hn h0 h he h1
  have h2:=C5 h
  obtain rfl:e0=e:=by ac_nf
  have h3:e0<e1:=by
   rcases cP e0 e1 with z|z
   ·exact z
   ·exact absurd (kh hc z) h1
  exact absurd (kj h0 (by ac_nf)) h1
 |succ n ih=>
  intro e0 e e1 hn h0 h he h1
  have hlt:e<e1:=by
   rcases cP e e1 with z|z
   ·exact z
   ·exact absurd (kh hc z) h1
  have he1:e1<=T.length:=by
   rcases cP T.length e1 with z|z
   ·exact absurd (kj he z) h1
   ·exact z
  have one:nT T (.again r) e1 e1≠0:=by rw[iL hc he1,if_pos rfl];ac_nf
  have go:∀k,k<=T.length->nT T r e0 k≠0->nT T (.again r) k e1≠0->nT T (.again r) e0 e1≠0:=λk hk a b=>by
   rw[iL hc h0]
   have t:=rY (n:=T.length+1) (f:=λk=>nT T r e0 k*nT T (.again r) k e1) (i:=k) (by ac_nf)
   have:0<nT T r e0 k*nT T (.again r) k e1:=Nat.mul_pos (fA a) (fA b)
   change nT T r e0 k*nT T (.again r) k e1<=_ at t
   ac_nf
  by_cases e2:e0=e
  ·subst e2
   exact go e1 he1 h1 one
  ·rw[iL hc h0,if_neg e2,Nat.zero_add]at h
   obtain⟨k,hk,hz⟩:=qd h
   have a:nT T r e0 k≠0:=λz=>hz (by rw[z,Nat.zero_mul])
   have b:nT T (.again r) k e≠0:=λz=>hz (by rw[z,Nat.mul_zero])
   have hk0:e0<k:=by
    rcases cP e0 k with z|z
    ·exact z
    ·exact absurd (kh hc z) a
   exact go k (by ac_nf) a (ih k e e1 (by ac_nf) (by ac_nf) b he h1)
section
variable{gF:Gs->List (Str×PV)}{CD CC CB:Addr}{G G':Gp}{ds cn gd dd db dx m pa tb:Addr}{T:List Nat}{p:Pt}{k k':Gs}{e e':Nat}{ts:List Addr}
theorem Ds.ch(h:Ds gF CD CC CB G ds cn gd T p k e dd db dx m pa tb ts)(c:Ch [ds,gd] G G')(h1:G' ds=some (.ins CD dd (rL cn gd e')))(h2:G' gd=some (.ins CB db (gF k'))):Ds gF CD CC CB G' ds cn gd T p k' e' dd db dx m pa tb ts:=by
 have ng:∀{b:Addr} {o:MO},G b=some o->o≠ .ins CD dd (rL cn gd e)->o≠ .ins CB db (gF k)->G' b=some o:=fun{b o} hb ho ho2=>by
  refine c b o (λz=> ?_) hb
  rcases aD.mp z with z|z
  ·rw[z,h.ins]at hb;cases hb;exact ho rfl
  ·rw[au.mp z,h.gui]at hb;cases hb;exact ho2 rfl
 refine⟨h1,h2,⟨ng h.tab.ins (by intro z;cases z) (by intro z;injection z with _ _ z;exact h.gok.b _ _ _ _ _ z.symm),ng h.tab.mks (by intro z;cases z) (by intro z;cases z),ng h.tab.pts (by intro z;cases z) (by intro z;cases z),ng h.tab.tbl (by intro z;cases z) (by intro z;cases z),h.tab.tl,λi t hi=> ?_⟩,h.cs,h.ar,h.gok⟩
 obtain⟨kvs,h1,h3⟩:=h.tab.row i t hi
 refine⟨kvs,ng h1 (by intro z;cases z) (by intro z;cases z),λq hq e he hl=> ?_⟩
 obtain⟨d,ws,h4,h5,h6⟩:=h3 q hq e he hl
 exact⟨d,ws,h4,ng h5 (by intro z;cases z) (by intro z;cases z),h6⟩
theorem KI{a:Addr}{kvs:List (Key×PV)}(h:jZ G a=some kvs)(D:Ds gF CD CC CB G ds cn gd T p k e dd db dx m pa tb ts)(c:Ch [ds,gd] G G'):jZ G' a=some kvs:=by
 have n1:a≠ds:=λz=>by rw[z]at h;simp[jZ,D.ins]at h
 have n2:a≠gd:=λz=>by rw[z]at h;simp[jZ,D.gui]at h
 cases eg:G a with
 |none=>simp[jZ,eg]at h
 |some o=>
  have:=c a o (by simp[n1,n2]) eg
  unfold jZ at h⊢
  rw[eg]at h;rw[this];exact h
theorem On.ch{ow:Addr}{S:Nat->Prop}{o:Nat->Nat}(h:On G ow S o)(D:Ds gF CD CC CB G ds cn gd T p k e dd db dx m pa tb ts)(c:Ch [ds,gd] G G'):On G' ow S o:=by
 obtain⟨kvs,h1,h2⟩:=h
 exact⟨kvs,KI h1 D c,h2⟩
theorem On.mono{ow:Addr}{S S':Nat->Prop}{o:Nat->Nat}(h:On G ow S o)(s:∀j,S' j->S j):On G ow S' o:=by
 obtain⟨kvs,h1,h2⟩:=h
 exact⟨kvs,h1,λj hj=>h2 j (s j hj)⟩
theorem sW{ws:Ws}{n:Nat}{f:Nat->Nat}{j:Nat}(h:Wy ws n f):j∈ws.map (·.1)↔f j≠0:=by
 constructor
 ·intro hj
  obtain⟨w,hw,rfl⟩:=ay.mp hj
  obtain⟨i,hi⟩:=fI.mp hw
  obtain⟨k1,k2,k3⟩:=h.key hi
  ac_nf
 ·intro hj
  by_cases e:j∈ws.map (·.1)
  ·exact e
  ·exact absurd (by rw[<-h.val];exact mF e) hj
end
theorem xA{T:List Nat}{p:Pt}{e j:Nat}{t:Tr}(h:(t,j)∈bo T p e):nT T p e j≠0:=by
 have:0<jV (bo T p e) j:=List.countP_pos_iff.mpr ⟨(t,j),h,by simp⟩
 unfold nT
 ac_nf
theorem Em{T:List Nat}{r:Pt}(hc:gY r=false):∀(n e0 e e1:Nat),T.length-e0<=n->e0<=T.length->nT T (.again r) e0 e≠0->e<=T.length->nT T (.again r) e e1≠0->nT T (.again r) e0 e1≠0:=by
 intro n
 induction n with
 |zero=>
  intro e0 e e1 hn h0 h he h1
  have h2:=C5 h
  obtain rfl:e0=e:=by ac_nf
  exact h1
 |succ n ih=>
  intro e0 e e1 hn h0 h he h1
  by_cases e2:e0=e
  ·subst e2;exact h1
  ·rw[iL hc h0,if_neg e2,Nat.zero_add]at h
   obtain⟨k,hk,hz⟩:=qd h
   have a:nT T r e0 k≠0:=λz=>hz (by rw[z,Nat.zero_mul])
   have b:nT T (.again r) k e≠0:=λz=>hz (by rw[z,Nat.mul_zero])
   have hk0:e0<k:=by
    rcases cP e0 k with z|z
    ·exact z
    ·exact absurd (kh hc z) a
   have c:=ih k e e1 (by ac_nf) (by ac_nf) b he h1
   rw[iL hc h0]
   have t:=rY (n:=T.length+1) (f:=λk=>nT T r e0 k*nT T (.again r) k e1) (i:=k) (by ac_nf)
   have:0<nT T r e0 k*nT T (.again r) k e1:=Nat.mul_pos (fA a) (fA c)
   change nT T r e0 k*nT T (.again r) k e1<=_ at t
   ac_nf
noncomputable def wD(T:List Nat):List Pt->Nat->Nat->Prop
 |[],e,j=>e=j
 |p::ps,e,j=>∃i,nT T p e i≠0/\wD T ps i j
theorem uA{T:List Nat}:∀(ps qs:List Pt) (e j:Nat),wD T (ps++qs) e j↔∃i,wD T ps e i/\wD T qs i j
 |[],qs,e,j=>⟨λh=>⟨e,rfl,h⟩,λ⟨i,h1,h2⟩=>by obtain rfl:e=i:=h1;exact h2⟩
 |p::ps,qs,e,j=>by
  constructor
  ·rintro⟨i,h1,h2⟩
   obtain⟨i2,h3,h4⟩:=(uA ps qs i j).mp h2
   exact⟨i2,⟨i,h1,h3⟩,h4⟩
  ·rintro⟨i,⟨i2,h1,h2⟩,h3⟩
   exact⟨i2,h1,(uA ps qs i2 j).mpr ⟨i,h2,h3⟩⟩
theorem nr{T:List Nat}{ps:List Pt}{c:Pt}{k e j:Nat}(hc:ps[k]? =some c):wD T (ps.take (k+1)) e j↔∃i,wD T (ps.take k) e i/\nT T c i j≠0:=by
 rw[bZ,hc]
 show wD T (ps.take k++[c]) e j↔_
 rw[uA]
 constructor
 ·rintro⟨i,h1,i2,h2,h3⟩
  obtain rfl:i2=j:=h3
  exact⟨i,h1,h2⟩
 ·rintro⟨i,h1,h2⟩
  exact⟨i,h1,j,h2,rfl⟩
theorem xB{T:List Nat}{p:Pt}{e j:Nat}:nT T p e j≠0↔∃t,(t,j)∈bo T p e:=by
 constructor
 ·intro h
  obtain⟨x,hx,hp⟩:=List.countP_pos_iff.mp (fA (show(bo T p e).countP (λs=>s.2==j)≠0 from h))
  obtain rfl:x.2=j:=by simpa using hp
  exact⟨x.1,hx⟩
 ·rintro⟨t,h⟩
  exact xA h
theorem rm{T:List Nat}:∀(ps:List Pt) (e j:Nat),(∃u,(u,j)∈c8 T ps e)↔wD T ps e j
 |[],e,j=>by
  unfold c8 wD
  constructor
  ·rintro⟨u,h⟩
   have:=au.mp h
   exact(congrArg Prod.snd this).symm
  ·rintro rfl
   exact⟨[],au.mpr rfl⟩
 |p::ps,e,j=>by
  unfold c8
  constructor
  ·rintro⟨u,h⟩
   obtain⟨t,ht,h2⟩:=bp.mp h
   obtain⟨v,hv,h3⟩:=ay.mp h2
   obtain rfl:v.2=j:=congrArg Prod.snd h3
   exact⟨t.2,xB.mpr ⟨t.1,ht⟩,(rm ps t.2 v.2).mp ⟨v.1,hv⟩⟩
  ·rintro⟨i,h1,h2⟩
   obtain⟨t,ht⟩:=xB.mp h1
   obtain⟨u,hu⟩:=(rm ps i j).mpr h2
   exact⟨t::u,bp.mpr ⟨(t,i),ht,ay.mpr ⟨(u,j),hu,rfl⟩⟩⟩
theorem xz{T:List Nat}{ps:List Pt}{e j:Nat}:nT T (.row ps) e j≠0↔wD T ps e j:=by
 rw[xB,<-rm,iH]
 constructor
 ·rintro⟨t,h⟩
  obtain⟨s,hs,h2⟩:=ay.mp h
  obtain rfl:s.2=j:=congrArg Prod.snd h2
  exact⟨s.1,hs⟩
 ·rintro⟨u,h⟩
  exact⟨.row u,ay.mpr ⟨(u,j),h,rfl⟩⟩
theorem oG{T:List Nat}:∀(ps:List Pt) (e j:Nat),e<=T.length->wD T ps e j->j<=T.length
 |[],e,j,he,h=>by obtain rfl:e=j:=h;exact he
 |p::ps,e,j,he,⟨i,h1,h2⟩=>by
  refine oG ps i j ?_ h2
  rcases cP T.length i with z|z
  ·exact absurd (kj he z) h1
  ·exact z
noncomputable def AA(ws ms:Ws):Ws:=ms.foldl (λacc w=>iO acc w.1 w.2) ws
theorem y7:∀(ws:Ws) (j c x:Nat),x∈(iO ws j c).map (·.1)↔x=j\/x∈ws.map (·.1)
 |[],j,c,x=>by simp[iO]
 |w::ws,j,c,x=>by
  have ih:=y7 ws j c x
  unfold iO
  split
  ·rename_i h
   rw[aE,aE,aD,aD]
   constructor
   ·rintro(h1|h1)
    ·exact .inl h1
    ·exact .inr (.inr h1)
   ·rintro(h1|h1|h1)
    ·exact .inl h1
    ·exact .inl (by rw[h1];first|exact h|exact h.symm)
    ·exact .inr h1
  ·rw[aE,aE,aD,aD,ih]
   constructor
   ·rintro(h1|h1|h1)
    ·exact .inr (.inl h1)
    ·exact .inl h1
    ·exact .inr (.inr h1)
   ·rintro(h1|h1|h1)
    ·exact .inr (.inl h1)
    ·exact .inl h1
    ·exact .inr (.inr h1)
theorem zo:∀(ms ws:Ws) (x:Nat),x∈(AA ws ms).map (·.1)↔x∈ws.map (·.1)\/x∈ms.map (·.1)
 |[],ws,x=>by simp[AA]
 |m::ms,ws,x=>by
  show x∈(AA (iO ws m.1 m.2) ms).map (·.1)↔_
  rw[zo ms,y7,aE,aD]
  constructor
  ·rintro((h|h)|h)
   ·exact .inr (.inl h)
   ·exact .inl h
   ·exact .inr (.inr h)
  ·rintro(h|h|h)
   ·exact .inl (.inr h)
   ·exact .inl (.inl h)
   ·exact .inr h
theorem zn:∀(ms ws:Ws),(ws.map (·.1)).Nodup->((AA ws ms).map (·.1)).Nodup
 |[],ws,h=>h
 |m::ms,ws,h=>zn ms _ (kC h)
theorem vD:∀(ms ws:Ws),(ws.map (·.1)).Nodup->AB (eR ws) (eR ms)=eR (AA ws ms)
 |[],ws,h=>rfl
 |m::ms,ws,h=>by
  show AB (jf (eR ws) (.inl (m.1:Int)) (.int (m.2:Int))) (eR ms)=_
  rw[qu ws m.1 m.2 h]
  exact vD ms _ (kC h)
theorem zV{T:List Nat}{o:Nat->Nat}{p:Pt}{ps:List Pt}{e:Nat}:bG (λj=>bG o (c8 T ps j)) (bo T p e)=bG o (c8 T (p::ps) e):=by
 conv=>rhs;unfold c8
 exact(iB (λj=>c8 T ps j) (fun(t:Tr) (u:List Tr)=>t::u) (bo T p e)).symm
theorem Ff{T:List Nat}{o:Nat->Nat}{p:Pt}{ps:List Pt}{e k:Nat}:pk o (c8 T (p::ps) e) k=(pk (λj=>bG o (c8 T ps j)) (bo T p e) k).bind λy=>(pk o (c8 T ps y.2.1) y.2.2).map λz=>(y.1::z.1,z.2):=by
 conv=>lhs;unfold c8
 exact tO (λj=>c8 T ps j) (fun(t:Tr) (u:List Tr)=>t::u) (bo T p e) k
theorem B3{n:Nat}:HT.sIx n n (some (-1))=n-1:=by
 show(if(-1:Int)<0 then((-1:Int)+(n:Int)).toNat else min (-1:Int).toNat n)=_
 rw[if_pos (by decide)]
 ac_nf
theorem On.up{G:Gp}{a b:Addr}{S:Nat->Prop}{o:Nat->Nat}{u:MO}(h:On G a S o)(n:a≠b):On (up G b u) a S o:=by
 obtain⟨kvs,h1,h2⟩:=h
 exact⟨kvs,by unfold jZ at h1⊢;rw[aL n];exact h1,h2⟩
theorem On.mono'{G:Gp}{a:Addr}{S S':Nat->Prop}{o o':Nat->Nat}(h:On G a S o)(s:∀j,S' j->S j)(e:∀j,o j=o' j):On G a S' o':=by
 obtain⟨kvs,h1,h2⟩:=h
 exact⟨kvs,h1,λj hj=>by rw[<-e j];exact h2 j (s j hj)⟩
noncomputable def Onw(G:Gp)(T:List Nat)(ps:List Pt)(e:Nat)(o:Nat->Nat)(os:List Addr):Prop:=∀(i:Nat) (a:Addr),os[i]? =some a->On G a (λj=>wD T (ps.take (ps.length-i)) e j) (λj=>bG o (c8 T (ps.drop (ps.length-i)) j))
noncomputable def Bg(G:Gp)(T:List Nat)(ps:List Pt)(e:Nat)(bg:Addr)(bs:List Addr):Prop:=∀(i:Nat) (b:Addr),bs[i]? =some b->b≠bg/\∃js:List Nat,G b=some (.lst (js.map cI))/\js.length<=10000/\∀j,j∈js↔wD T (ps.take i) e j
theorem sr{α:Type}{o:Nat->Nat}:∀(l:List (α×Nat)) (k:Nat) {y:α×Nat×Nat},pk o l k=some y->k<bG o l
 |[],k,y,h=>by cases h
 |x::l,k,y,h=>by
  rw[L3.pk_cons]at h
  rw[gl]
  by_cases e:k<o x.2
  ·ac_nf
  ·rw[if_neg e]at h
   have:=sr l _ h
   ac_nf
theorem ul{ms:List Int}{u:Nat}{x:Int}{l:List Int}(h:ms.drop u=x::l):ms[u]? =some x/\ms.drop (u+1)=l:=by
 constructor
 ·have h1:(ms.drop u)[0]? =some x:=by rw[h];rfl
  rw[oY]at h1
  exact h1
 ·rw[<-List.tail_drop,h];rfl
theorem wc{ms:List Int}{u:Nat}{a b:List Int}(h:ms.drop u=a++b):ms.drop (u+a.length)=b:=by
 rw[<-List.drop_drop,h,List.drop_left]
section
variable{gF:Gs->List (Str×PV)}{P:aI}{w:aY}{K:PySem.W.Frag}{mg:Str->Option ae}{base:Heap}{f fi fm fa CD CC CB:Addr}{fd di dm da:aW}
noncomputable def lh(gF:Gs->List (Str×PV))(CD CC CB:Addr)(n:Nat):im:=λps G Q=>∃(ds cn gd dd db dx m pa tb:Addr) (ts:List Addr) (T:List Nat) (p q:Pt) (k:Gs) (e num:Nat) (ow:Addr) (o:Nat->Nat) (t:Tr) (e' r:Nat) (rest:List Int),ps=[.ref ds,.int (num:Int),.ref ow]/\Ds gF CD CC CB G ds cn gd T p k e dd db dx m pa tb ts/\(makes p)[num]? =some q/\depth q<=n/\e<=T.length/\On G ow (λj=>nT T q e j≠0) o/\pk o (bo T q e) k.k=some (t,e',r)/\k.ms.drop k.u=mks t++rest/\
 ∀G',Ds gF CD CC CB G' ds cn gd T p (k.to (mks t).length r) e' dd db dx m pa tb ts->Ch [ds,gd] G G'->Q (gG t) G'
theorem vd:bj ["self", "parts", "onward", "mark"] ["self", "parts", "onward"] (aM l8):=⟨rfl,rfl,rfl,by decide+kernel,rfl,by decide+kernel,by decide+kernel⟩
theorem D8:fq (aM l8) ["self", "parts", "onward", "mark"] (jI [(".0",.local),("part",.local),("self",.free),("onward",.free)]) ["part", "self", "onward"] [none,some 0,some 2] 0 "part" =true:=by decide+kernel
noncomputable def uT(gF:Gs->List (Str×PV))(CD CC CB:Addr)(n:Nat):im:=λas G Q=>∃(ds cn gd dd db dx m pa tb:Addr) (ts:List Addr) (T:List Nat) (p:Pt) (ps:List Pt) (k:Gs) (e num:Nat) (ow:Addr) (o:Nat->Nat) (t:Tr) (e' r:Nat) (rest:List Int),as=[.ref ds,.tup ((cJ (num+1) ps).map cI),.ref ow]/\Ds gF CD CC CB G ds cn gd T p k e dd db dx m pa tb ts/\(makes p)[num]? =some (.pick ps)/\bM ps<=n/\ps.length<=6/\e<=T.length/\On G ow (λj=>nT T (.pick ps) e j≠0) o/\pk o (bo T (.pick ps) e) k.k=some (t,e',r)/\k.ms.drop k.u=mks t++rest/\
 ∀G',Ds gF CD CC CB G' ds cn gd T p (k.to (mks t).length r) e' dd db dx m pa tb ts->Ch [ds,gd] G G'->Q (gG t) G'
theorem At{n k:Nat}(hk:2<=k)(c:Cls K CD)(n1:NoAttr K CD "counts")(n2:NoAttr K CD "guide")(n3:NoAttr K CD "at")(F:Fun K "make_pick" "Descent.make_pick" l8 f fd)(B:BN mg)(MS:dF P w K mg base CD 2 "size" fa da ["self", "number", "at", "onward"] (jw gF CD CC CB))(MC:dF P w K mg base CB 1 "choose" fi di ["self", "sizes"] (ie gF CB))(MT:dF P w K mg base CD k "make_tree" fm dm ["self", "number", "onward"] (lh gF CD CC CB n)):iz P w K mg base (k+1) f fd ["self", "parts", "onward"] (uT gF CD CC CB n):=by
 have nd:=vd.nd
 refine jY F vd (λvs G Q h=> ?_) (λcdv A outer s H E as G Q hr h=> ?_)
 ·obtain⟨_,_,_,_,_,_,_,_,_,_,_,_,_,_,_,_,_,_,_,_,_,_,rfl,_⟩:=h
  rfl
 have hU:=eI hr
 apply jc
 case a=>
  symm
  all_goals try (refine' qN D8 rfl ?_ λ_ _ _ _=>⟨?_,?_⟩)
  all_goals symm
 obtain⟨ds,cn,gd,dd,db,dx,m,pa,tb,ts,T,p,ps,k0,e,num,ow,o,t,e',r,rest,rfl,D,hq,hdp,hpl,he,hon,hpt,hms,q⟩:=h
 have hk0:=sr _ _ hpt
 have trP:bo T (.pick ps) e=eX T ps 0 e:=by unfold bo;rfl
 have hk1:k0.k<(ps.map λc=>bG o (bo T c e)).sum:=by rw[<-rQ (T:=T) (o:=o) (e:=e) ps 0,<-trP];exact hk0
 obtain⟨cm,hcm,hrm,hpk⟩:=za (T:=T) (o:=o) (e:=e) ps 0 k0.k hk1
 exists cy D.ins rfl ?_
 exists⟨⟨gd,db,_,rfl,D.gui,D.gok.c _⟩,?_⟩
 left
 intro acc hacc
 have hlP:((cJ (num+1) ps).map cI).length=ps.length:=by rw[ap,eD]
 refine⟨λi ys G1=>ys=(ps.take i).map (λc=>cI (bG o (bo T c e)))/\G1=up G acc (.lst ys),⟨by simp,rfl⟩,?_,?_,?_⟩
 ·rintro i ys G1 hi ⟨rfl,rfl⟩
  refine⟨trivial,ao,?_⟩
  rw[ap,bb];ac_nf
 ·rintro i ys G1 x hx ⟨rfl,rfl⟩
  have hxl:=(am.mp hx).1
  rw[hlP]at hxl
  obtain⟨cc,hcc⟩:∃cc,ps[i]? =some cc:=⟨_,al hxl⟩
  obtain⟨j,rfl,hj,_⟩:=gD hq hcc hx
  have ge1:GE G (up G acc (.lst ((ps.take i).map λc=>cI (bG o (bo T c e))))):=GE.refl.new hacc
  have D1:=D.ge ge1
  obtain⟨okv,ho1,ho2⟩:=hon.ge ge1
  refine iU rfl ?_
  exists⟨⟨ds,dd,_,rfl,D1.ins,rfl⟩,?_⟩
  exists cy D1.ins rfl ?_
  exists⟨ds,cn,gd,dd,db,dx,m,pa,tb,ts,T,p,cc,k0,e,j,e,ow,o,rfl,D1,hj,he,⟨okv,ho1,λi hi=>ho2 i (qE (ax hcc) hi)⟩,ao,?_,fO⟩
  rw[bZ,hcc,aS]
  rfl
 ·rintro ys G1 ⟨rfl,rfl⟩
  rw[hlP,bD]
  have ge1:GE G (up G acc (.lst (ps.map λc=>cI (bG o (bo T c e))))):=GE.refl.new hacc
  have D1:=D.ge ge1
  left
  rw[trP,hpk]at hpt
  cases hp2:pk o (bo T cm e) (ip (ps.map λc=>bG o (bo T c e)) k0.k).2 with
  |none=>rw[hp2]at hpt;cases hpt
  |some y=>
  obtain⟨t2,e2,r2⟩:=y
  rw[hp2]at hpt
  have ht:Tr.pick ((0+(ip (ps.map λc=>bG o (bo T c e)) k0.k).1:Nat):Int) t2=t/\e2=e'/\r2=r:=by cases hpt;exact⟨rfl,rfl,rfl⟩
  obtain⟨rfl,rfl,rfl⟩:=ht
  have hms2:k0.ms.drop k0.u=((0+(ip (ps.map λc=>bG o (bo T c e)) k0.k).1:Nat):Int)::(mks t2++rest):=hms
  obtain⟨hm1,hm2⟩:=ul hms2
  rw[Nat.zero_add]at hm1
  refine⟨gd,db,acc,k0,ps.map λc=>bG o (bo T c e),rfl,D1.gui,by rw[ao,bT];rfl,hk1,hm1,λG5 gg5 ch5=> ?_⟩
  have ndg:ds≠gd:=λz=>by have:=D.ins;rw[z,D.gui]at this;injection this with this;injection this with _ _ this;exact D.gok.a _ _ _ _ this
  have ch1:Ch [ds,gd] G G5:=ge1.ch.trans (ch5.mono (by simp))
  have D2:=D.ch ch1 (k':=k0.to 1 (ip (ps.map λc=>bG o (bo T c e)) k0.k).2) (e':=e) (ch5 ds _ (by simp[ndg]) (ge1 _ _ D.ins)) gg5
  have hon2:=hon.ch D ch1
  obtain⟨xm,hmx⟩:∃xm,((cJ (num+1) ps).map cI)[(ip (ps.map λc=>bG o (bo T c e)) k0.k).1]? =some xm:=⟨_,al (by rw[hlP];exact(am.mp hcm).1)⟩
  obtain⟨j,ej,hj,_⟩:=gD hq hcm hmx
  rw[ej]at hmx
  exists⟨⟨ds,dd,_,rfl,D2.ins,rfl⟩,?_⟩
  exists ko (bS hmx) ?_
  exists⟨ds,cn,gd,dd,db,dx,m,pa,tb,ts,T,p,cm,_,e,j,ow,o,t2,e2,r2,rest,rfl,D2,hj,by have:=oA (ax hcm);ac_nf,he,hon2.mono λi hi=>qE (ax hcm) hi,hp2,hm2,λG' D3 ch=> ?_⟩
  refine⟨dE,_,GE.refl,?_⟩
  rw[Nat.zero_add]at q
  refine q G' ?_ (ch1.trans ch)
  have eg:(k0.to 1 (ip (ps.map λc=>bG o (bo T c e)) k0.k).2).to (mks t2).length r2=k0.to (mks (.pick ((ip (ps.map λc=>bG o (bo T c e)) k0.k).1:Nat) t2)).length r2:=by
   unfold Gs.to
   show Gs.mk _ _ (k0.u+1+(mks t2).length) _=Gs.mk _ _ (k0.u+((mks t2).length+1)) _
   rw[show k0.u+1+(mks t2).length=k0.u+((mks t2).length+1)by ac_nf]
  rw[<-eg]
  exact D3
end
theorem zM{T:List Nat}{r:Pt}{e e':Nat}{a:Tr}(h:(a,e')∈bo T (.again r) e):∃ts,a= .again ts:=by
 unfold bo at h
 obtain⟨x,_,hx⟩:=ay.mp h
 exact⟨x.1,(congrArg Prod.fst hx).symm⟩
theorem tN{α:Type}{o:Nat->Nat}{l:List (α×Nat)}{k:Nat}{a:α}{e r:Nat}(h:pk o l k=some (a,e,r)):(a,e)∈l/\r<o e:=by
 obtain⟨a',e',r',h1,h2,h3⟩:=y9 l k (sr l k h)
 rw[h]at h1
 cases h1
 exact⟨h2,h3⟩
section
variable{gF:Gs->List (Str×PV)}{P:aI}{w:aY}{K:PySem.W.Frag}{mg:Str->Option ae}{base:Heap}{f fi fm fa fp fe CD CC CB:Addr}{fd di dm da dp de:aW}{tTU:Tok}
theorem yJ:bj ["self", "number", "onward", "part", "behind", "turns"] ["self", "number", "onward"] (aM l7):=⟨rfl,rfl,rfl,by decide+kernel,rfl,by decide+kernel,by decide+kernel⟩
noncomputable def yC(gF:Gs->List (Str×PV))(CD CC CB:Addr)(n:Nat):im:=λas G Q=>∃(ds cn gd dd db dx m pa tb:Addr) (ts:List Addr) (T:List Nat) (p r:Pt) (k:Gs) (e num:Nat) (ow:Addr) (o:Nat->Nat) (us0:List Tr) (e' r':Nat) (rest:List Int),as=[.ref ds,.int (num:Int),.ref ow]/\Ds gF CD CC CB G ds cn gd T p k e dd db dx m pa tb ts/\(makes p)[num]? =some (.again r)/\depth r<=n/\e<=T.length/\On G ow (λj=>nT T (.again r) e j≠0) o/\pk o (bo T (.again r) e) k.k=some (.again us0,e',r')/\k.ms.drop k.u=lG us0++rest/\
 ∀G',Ds gF CD CC CB G' ds cn gd T p (k.to (lG us0).length r') e' dd db dx m pa tb ts->Ch [ds,gd] G G'->Q (.tup (en us0)) G'
theorem Cy{n k:Nat}(hk:3<=k)(x0:mg "TURN" =some (.int 0 tTU))(q3:rB K CC "parts")(n1:rB K CD "counts")(n2:rB K CD "guide")(n3:rB K CD "at")(F:Fun K "make_turns" "Descent.make_turns" l7 f fd)(B:BN mg)(ME:dF P w K mg base CC 1 "ends_of" fe de ["self", "number", "at"] (nV CC))(MS:dF P w K mg base CD 2 "size" fa da ["self", "number", "at", "onward"] (jw gF CD CC CB))(MA:dF P w K mg base CD 3 "onward_ahead" fp dp ["self", "number", "places", "onward"] (kB gF CD CC CB))(MC:dF P w K mg base CB 1 "choose" fi di ["self", "sizes"] (ie gF CB))(MT:dF P w K mg base CD k "make_tree" fm dm ["self", "number", "onward"] (lh gF CD CC CB n)):iz P w K mg base (k+1) f fd ["self", "number", "onward"] (yC gF CD CC CB n):=by
 have nd:=yJ.nd
 refine jY F yJ (λvs G Q h=> ?_) (λcdv A outer s H E as G Q hr h=> ?_)
 ·obtain⟨_,_,_,_,_,_,_,_,_,_,_,_,_,_,_,_,_,_,_,_,_,_,rfl,_⟩:=h
  rfl
 have hU:=eI hr
 apply jc
 case a=>symm
 obtain⟨ds,cn,gd,dd,db,dx,m,pa,tb,ts,T,p,r,k0,e,num,ow,o,us0,e',r',rest,rfl,D,hq,hdp,he,hon,hpt,hms,q⟩:=h
 have hk0:=sr _ _ hpt
 have hc:gY r=false:=D.cs.ag r (ax hq)
 obtain⟨j,ej,hj,hnj⟩:=gD (i:=0) (cc:=r) hq rfl rfl
 have hj1:j=num+1:=iF.mp (PV.int.inj ej).symm
 have hLT:=D.cs.len
 exists cy D.ins rfl ?_
 exists cy D.tab.ins rfl ?_
 exists cQ (aV D.tab.pts) (bS (fM hq)) ?_
 exists ko (x:= .int (j:Int)) (by rw[hj1];rfl) ?_
 exists⟨⟨ds,dd,_,rfl,D.ins,rfl⟩,?_⟩
 exists cy D.ins rfl ?_
 exists⟨⟨cn,dx,_,rfl,D.tab.ins,rfl⟩,?_⟩
 exists cy D.ins rfl ?_
 exists⟨cn,dx,m,pa,tb,ts,T,p,.again r,num,e,rfl,D.tab,hq,he,λd ws gd' wy=> ?_⟩
 exists zr (mV gd') λpl hpl=> ?_
 rw[jk]
 have ge1:GE G (up G pl (.lst (ws.map λw=>PV.int (w.1:Int)))):=GE.refl.new hpl
 have hwl:=wy.len
 exists⟨ds,cn,gd,dd,db,dx,m,pa,tb,ts,T,p,.again r,k0,e,num,pl,ow,ws.map (·.1),o,rfl,D.ge ge1,hq,by rw[ao,bT];rfl,by rw[ap];ac_nf,λi hi=> ?_,(hon.ge ge1).mono λi ⟨i',h1,h2⟩=> ?_,λbh G2 hbh kq hbo=> ?_⟩
 ·have h1:=(sW wy).mp hi
  rcases cP T.length i with z|z
  ·exact absurd (kj he z) h1
  ·exact z
 ·have h3:=(sW wy).mp h1
  refine Em hc _ e i' i (av _) he h3 ?_ h2
  rcases cP T.length i' with z|z
  ·exact absurd (kj he z) h3
  ·exact z
 have ge3:GE G G2:=ge1.trans kq
 have D2:=D.ge ge3
 have hbo2:On G2 bh (λj=>nT T (.again r) e j≠0) (nk T r o):=hbo.mono λj hj=>(sW wy).mpr hj
 have hon2:=hon.ge ge3
 exists⟨aP rfl,λtn htn=> ?_⟩
 left
 have at0:nT T (.again r) e e≠0:=by rw[iL hc he,if_pos rfl];ac_nf
 refine⟨λmm τ G1=>∃(us vs:List Tr) (k1:Gs) (e1:Nat),τ=[some (.ref ds),some (.int (num:Int)),some (.ref ow),some (.int (j:Int)),some (.ref bh),some (.ref tn)]/\G1 ds=some (.ins CD dd (rL cn gd e1))/\G1 gd=some (.ins CB db (gF k1))/\G1 tn=some (.lst (en us))/\Ch [ds,gd] G2 G1/\nT T (.again r) e e1≠0/\us.length+e<=e1/\T.length-e1=mm/\us0=us++vs/\pk o (bo T (.again r) e1) k1.k=some (.again vs,e',r')/\k1.ms=k0.ms/\k1.N=k0.N/\k0.ms.drop k1.u=lG vs++rest/\k1.u+(lG vs).length=k0.u+(lG us0).length,⟨T.length-e,[],us0,k0,e,rfl,by rw[aL (aZ D2.ins htn)];exact D2.ins,by rw[aL (aZ D2.gui htn)];exact D2.gui,ao,Ch.refl.new htn,at0,by simp,rfl,rfl,hpt,rfl,rfl,hms,rfl⟩,?_⟩
 rintro mm τ G1 ⟨us,vs,k1,e1,rfl,g1,g2,g3,ch,hat,hul,hmm,hus,hpk,em,eN,hmv,huv⟩
 have hk1:=sr _ _ hpk
 have D3:=D2.ch ch g1 g2
 have hbo3:=hbo2.ch D2 ch
 obtain⟨okv,ho1,ho2⟩:=hon2.ch D2 ch
 have he1:e1<=T.length:=by
  rcases cP T.length e1 with z|z
  ·exact absurd (kj he z) hat
  ·exact z
 have hsum:nk T r o e1=bG (nk T r o) (bo T r e1)+o e1:=Eg hc he1
 change k1.k<nk T r o e1 at hk1
 exists cy g1 rfl ?_
 exists⟨⟨gd,db,_,rfl,g2,D2.gok.c _⟩,?_⟩
 exists⟨⟨ds,dd,_,rfl,g1,rfl⟩,?_⟩
 exists cy g1 rfl ?_
 exists⟨ds,cn,gd,dd,db,dx,m,pa,tb,ts,T,p,r,k1,e1,j,e1,bh,nk T r o,rfl,D3,hj,he1,hbo3.mono λi hi=>xW hc _ e e1 i (av _) he hat he1 hi,?_⟩
 exists⟨qQ ho1,?_⟩
 exists cy g1 rfl ?_
 exists ug ho1 rfl ?_
 rw[ho2 e1 hat]
 exists⟨aP rfl,λsz hsz=> ?_⟩
 left
 have ge4:GE G1 (up G1 sz (.lst [.int (bG (nk T r o) (bo T r e1):Nat),.int (o e1:Nat)])):=GE.refl.new hsz
 have ndg:ds≠gd:=λz=>by rw[z,g2]at g1;injection g1 with g1;injection g1 with _ _ g1;exact D2.gok.a _ _ _ _ g1
 have ntg:tn≠gd:=λz=>by rw[z,g2]at g3;cases g3
 have ntd:tn≠ds:=λz=>by rw[z,g1]at g3;cases g3
 have hks:k1.k<[bG (nk T r o) (bo T r e1),o e1].sum:=by rw[hsum]at hk1;simpa using hk1
 have go:∀(d:Nat),k1.ms[k1.u]? =some (d:Int)->(ip [bG (nk T r o) (bo T r e1),o e1] k1.k).1=d->∀(R:K2),(∀G4,G4 ds=some (.ins CD dd (rL cn gd e1))->G4 gd=some (.ins CB db (gF (k1.to 1 (ip [bG (nk T r o) (bo T r e1),o e1] k1.k).2)))->G4 tn=some (.lst (en us))->Ch [ds,gd] G2 G4->R (.int (d:Nat)) G4)->ie gF CB [.ref gd,.ref sz] (up G1 sz (.lst [.int (bG (nk T r o) (bo T r e1):Nat),.int (o e1:Nat)])) R:=λd hd1 hd2 R hR=>by
  refine⟨gd,db,sz,k1,[bG (nk T r o) (bo T r e1),o e1],rfl,ge4 _ _ g2,ao,hks,by rw[hd2];exact hd1,λG5 gg5 ch5=> ?_⟩
  rw[hd2]
  exact hR _ (ch5 ds _ (by simp[ndg]) (ge4 _ _ g1)) gg5 (ch5 tn _ (by simp[ntg]) (ge4 _ _ g3)) ((ch.new hsz).trans (ch5.mono (by simp)))
 by_cases hcs:k1.k<bG (nk T r o) (bo T r e1)
 ·have hch:ip [bG (nk T r o) (bo T r e1),o e1] k1.k=(0,k1.k):=by rw[iM,if_pos hcs]
  rw[Fd hc he1 hcs]at hpk
  cases hp:pk (nk T r o) (bo T r e1) k1.k with
  |none=>rw[hp]at hpk;cases hpk
  |some y=>
  obtain⟨t,e2,r2⟩:=y
  rw[hp]at hpk
  change (pk o (bo T (.again r) e2) r2).map (λz=>(wl t z.1,z.2))=_ at hpk
  cases hp3:pk o (bo T (.again r) e2) r2 with
  |none=>rw[hp3]at hpk;cases hpk
  |some y3=>
  obtain⟨z3,e3,r3⟩:=y3
  rw[hp3]at hpk
  obtain⟨vs',rfl⟩:=zM (tN hp3).1
  have hvs:vs=t::vs'/\e3=e'/\r3=r':=by cases hpk;exact⟨rfl,rfl,rfl⟩
  obtain⟨rfl,rfl,rfl⟩:=hvs
  have hmv2:k0.ms.drop k1.u=0::(mks t++(lG vs'++rest)):=by rw[hmv];show 0::(mks t++lG vs')++rest=_;simp
  obtain⟨hm1,hm2⟩:=ul hmv2
  refine go 0 (by rw[em];exact hm1) (by rw[hch]) _ λG4 a1 a2 a3 ch4=> ?_
  rw[hch]at a2
  have D4:=D2.ch ch4 a1 a2
  have hbo4:=hbo2.ch D2 ch4
  exists⟨rfl,rfl,?_⟩
  exists iU rfl ?_
  exists⟨⟨_,a3⟩,?_⟩
  exists⟨⟨ds,dd,_,rfl,a1,rfl⟩,?_⟩
  exists⟨ds,cn,gd,dd,db,dx,m,pa,tb,ts,T,p,r,k1.to 1 k1.k,e1,j,bh,nk T r o,t,e2,r2,lG vs'++rest,rfl,D4,hj,hdp,he1,hbo4.mono λi hi=>xW hc _ e e1 i (av _) he hat he1 hi,hp,by show k1.ms.drop (k1.u+1)=_;rw[em];exact hm2,λG5 D5 ch5=> ?_⟩
  have ch6:=ch4.trans ch5
  have gt5:G5 tn=some (.lst (en us)):=ch5 tn _ (by simp[ntg,ntd]) a3
  have hm3:=tN hp
  have hgt:e1<e2:=j9 T r e1 hc _ hm3.1
  have hle:e2<=T.length:=fE T r e1 he1 _ hm3.1
  exists ik gt5 (by rw[dz,ap];ac_nf) ?_
  refine⟨T.length-e2,by ac_nf,us++[t],vs',(k1.to 1 k1.k).to (mks t).length r2,e2,rfl,by rw[aL (aG ntd)];exact D5.ins,by rw[aL (aG ntg)];exact D5.gui,by rw[ao,ij];rfl,ch6.mod' htn,xW hc _ e e1 e2 (av _) he hat he1 (xA hm3.1),by rw[aN];simp only[List.length_singleton];ac_nf,rfl,by rw[hus,cH];rfl,hp3,em,eN,wc (u:=k1.u+1) hm2,?_⟩
  show k1.u+1+(mks t).length+(lG vs').length=_
  rw[<-huv]
  show _=k1.u+(0::(mks t++lG vs')).length
  rw[aT,aN]
  ac_nf
 ·have hch:ip [bG (nk T r o) (bo T r e1),o e1] k1.k=(1,k1.k-bG (nk T r o) (bo T r e1)):=by rw[iM,if_neg hcs,iM,if_pos (by rw[hsum]at hk1;ac_nf)]
  rw[Fe hc he1 hcs hk1]at hpk
  have hvs:vs=[]/\e1=e'/\k1.k-bG (nk T r o) (bo T r e1)=r':=by cases hpk;exact⟨rfl,rfl,rfl⟩
  obtain⟨rfl,rfl,hr'⟩:=hvs
  rw[bz]at hus
  subst hus
  obtain⟨hm1,hm2⟩:=ul (show k0.ms.drop k1.u=1::rest from hmv)
  refine go 1 (by rw[em];exact hm1) (by rw[hch]) _ λG4 a1 a2 a3 ch4=> ?_
  rw[hch]at a2
  exists⟨rfl,rfl,?_⟩
  exists ji rfl ?_
  exists iX (aV a3) ?_
  have eg:k1.to 1 (k1.k-bG (nk T r o) (bo T r e1))=k0.to (lG us0).length r':=by
   unfold Gs.to
   rw[em,eN,hr',<-huv]
   rfl
  rw[eg]at a2
  exact⟨_,GE.refl,q _ (D2.ch ch4 a1 a2) (ge3.ch.trans ch4)⟩
end
theorem Jz{xs:List PV}{G:Gp}{Q:K2}(q:Q (.int xs.length) G):jA [.tup xs] G Q:=q
section
variable{gF:Gs->List (Str×PV)}{P:aI}{w:aY}{K:PySem.W.Frag}{mg:Str->Option ae}{base:Heap}{f fm fp fe CD CC CB:Addr}{fd dm dp de:aW}
theorem yN:bj ["self", "parts", "onward", "begins", "part", "found", "place", "onwards", "k"] ["self", "parts", "onward"] (aM pU):=⟨rfl,rfl,rfl,by decide+kernel,rfl,by decide+kernel,by decide+kernel⟩
noncomputable abbrev kMR:e8:=jI [(".0",.local),("part",.local),("behind",.local),("self",.free)]
theorem GQ:fq (aM pU) ["self", "parts", "onward", "begins", "part", "found", "place", "onwards", "k"] kMR ["part", "behind", "self"] [none,none,some 0] 0 "part" =true:=by decide+kernel
theorem KJ:pQ kMR ["part", "behind", "self"] [none,none,some 0] 1 "behind" :=⟨rfl,by decide+kernel,rfl⟩
noncomputable def yE(gF:Gs->List (Str×PV))(CD CC CB:Addr)(n:Nat):im:=λas G Q=>∃(ds cn gd dd db dx m pa tb:Addr) (ts:List Addr) (T:List Nat) (p:Pt) (ps:List Pt) (k:Gs) (e num:Nat) (ow:Addr) (o:Nat->Nat) (us0:List Tr) (e0 r0:Nat) (rest:List Int),as=[.ref ds,.tup ((cJ (num+1) ps).map cI),.ref ow]/\Ds gF CD CC CB G ds cn gd T p k e dd db dx m pa tb ts/\(makes p)[num]? =some (.row ps)/\bM ps<=n/\e<=T.length/\On G ow (λj=>nT T (.row ps) e j≠0) o/\pk o (c8 T ps e) k.k=some (us0,e0,r0)/\k.ms.drop k.u=lF us0++rest/\
 ∀G',Ds gF CD CC CB G' ds cn gd T p (k.to (lF us0).length r0) e0 dd db dx m pa tb ts->Ch [ds,gd] G G'->Q (.tup (en us0)) G'
theorem CG{n k:Nat}(hk:3<=k)(n1:rB K CD "counts")(n2:rB K CD "guide")(n3:rB K CD "at")(F:Fun K "make_row" "Descent.make_row" pU f fd)(B:BN mg)(ME:dF P w K mg base CC 1 "ends_of" fe de ["self", "number", "at"] (nV CC))(MA:dF P w K mg base CD 3 "onward_ahead" fp dp ["self", "number", "places", "onward"] (kB gF CD CC CB))(MT:dF P w K mg base CD k "make_tree" fm dm ["self", "number", "onward"] (lh gF CD CC CB n)):iz P w K mg base (k+1) f fd ["self", "parts", "onward"] (yE gF CD CC CB n):=by
 have nd:=yN.nd
 refine jY F yN (λvs G Q h=> ?_) (λcdv A outer s H E as G Q hr h=> ?_)
 ·obtain⟨_,_,_,_,_,_,_,_,_,_,_,_,_,_,_,_,_,_,_,_,_,_,rfl,_⟩:=h
  rfl
 have hU:=eI hr
 apply jc
 case a=>
  symm
  all_goals try (refine' Gm GQ KJ rfl ?_ λ_ _ _ _=>⟨?_,?_⟩)
  all_goals symm
 obtain⟨ds,cn,gd,dd,db,dx,m,pa,tb,ts,T,p,ps,k0,e,num,ow,o,us0,e0,r0,rest,rfl,D,hq,hdp,he,hon,hpt,hms,q⟩:=h
 have hLT:=D.cs.len
 obtain⟨hp1,hp6⟩:=D.ar _ (ax hq)
 have hlP:((cJ (num+1) ps).map cI).length=ps.length:=by rw[ap,eD]
 exists cy D.ins rfl ?_
 exists⟨aP rfl,λb0 hb0=> ?_⟩
 exists⟨aP rfl,λbg hbg=> ?_⟩
 left
 have hbgn:=dD hbg
 have hcut:q9 ((cJ (num+1) ps).map cI) none (some (-1))=((cJ (num+1) ps).map cI).take (ps.length-1):=by
  unfold q9
  rw[hlP,HT.sIx_none]
  show List.take (HT.sIx ps.length ps.length (some (-1))-0) (List.drop 0 _)=_
  rw[List.drop_zero]
  rw[B3]
  rfl
 refine⟨?_,?_⟩
 ·rw[hlP]
  rintro⟨_,h2⟩
  rw[B3]at h2
  ac_nf
 rw[hcut]
 exists⟨λi τ G1=>∃(bs:List Addr) (t4 t5 t6:Option PV),τ=[some (.ref ds),some (.tup ((cJ (num+1) ps).map cI)),some (.ref ow),some (.ref bg),t4,t5,t6,none,none]/\G1 bg=some (.lst (bs.map PV.ref))/\bs.length=i+1/\Bg G1 T ps e bg bs/\GE G G1,⟨[b0],none,none,none,rfl,ao,rfl,?_,(GE.refl.new hb0).new hbg⟩,?_,?_,?_⟩
 ·intro i b hi
  cases i with
  |zero=>
   cases hi
   exact⟨aG hbgn.1,[e],by rw[aL (aG hbgn.1),ao];rfl,by simp,λj=>by rw[au];exact⟨λz=>z.symm,λz=>z.symm⟩⟩
  |succ i=>cases hi
 ·intros;trivial
 ·rintro i x τ G1 hx ⟨bs,t4,t5,t6,rfl,gb,hbl,hB,ge⟩
  rw[oX]at hx
  split at hx
  case isFalse=>cases hx
  rename_i hil
  obtain⟨cc,hcc⟩:∃cc,ps[i]? =some cc:=⟨_,al (by ac_nf)⟩
  obtain⟨jn,rfl,hj,_⟩:=gD hq hcc hx
  left
  intro fo hfo
  obtain⟨b,hb⟩:∃b,bs[i]? =some b:=⟨_,al (by ac_nf)⟩
  obtain⟨nbg,js,gjs,hjl,hjs⟩:=hB i b hb
  have hlast:bs=bs.take i++[b]:=by
   have:=er i bs
   rw[dj (by ac_nf),List.drop_eq_nil_of_le (by ac_nf)]at this
   rw[al (by ac_nf)]at hb
   cases hb
   exact this.symm
  have nbf:b≠fo:=aZ gjs hfo
  have ngf:bg≠fo:=aZ gb hfo
  exists cQ (x:= .ref b) (aV (show up G1 fo (.dK []) bg=_ from by rw[aL ngf];exact gb)) (by rw[hlast,aS];exact rj _ _) ?_
  left
  rw[aV (show up G1 fo (.dK []) b=_ from by rw[aL nbf];exact gjs)]
  exists⟨λi2 τ G2=>∃(ws:Ws) (t6:Option PV),τ=[some (.ref ds),some (.tup ((cJ (num+1) ps).map cI)),some (.ref ow),some (.ref bg),some (.int (jn:Int)),some (.ref fo),t6,none,none]/\G2=up G1 fo (.dK (eR ws))/\(ws.map (·.1)).Nodup/\∀x,x∈ws.map (·.1)↔∃j∈js.take i2,nT T cc j x≠0,⟨[],t6,rfl,rfl,by simp,by simp⟩,?_,?_,?_⟩
  ·rintro i2 τ G2 _ ⟨ws,t6,rfl,rfl,_⟩
   exact aV (by rw[aL nbf];exact gjs)
  ·rintro i2 x τ G2 hx2 ⟨ws,t6,rfl,rfl,hnd,hmem⟩
   rw[aF]at hx2
   cases ej:js[i2]? with
   |none=>rw[ej]at hx2;cases hx2
   |some j=>
    rw[ej]at hx2
    cases hx2
    have hjm:wD T (ps.take i) e j:=(hjs j).mp (ax ej)
    have hjT:=oG _ _ _ he hjm
    have kq:GE G (up G1 fo (.dK (eR ws))):=ge.new hfo
    have D2:=D.ge kq
    exists⟨qQ (jm ao),?_⟩
    exists cy D2.ins rfl ?_
    exists⟨⟨cn,dx,_,rfl,D2.tab.ins,rfl⟩,?_⟩
    exists⟨cn,dx,m,pa,tb,ts,T,p,cc,jn,j,rfl,D2.tab,hj,hjT,λd ms gd' wy=> ?_⟩
    have nfd:fo≠d:=λz=>by rw[<-z,ao]at gd';cases gd'
    have hm1:∀x∈ws.map (·.1),x<T.length+1:=λx hx=>by
     obtain⟨j',hj',h2⟩:=(hmem x).mp hx
     rcases cP T.length x with z|z
     ·exact absurd (kj (oG _ _ _ he ((hjs j').mp (eL hj'))) z) h2
     ·ac_nf
    have hl1:=mE _ _ hnd hm1
    have hl2:=wy.len
    exists Ia ao (mV gd') nfd ?_ ?_
    ·unfold eR
     rw[ap]at hl1
     rw[ap,ap];ac_nf
    rw[vD ms ws hnd,fO]
    refine⟨AA ws ms,_,rfl,rfl,zn ms ws hnd,λx=> ?_⟩
    rw[zo,hmem,sW wy,bZ,ej]
    constructor
    ·rintro(⟨j',h1,h2⟩|h1)
     ·exact⟨j',aR.mpr (.inl h1),h2⟩
     ·exact⟨j,aR.mpr (.inr (by simp)),h1⟩
    ·rintro⟨j',h1,h2⟩
     rcases aR.mp h1 with h1|h1
     ·exact .inl ⟨j',h1,h2⟩
     ·obtain rfl:j'=j:=by simpa using h1
      exact .inr h2
  ·rintro τ G2 ⟨ws,t6,rfl,rfl,hnd,hmem⟩
   rw[ap,bD]at hmem
   have gb2:up G1 fo (.dK (eR ws)) bg=some (.lst (bs.map PV.ref)):=by rw[aL ngf];exact gb
   exists⟨⟨_,gb2⟩,?_⟩
   exists zr (jm ao) λnl hnl=> ?_
   rw[jk]
   have nbn:bg≠nl:=aZ gb2 hnl
   exists ik (by rw[aL nbn];exact gb2) (by rw[ap];ac_nf) ?_
   have geS:GE G1 (up (up G1 fo (.dK (eR ws))) nl (.lst (ws.map λw=>PV.int (w.1:Int)))):=(GE.refl.new hfo).new hnl
   have hbg0:G bg=none:=(dD hbg).2
   refine⟨bs++[nl],_,_,_,rfl,by rw[ao,aS];rfl,by rw[aN,hbl];rfl,?_,(ge.trans geS).mod hbg0⟩
   intro i' b' hb'
   by_cases hlt:i'<bs.length
   ·rw[c9 hlt]at hb'
    obtain⟨n1',js',g',l',m'⟩:=hB i' b' hb'
    exact⟨n1',js',by rw[aL n1'];exact geS _ _ g',l',m'⟩
   ·rw[bX (by ac_nf)]at hb'
    have hz:i'-bs.length=0:=by
     rcases Nat.eq_zero_or_pos (i'-bs.length)with z|z
     ·exact z
     ·rw[eA (by simp;ac_nf)]at hb';cases hb'
    obtain rfl:i'=i+1:=by ac_nf
    rw[hz]at hb'
    cases hb'
    have hm1:∀x∈ws.map (·.1),x<T.length+1:=λx hx=>by
     obtain⟨j',hj',h2⟩:=(hmem x).mp hx
     rcases cP T.length x with z|z
     ·exact absurd (kj (oG _ _ _ he ((hjs j').mp hj')) z) h2
     ·ac_nf
    refine⟨aG nbn,ws.map (·.1),by rw[aL (aG nbn),ao,bT];rfl,by have:=mE _ _ hnd hm1;ac_nf,λj=> ?_⟩
    rw[hmem,nr hcc]
    exact⟨λ⟨j',h1,h2⟩=>⟨j',(hjs j').mp h1,h2⟩,λ⟨j',h1,h2⟩=>⟨j',(hjs j').mpr h1,h2⟩⟩
 rintro τ G1 ⟨bs,t4,t5,t6,rfl,gb,hbl,hB,ge⟩
 rw[bb,hlP,iR (by ac_nf)]at hbl
 exists⟨aP rfl,λon hno=> ?_⟩
 left
 have hng:bg≠on:=aZ gb hno
 have ge0:GE G1 (up G1 on (.lst [.ref ow])):=GE.refl.new hno
 refine Jz ?_
 left
 rw[hlP]
 refine⟨rfl,⟨by ac_nf,by ac_nf,by ac_nf,by ac_nf⟩,?_⟩
 have hdl:(jl ((ps.length:Int)-1) (((ps.length:Int)-1)-0).toNat).length=ps.length-1:=by unfold jl;simp
 refine⟨λi τ G2=>∃(os:List Addr) (t8:Option PV),τ=[some (.ref ds),some (.tup ((cJ (num+1) ps).map cI)),some (.ref ow),some (.ref bg),t4,t5,t6,some (.ref on),t8]/\G2 on=some (.lst (os.map PV.ref))/\os.length=i+1/\Onw G2 T ps e o os/\GE G1 G2,⟨[ow],none,rfl,ao,rfl,?_,ge0⟩,?_,?_,?_⟩
 ·intro i a hi
  cases i with
  |zero=>
   cases hi
   rw[Nat.sub_zero,bD,List.drop_length]
   refine((hon.ge ge).ge ge0).mono' (λj hj=>xz.mpr hj) λj=> ?_
   show o j=bG o [(([]:List Tr),j)]
   rw[gl,iG];rfl
  |succ i=>cases hi
 ·intros;trivial
 ·rintro i x τ G2 hx ⟨os,t8,rfl,go,hol,hO,kq⟩
  have hil:=(am.mp hx).1
  rw[hdl]at hil
  have ex:x= .int ((ps.length-1-i:Nat):Int):=by
   unfold jl at hx
   rw[aF,cX (by ac_nf)]at hx
   cases hx
   show PV.int ((ps.length:Int)-1-(i:Int))=PV.int ((ps.length-1-i:Nat):Int)
   rw[show((ps.length-1-i:Nat):Int)=(ps.length:Int)-1-(i:Int)by ac_nf]
  subst ex
  obtain⟨cc,hcc⟩:∃cc,ps[ps.length-1-i]? =some cc:=⟨_,al (by ac_nf)⟩
  obtain⟨xm,hmx⟩:∃xm,((cJ (num+1) ps).map cI)[ps.length-1-i]? =some xm:=⟨_,al (by rw[hlP];ac_nf)⟩
  obtain⟨jn,ej,hj,_⟩:=gD hq hcc hmx
  rw[ej]at hmx
  obtain⟨b,hb⟩:∃b,bs[ps.length-1-i]? =some b:=⟨_,al (by ac_nf)⟩
  obtain⟨nbg,js,gjs,hjl,hjs⟩:=hB _ b hb
  obtain⟨a,ha⟩:∃a,os[i]? =some a:=⟨_,al (by ac_nf)⟩
  have hlast:os=os.take i++[a]:=by
   have:=er i os
   rw[dj (by ac_nf),List.drop_eq_nil_of_le (by ac_nf)]at this
   rw[al (by ac_nf)]at ha
   cases ha
   exact this.symm
  have D2:=(D.ge ge).ge kq
  have hOa:=hO i a ha
  exists⟨⟨_,go⟩,?_⟩
  exists⟨⟨ds,dd,_,rfl,D2.ins,rfl⟩,?_⟩
  exists ko (bS hmx) ?_
  exists cQ (x:= .ref b) (aV (kq _ _ gb)) (bS (by rw[aF,hb];rfl)) ?_
  exists cQ (x:= .ref a) (aV go) (by rw[hlast,aS];exact rj _ _) ?_
  left
  have e1:ps.length-i=ps.length-1-i+1:=by ac_nf
  refine⟨ds,cn,gd,dd,db,dx,m,pa,tb,ts,T,p,cc,k0,e,jn,b,a,js,λj=>bG o (c8 T (ps.drop (ps.length-i)) j),rfl,D2,hj,kq _ _ gjs,hjl,λj hjm=>oG _ _ _ he ((hjs j).mp hjm),hOa.mono λx ⟨j,h1,h2⟩=>by rw[e1,nr hcc];exact⟨j,(hjs j).mp h1,h2⟩,λc G3 hc ge3 hon3=> ?_⟩
  have gno:G3 on=some (.lst (os.map PV.ref)):=ge3 _ _ go
  have nco:c≠on:=λz=>by
   obtain⟨kvs,h1,_⟩:=hon3
   rw[z]at h1
   simp[jZ,gno]at h1
  exists ik gno (by rw[ap];ac_nf) ?_
  refine⟨os++[c],_,rfl,by rw[ao,aS];rfl,by rw[aN,hol];rfl,?_,(kq.trans ge3).mod hno⟩
  intro i' a' ha'
  by_cases hlt:i'<os.length
  ·rw[c9 hlt]at ha'
   refine((hO i' a' ha').ge ge3).up λz=> ?_
   obtain⟨kvs,h1,_⟩:=hO i' a' ha'
   rw[z]at h1
   simp[jZ,go]at h1
  ·rw[bX (by ac_nf)]at ha'
   have hz:i'-os.length=0:=by
    rcases Nat.eq_zero_or_pos (i'-os.length)with z|z
    ·exact z
    ·rw[eA (by simp;ac_nf)]at ha';cases ha'
   obtain rfl:i'=i+1:=by ac_nf
   rw[hz]at ha'
   cases ha'
   rw[show ps.length-(i+1)=ps.length-1-i by ac_nf]
   refine(hon3.up nco).mono' (λj hj=>(hjs j).mpr hj) λj=> ?_
   rw[zV,e1]
   congr 2
   rw[dj (i:=ps.length-1-i) (by ac_nf)]
   rw[al (by ac_nf)]at hcc
   cases hcc
   rfl
 rintro τ G2 ⟨os,t8,rfl,go,hol,hO,kq⟩
 rw[hdl]at hol
 have D2:=(D.ge ge).ge kq
 left
 rw[aV go]
 left
 intro rv hrv
 exists⟨rv,_,_,rfl,iT,?_⟩
 intro acc hacc
 have hil:(iZ ((cJ (num+1) ps).map cI) (os.map PV.ref).reverse).length=ps.length:=by rw[lD,hlP,bA,ap];ac_nf
 have ge4:GE G2 (up G2 rv (.lst (os.map PV.ref).reverse)):=GE.refl.new hrv
 have geA:GE G (up G2 rv (.lst (os.map PV.ref).reverse)):=(ge.trans kq).trans ge4
 have D4:=D.ge geA
 have hrvs:up G2 rv (.lst (os.map PV.ref).reverse) rv=some (.lst (os.map PV.ref).reverse):=ao
 have hO4:∀(i:Nat) (a:Addr),os[i]? =some a->On (up G2 rv (.lst (os.map PV.ref).reverse)) a (λj=>wD T (ps.take (ps.length-i)) e j) (λj=>bG o (c8 T (ps.drop (ps.length-i)) j)):=λi a ha=>(hO i a ha).ge ge4
 generalize up G2 rv (.lst (os.map PV.ref).reverse)=G4 at*
 refine⟨λi ys Gi=>∃(us vs:List Tr) (ki:Gs) (ei:Nat),ys=en us/\us.length=i/\Gi ds=some (.ins CD dd (rL cn gd ei))/\Gi gd=some (.ins CB db (gF ki))/\Ch [ds,gd] G4 Gi/\Gi acc=some (.lst ys)/\wD T (ps.take i) e ei/\us0=us++vs/\pk o (c8 T (ps.drop i) ei) ki.k=some (vs,e0,r0)/\ki.ms=k0.ms/\ki.N=k0.N/\k0.ms.drop ki.u=lF vs++rest/\ki.u+(lF vs).length=k0.u+(lF us0).length,?_,?_,?_,?_⟩
 ·exact⟨[],us0,k0,e,rfl,rfl,by rw[aL (aZ D4.ins hacc)];exact D4.ins,by rw[aL (aZ D4.gui hacc)];exact D4.gui,Ch.refl.new hacc,ao,rfl,rfl,hpt,rfl,rfl,hms,rfl⟩
 ·rintro i ys Gi hi ⟨us,vs,ki,ei,rfl,rfl,g1,g2,ch,ga,_⟩
  refine⟨aV (ch rv _ ?_ hrvs),ga,?_⟩
  ·have h1:rv≠ds:=λz=>by rw[z,D4.ins]at hrvs;cases hrvs
   have h2:rv≠gd:=λz=>by rw[z,D4.gui]at hrvs;cases hrvs
   simp[h1,h2]
  ·rw[hil]at hi
   rw[dz,ap];ac_nf
 ·rintro i ys Gi x hx ⟨us,vs,ki,ei,rfl,rfl,g1,g2,ch,ga,hR,hus,hpk,em,eN,hmv,huv⟩
  have hil2:=(am.mp hx).1
  rw[hil]at hil2
  obtain⟨cc,hcc⟩:∃cc,ps[us.length]? =some cc:=⟨_,al hil2⟩
  obtain⟨xm,hmx⟩:∃xm,((cJ (num+1) ps).map cI)[us.length]? =some xm:=⟨_,al (by rw[hlP];exact hil2)⟩
  obtain⟨jn,ej,hj,_⟩:=gD hq hcc hmx
  rw[ej]at hmx
  obtain⟨a,ha⟩:∃a,os[ps.length-1-us.length]? =some a:=⟨_,al (by ac_nf)⟩
  have hra:(os.map PV.ref).reverse[us.length]? =some (.ref a):=by
   rw[List.getElem?_reverse (by rw[ap];ac_nf),ap,aF,show os.length-1-us.length=ps.length-1-us.length by ac_nf,ha];rfl
  rw[n6 hmx hra]at hx
  cases hx
  refine⟨_,_,rfl,iU rfl ?_⟩
  have D5:=D4.ch ch g1 g2
  have hd:ps.drop us.length=cc::ps.drop (us.length+1):=by
   rw[dj hil2]
   rw[al hil2]at hcc
   cases hcc
   rfl
  have hO5:=(hO4 _ a ha).ch D4 ch
  rw[show ps.length-(ps.length-1-us.length)=us.length+1 by ac_nf]at hO5
  have hei:=oG _ _ _ he hR
  rw[hd,Ff]at hpk
  cases hp:pk (λj=>bG o (c8 T (ps.drop (us.length+1)) j)) (bo T cc ei) ki.k with
  |none=>rw[hp]at hpk;cases hpk
  |some y=>
  obtain⟨t,e2,r2⟩:=y
  rw[hp]at hpk
  change (pk o (c8 T (ps.drop (us.length+1)) e2) r2).map (λz=>(t::z.1,z.2))=_ at hpk
  cases hp3:pk o (c8 T (ps.drop (us.length+1)) e2) r2 with
  |none=>rw[hp3]at hpk;cases hpk
  |some y3=>
  obtain⟨vs',e3,r3⟩:=y3
  rw[hp3]at hpk
  have hvs:vs=t::vs'/\e3=e0/\r3=r0:=by cases hpk;exact⟨rfl,rfl,rfl⟩
  obtain⟨rfl,rfl,rfl⟩:=hvs
  have hmv2:k0.ms.drop ki.u=mks t++(lF vs'++rest):=by rw[hmv];show mks t++lF vs'++rest=_;rw[cH]
  exists⟨⟨ds,dd,_,rfl,g1,rfl⟩,?_⟩
  exists⟨ds,cn,gd,dd,db,dx,m,pa,tb,ts,T,p,cc,ki,ei,jn,a,λj=>bG o (c8 T (ps.drop (us.length+1)) j),t,e2,r2,lF vs'++rest,rfl,D5,hj,by have:=oA (ax hcc);ac_nf,hei,hO5.mono λj hj=>(nr hcc).mpr ⟨ei,hR,hj⟩,hp,by rw[em];exact hmv2,λG6 D6 ch6=> ?_⟩
  have nad:acc≠ds:=λz=>by rw[z,g1]at ga;cases ga
  have nag:acc≠gd:=λz=>by rw[z,g2]at ga;cases ga
  refine⟨ch6 acc _ (by simp[nad,nag]) ga,us++[t],vs',ki.to (mks t).length r2,e2,by rw[ij];rfl,by rw[aN];rfl,by rw[aL (aG nad)];exact D6.ins,by rw[aL (aG nag)];exact D6.gui,(ch.trans ch6).mod' hacc,ao,(nr hcc).mpr ⟨ei,hR,xA (tN hp).1⟩,by rw[hus,cH];rfl,hp3,em,eN,wc hmv2,?_⟩
  show ki.u+(mks t).length+(lF vs').length=_
  rw[<-huv]
  show _=ki.u+(mks t++lF vs').length
  rw[aN]
  ac_nf
 ·rintro ys Gi ⟨us,vs,ki,ei,rfl,hul,g1,g2,ch,ga,hR,hus,hpk,em,eN,hmv,huv⟩
  rw[hil]at hul
  rw[hil,List.drop_length]at hpk
  have hvs:vs=[]/\ei=e0/\ki.k=r0:=by
   unfold c8 at hpk
   rw[L3.pk_cons]at hpk
   split at hpk
   ·cases hpk;exact⟨rfl,rfl,rfl⟩
   ·cases hpk
  obtain⟨rfl,rfl,hr0⟩:=hvs
  rw[bz]at hus
  subst hus
  have eg:ki=k0.to (lF us0).length r0:=by
   unfold Gs.to
   rw[<-em,<-eN,<-hr0,<-huv]
   rfl
  rw[eg]at g2
  exists iX (aV ga) ?_
  exact⟨_,GE.refl,q _ (D4.ch ch g1 g2) (geA.ch.trans ch)⟩
end
section
variable{gF:Gs->List (Str×PV)}{P:aI}{w:aY}{K:PySem.W.Frag}{mg:Str->Option ae}{base:Heap}{f fi fm fa fp fr fe fs' fh CD CC CB:Addr}{fd di dm da dp dr de ds' dh:aW}{tTU:Tok}
theorem Hu:bj ["self", "number", "onward", "make", "kind"] ["self", "number", "onward"] (aM EC):=⟨rfl,rfl,rfl,by decide+kernel,rfl,by decide+kernel,by decide+kernel⟩
theorem vt{n k:Nat}(q1:rB K CC "signs")(q2:rB K CC "makes")(q3:rB K CC "parts")(n1:rB K CD "counts")(n3:rB K CD "at")(F:Fun K "make_tree" "Descent.make_tree" EC f fd)(B:BN mg)(MR:dF P w K mg base CD (k+1) "make_row" fr dr ["self", "parts", "onward"] (yE gF CD CC CB n))(MP:dF P w K mg base CD (k+1) "make_pick" fp dp ["self", "parts", "onward"] (uT gF CD CC CB n))(MU:dF P w K mg base CD (k+1) "make_turns" fa da ["self", "number", "onward"] (yC gF CD CC CB n))(MT:dF P w K mg base CD k "make_tree" fm dm ["self", "number", "onward"] (lh gF CD CC CB n)):iz P w K mg base (k+2) f fd ["self", "number", "onward"] (lh gF CD CC CB (n+1)):=by
 have nd:=Hu.nd
 refine jY F Hu (λvs G Q h=> ?_) (λcdv A outer s H E as G Q hr h=> ?_)
 ·obtain⟨_,_,_,_,_,_,_,_,_,_,_,_,_,_,_,_,_,_,_,_,_,_,rfl,_⟩:=h
  rfl
 have hU:=eI hr
 apply jc
 case a=>symm
 obtain⟨ds,cn,gd,dd,db,dx,m,pa,tb,ts,T,p,qq,k0,e,num,ow,o,t,e',r,rest,rfl,D,hq,hdp,he,hon,hpt,hms,q⟩:=h
 have hk0:=sr _ _ hpt
 exists cy D.ins rfl ?_
 exists cy D.tab.ins rfl ?_
 exists cQ (aV D.tab.mks) (bS (ux hq)) ?_
 left
 have hLT:=D.cs.len
 have harr:=D.ar _ (ax hq)
 cases qq with
 |none=>
  exact absurd hk0 (by unfold bo;rw[iG];ac_nf)
 |blank=>
  nofun
  ext
  ext
  ext
  ext
  exists⟨dE,?_⟩
  exists DI rfl rfl ?_
  exists ji rfl ?_
  exists⟨dE,?_⟩
  have h1:bo T .blank e=[(Tr.blank,e)]:=by unfold bo;rfl
  rw[h1,L3.pk_cons]at hpt
  split at hpt
  ·cases hpt
   exact⟨_,GE.refl,q _ D Ch.refl⟩
  ·cases hpt
 |sign z=>
  have h0:∃c,T[e]? =some c/\c∈z.cps.toList:=by
   unfold bo at hk0
   cases ec:T[e]? with
   |none=>rw[ec]at hk0;exact absurd hk0 (gJ _)
   |some c=>
    rw[ec]at hk0
    by_cases hc:c∈z.cps.toList
    ·exact⟨c,rfl,hc⟩
    ·simp only[if_neg hc]at hk0;exact absurd hk0 (gJ _)
  obtain⟨c,ec,hc⟩:=h0
  have h1:bo T (.sign z) e=[(Tr.sign ⟨#[c]⟩,e+1)]:=by unfold bo;rw[ec];simp only[if_pos hc]
  have hel:=(am.mp ec).1
  rw[h1]at hk0
  rw[gl,iG]at hk0
  rw[h1,L3.pk_cons,if_pos (by ac_nf)]at hpt
  cases hpt
  nofun
  exists iV rfl rfl (iU rfl ?_)
  exists Eh D.ins rfl (aP rfl) ?_
  left
  have ef:ig "at" (.int ((e:Int)+1)) (rL cn gd e)=rL cn gd (e+1):=rfl
  have eG:up G ds (.ins CD dd (ig "at" (.int ((e:Int)+1)) (rL cn gd e)))=up G ds (.ins CD dd (rL cn gd (e+1))):=by rw[ef]
  have ndg:gd≠ds:=λzz=>by have:=D.gui;rw[zz,D.ins]at this;injection this with this;injection this with _ _ this;exact D.gok.a _ _ _ _ this.symm
  have ch1:Ch [ds,gd] G (up G ds (.ins CD dd (rL cn gd (e+1)))):=Ch.refl.put (by simp)
  have D1:=D.ch ch1 (e':=e+1) (k':=k0) ao (by rw[aL ndg];exact D.gui)
  refine cy D1.ins rfl ?_
  exists cy D1.tab.ins rfl ?_
  exists cy D1.ins rfl ?_
  left
  have e9:((e+1:Nat):Int)-1=(e:Int):=by ac_nf
  refine HG (c:=c) (by rw[ia];ac_nf) (by show oV _ (((e+1:Nat):Int)-1)=_;rw[e9];exact bS (by rw[zp];exact ec)) ?_
  exact⟨dE,_,GE.refl,q _ D1 ch1⟩
 |row ps=>
  nofun
  ext
  exists iV rfl rfl (iU rfl ?_)
  exists⟨⟨ds,dd,_,rfl,D.ins,rfl⟩,?_⟩
  exists cy D.ins rfl ?_
  exists cy D.tab.ins rfl ?_
  exists cQ (aV D.tab.pts) (bS (fM hq)) ?_
  left
  rw[iH,nZ Tr.row (c8 T ps e) k0.k]at hpt
  cases hp:pk o (c8 T ps e) k0.k with
  |none=>rw[hp]at hpt;cases hpt
  |some y=>
  obtain⟨us,e2,r2⟩:=y
  rw[hp]at hpt
  cases hpt
  refine⟨ds,cn,gd,dd,db,dx,m,pa,tb,ts,T,p,ps,k0,e,num,ow,o,us,_,_,rest,rfl,D,hq,by unfold depth at hdp;ac_nf,he,hon,hp,hms,λG' D' ch=> ?_⟩
  exact⟨dE,_,GE.refl,q G' D' ch⟩
 |pick ps=>
  nofun
  ext
  ext
  exists iV rfl rfl (iU rfl ?_)
  exists⟨⟨ds,dd,_,rfl,D.ins,rfl⟩,?_⟩
  exists cy D.ins rfl ?_
  exists cy D.tab.ins rfl ?_
  exists cQ (aV D.tab.pts) (bS (fM hq)) ?_
  exists⟨ds,cn,gd,dd,db,dx,m,pa,tb,ts,T,p,ps,k0,e,num,ow,o,t,e',r,rest,rfl,D,hq,by unfold depth at hdp;ac_nf,harr.2,he,hon,hpt,hms,λG' D' ch=> ?_⟩
  exact⟨_,GE.refl,q G' D' ch⟩
 |again rr=>
  obtain⟨us,rfl⟩:=zM (tN hpt).1
  nofun
  ext
  ext
  ext
  exists iV rfl rfl (iU rfl ?_)
  exists⟨⟨ds,dd,_,rfl,D.ins,rfl⟩,?_⟩
  exists⟨ds,cn,gd,dd,db,dx,m,pa,tb,ts,T,p,rr,k0,e,num,ow,o,us,e',r,rest,rfl,D,hq,by unfold depth at hdp;ac_nf,he,hon,hpt,hms,λG' D' ch=> ?_⟩
  exact⟨dE,_,GE.refl,q G' D' ch⟩
 |held nm rr=>
  obtain⟨j,ej,hj,hnj⟩:=gD (i:=0) (cc:=rr) hq rfl rfl
  have hj1:j=num+1:=iF.mp (PV.int.inj ej).symm
  have htr:bo T (.held nm rr) e=(bo T rr e).map λt=>(.held nm t.1,t.2):=by conv=>lhs;unfold bo
  nofun
  ext
  ext
  ext
  ext
  exists⟨dE,?_⟩
  exists DI rfl rfl ?_
  exists iU rfl ?_
  exists ko (x:= .str nm) rfl ?_
  exists⟨⟨ds,dd,_,rfl,D.ins,rfl⟩,?_⟩
  exists cy D.ins rfl ?_
  exists cy D.tab.ins rfl ?_
  exists cQ (aV D.tab.pts) (bS (fM hq)) ?_
  exists ko (x:= .int (j:Int)) (by rw[hj1];rfl) ?_
  left
  rw[htr,nZ (Tr.held nm) (bo T rr e) k0.k]at hpt
  cases hp:pk o (bo T rr e) k0.k with
  |none=>rw[hp]at hpt;cases hpt
  |some y=>
  obtain⟨t2,e2,r2⟩:=y
  rw[hp]at hpt
  cases hpt
  refine⟨ds,cn,gd,dd,db,dx,m,pa,tb,ts,T,p,rr,k0,e,j,ow,o,t2,_,_,rest,rfl,D,hj,by unfold depth at hdp;ac_nf,he,hon.mono λi hi=>by rw[zk];exact hi,hp,hms,λG' D' ch=> ?_⟩
  exact⟨dE,_,GE.refl,q G' D' ch⟩
 |price nm rr=>
  obtain⟨j,ej,hj,hnj⟩:=gD (i:=0) (cc:=rr) hq rfl rfl
  have hj1:j=num+1:=iF.mp (PV.int.inj ej).symm
  have htr:bo T (.price nm rr) e=(bo T rr e).map λt=>(.price nm t.1,t.2):=by conv=>lhs;unfold bo
  nofun
  ext
  ext
  ext
  ext
  exists⟨dE,?_⟩
  exists DI rfl rfl ?_
  exists iU rfl ?_
  exists ko (x:= .int nm) rfl ?_
  exists⟨⟨ds,dd,_,rfl,D.ins,rfl⟩,?_⟩
  exists cy D.ins rfl ?_
  exists cy D.tab.ins rfl ?_
  exists cQ (aV D.tab.pts) (bS (fM hq)) ?_
  exists ko (x:= .int (j:Int)) (by rw[hj1];rfl) ?_
  left
  rw[htr,nZ (Tr.price nm) (bo T rr e) k0.k]at hpt
  cases hp:pk o (bo T rr e) k0.k with
  |none=>rw[hp]at hpt;cases hpt
  |some y=>
  obtain⟨t2,e2,r2⟩:=y
  rw[hp]at hpt
  cases hpt
  refine⟨ds,cn,gd,dd,db,dx,m,pa,tb,ts,T,p,rr,k0,e,j,ow,o,t2,_,_,rest,rfl,D,hj,by unfold depth at hdp;ac_nf,he,hon.mono λi hi=>by rw[vC];exact hi,hp,hms,λG' D' ch=> ?_⟩
  exact⟨dE,_,GE.refl,q G' D' ch⟩
theorem lE(x0:mg "TURN" =some (.int 0 tTU))(q1:rB K CC "signs")(q2:rB K CC "makes")(q3:rB K CC "parts")(n1:rB K CD "counts")(n2:rB K CD "guide")(n3:rB K CD "at")(B:BN mg)(ME:dF P w K mg base CC 1 "ends_of" fe de ["self", "number", "at"] (nV CC))(MS:dF P w K mg base CD 2 "size" fs' ds' ["self", "number", "at", "onward"] (jw gF CD CC CB))(MA:dF P w K mg base CD 3 "onward_ahead" fh dh ["self", "number", "places", "onward"] (kB gF CD CC CB))(MC:dF P w K mg base CB 1 "choose" fi di ["self", "sizes"] (ie gF CB))
  (F:Fun K "make_tree" "Descent.make_tree" EC f fd) (b:Binds K fd ["self", "number", "onward"] []) (m:iA K CD "make_tree" f)
  (FR:Fun K "make_row" "Descent.make_row" pU fr dr) (bR:Binds K dr ["self", "parts", "onward"] []) (mR:iA K CD "make_row" fr)
  (FP:Fun K "make_pick" "Descent.make_pick" l8 fp dp) (bP:Binds K dp ["self", "parts", "onward"] []) (mP:iA K CD "make_pick" fp)
  (FU:Fun K "make_turns" "Descent.make_turns" l7 fa da) (bU:Binds K da ["self", "number", "onward"] []) (mU:iA K CD "make_turns" fa):
  ∀n:Nat,iz P w K mg base (3+2*n) f fd ["self", "number", "onward"] (lh gF CD CC CB n)
 |0=>C0 λas G Q h=>by
  obtain⟨_,_,_,_,_,_,_,_,_,_,_,_,qq,_,_,_,_,_,_,_,_,_,_,_,_,hd,_⟩:=h
  cases qq<;>(unfold depth at hd;ac_nf)
 |n+1=>by
  have ih:=lE x0 q1 q2 q3 n1 n2 n3 B ME MS MA MC F b m FR bR mR FP bP mP FU bU mU n
  have MT:dF P w K mg base CD (3+2*n) "make_tree" f fd ["self", "number", "onward"] (lh gF CD CC CB n):=⟨ih,b,n1.c,m⟩
  have hk:3<=3+2*n:=by ac_nf
  exact vt (k:=3+2*n) q1 q2 q3 n1 n3 F B ⟨CG hk n1 n2 n3 FR B ME MA MT,bR,n1.c,mR⟩ ⟨At (by ac_nf) n1.c n1.n n2.n n3.n FP B MS MC MT,bP,n1.c,mP⟩ ⟨Cy hk x0 q3 n1 n2 n3 FU B ME MS MA MC MT,bU,n1.c,mU⟩ MT
end
noncomputable abbrev HW:Stmt:=top 30
noncomputable abbrev sQ:Stmt:=top 29
noncomputable abbrev pq:Stmt:=top 28
theorem xE(p:Pt):(makes p)[0]? =some p:=by rw[gn p];rfl
noncomputable def nH(T:List Nat)(p:Pt):List (Tr×Nat):=(bo T p 0).filter λt=>t.2==T.length
theorem md(T:List Nat)(p:Pt):(nH T p).length=nT T p 0 T.length:=by
 unfold nH nT jV
 rw[sN]
section
variable{gF:Gs->List (Str×PV)}{P:aI}{w:aY}{K:PySem.W.Frag}{mg:Str->Option ae}{base:Heap}{f fi fm fa fg fb ft CD CC CB D:Addr}{fd di dm da dg db' dt:aW}{tML:Tok}
theorem uZ:bj ["self"] ["self"] (aM sP):=⟨rfl,rfl,rfl,by decide+kernel,rfl,by decide+kernel,by decide+kernel⟩
noncomputable def z6(gF:Gs->List (Str×PV))(CD CC CB:Addr)(n:Nat):im:=λas G Q=>∃(ds cn gd dd db dx m pa tb:Addr) (ts:List Addr) (T:List Nat) (p:Pt) (k:Gs) (t:Tr) (e' r:Nat) (rest:List Int),as=[.ref ds]/\Ds gF CD CC CB G ds cn gd T p k 0 dd db dx m pa tb ts/\depth p<=n/\pk (dl T.length) (bo T p 0) k.k=some (t,e',r)/\k.ms.drop k.u=mks t++rest/\
 ∀G',Ds gF CD CC CB G' ds cn gd T p (k.to (mks t).length r) e' dd db dx m pa tb ts->Ch [ds,gd] G G'->Q (gG t) G'
theorem sv{n k:Nat}(q1:rB K CC "signs")(n1:rB K CD "counts")(F:Fun K "whole_tree" "Descent.whole_tree" sP f fd)(B:BN mg)(MT:dF P w K mg base CD k "make_tree" fm dm ["self", "number", "onward"] (lh gF CD CC CB n)):iz P w K mg base (k+1) f fd ["self"] (z6 gF CD CC CB n):=by
 have nd:=uZ.nd
 refine jY F uZ (λvs G Q h=> ?_) (λcdv A outer s H E as G Q hr h=> ?_)
 ·obtain⟨_,_,_,_,_,_,_,_,_,_,_,_,_,_,_,_,_,rfl,_⟩:=h
  rfl
 have hU:=eI hr
 apply jc
 case a=>symm
 obtain⟨ds,cn,gd,dd,db,dx,m,pa,tb,ts,T,p,k0,t,e',r,rest,rfl,D,hd,hpt,hms,q⟩:=h
 exists⟨⟨ds,dd,_,rfl,D.ins,rfl⟩,?_⟩
 left
 intro od hod
 left
 have ge0:GE G (up G od (.dK [])):=GE.refl.new hod
 have D1:=D.ge ge0
 refine cy D1.ins rfl ?_
 exists cy D1.tab.ins rfl ?_
 left
 have hLT:=D.cs.len
 refine tV (by rw[ia];ac_nf) ?_
 rw[ia]
 exists uq rfl ao ?_
 rw[fO]
 have ge1:GE G (up G od (.dK [(.inl (T.length:Int),.int 1)])):=GE.refl.new hod
 exists⟨ds,cn,gd,dd,db,dx,m,pa,tb,ts,T,p,p,k0,0,0,od,dl T.length,t,e',r,rest,rfl,D.ge ge1,xE p,hd,bK _,⟨_,jm ao,λj _=> ?_⟩,hpt,hms,λG' D' ch=> ?_⟩
 ·rw[eO]
  unfold dl
  by_cases h:T.length=j
  ·subst h;rw[if_pos rfl,if_pos rfl];rfl
  ·rw[if_neg (qK h),if_neg h];rfl
 ·exact⟨_,GE.refl,q G' D' (ge1.ch.trans ch)⟩
theorem Ht:bj ["pattern", "tree", "guide"] ["pattern", "tree"] (aM HW):=⟨rfl,rfl,rfl,by decide+kernel,rfl,by decide+kernel,by decide+kernel⟩
noncomputable def sd(n:Nat):im:=λas G Q=>∃(p:Pt) (T:List Nat) (t:Tr) (k:Nat),as=[jd p,gG t]/\Cs T p/\(∀q∈makes p,EA q)/\depth p<=n/\(nH T p)[k]? =some (t,T.length)/\fine 10000 t/\tz t=T/\Q (.int (k:Nat)) G
theorem GC(ms:List Int)(k:Nat):[(("marks" :Str),PV.tup (ms.map PV.int)),("used",.int 0),("passed",.int 0)]=gM ⟨ms,k,0,k⟩:=by
 unfold gM
 simp
theorem Ji{n k:Nat}(hk:5<=k)(nP:rB K CB "passed")(F:Fun K "number_of" "number_of" HW f fd)(B:BN mg)(MC:Ev P w K mg base "Counts" CC fi di 4 ["self", "pattern", "text"] (nU CC))(MB:Ev P w K mg base "ByMarks" CB fb db' 1 ["self", "marks"] (yG CB))(MD:Ev P w K mg base "Descent" CD fg dg 1 ["self", "counts", "guide"] (pF CD))(MW:dF P w K mg base CD k "whole_tree" fa da ["self"] (z6 gM CD CC CB n))(CM:dC P w K mg base 3 "marks_of" fm dm ["tree"] tE)(CT:dC P w K mg base 3 "text_of" ft dt ["tree"] qk):iz P w K mg base (k+1) f fd ["pattern", "tree"] (sd n):=by
 have nd:=Ht.nd
 refine jY F Ht (λvs G Q h=> ?_) (λcdv A outer s H E as G Q hr h=> ?_)
 ·obtain⟨_,_,_,_,rfl,_⟩:=h
  rfl
 have hU:=eI hr
 apply jc
 case a=>symm
 obtain⟨p,T,t,k0,rfl,cs,har,hd,hw,hf,htc,q⟩:=h
 exists⟨t,rfl,aO hf.2 (by decide),?_⟩
 left
 intro xb dxb hxb hdxb ndb
 refine⟨xb,dxb,mks t,rfl,ao,rfl,?_⟩
 rw[fO,GC (mks t) k0]
 have ge1:GE G (up G xb (.ins CB dxb (gM ⟨mks t,k0,0,k0⟩))):=GE.refl.new hxb
 have gb1:up G xb (.ins CB dxb (gM ⟨mks t,k0,0,k0⟩)) xb=some (.ins CB dxb (gM ⟨mks t,k0,0,k0⟩)):=ao
 generalize up G xb (.ins CB dxb (gM ⟨mks t,k0,0,k0⟩))=G1 at ge1 gb1
 exists⟨t,rfl,hf.1,aO hf.2 (by decide),?_⟩
 have etx:tx t=oi T:=by unfold tx oi;rw[htc]
 rw[etx]
 left
 intro x dx hx hdx ndx
 refine⟨x,dx,T,p,rfl,ao,cs,λG2 m pa tb ts ch tb1=>⟨rfl,?_⟩⟩
 have kq:GE G1 G2:=λb o hb=>by
  have ne:b≠x:=aZ hb hx
  exact ch b o (by simpa using ne) (by rw[aL ne];exact hb)
 left
 intro xd dxd hxd hdxd ndd
 refine⟨xd,dxd,x,xb,rfl,ao,rfl,?_⟩
 rw[fO]
 have ge3:GE G2 (up G2 xd (.ins CD dxd (rL x xb 0))):=GE.refl.new hxd
 have gb2:=kq _ _ gb1
 have hpt:pk (dl T.length) (bo T p 0) k0=some (t,T.length,0):=by
  rw[kf]
  change ((nH T p)[k0]?).map _=_
  rw[hw]
  rfl
 have Dn:Ds gM CD CC CB (up G2 xd (.ins CD dxd (rL x xb 0))) xd x xb T p ⟨mks t,k0,0,k0⟩ 0 dxd dxb dx m pa tb ts:=⟨ao,ge3 _ _ gb2,tb1.ge ge3,cs,har,Nm⟩
 exists⟨⟨xd,dxd,_,rfl,ao,rfl⟩,?_⟩
 exists⟨xd,x,xb,dxd,dxb,dx,m,pa,tb,ts,T,p,⟨mks t,k0,0,k0⟩,t,T.length,0,[],rfl,Dn,hd,hpt,by simp,λG4 D4 ch4=> ?_⟩
 exists cy D4.gui rfl ?_
 have e0:((k0:Nat):Int)-((0:Nat):Int)=(k0:Int):=by ac_nf
 show∃G0,GE G0 G4/\Q (.int (((k0:Nat):Int)-((0:Nat):Int))) G0
 rw[e0]
 have hxb0:G xb=none:=hxb
 have hxd1:G xd=none:=none_of (ge1.trans kq) hxd
 refine⟨G,λb o hb=>ch4 b o ?_ (ge3 _ _ (kq _ _ (ge1 _ _ hb))),q⟩
 have e1:=aZ hb hxb0
 have e2:=aZ hb hxd1
 simp[e1,e2]
theorem vb:bj ["pattern", "text", "k", "counts"] ["pattern", "text", "k"] (aM sQ):=⟨rfl,rfl,rfl,by decide+kernel,rfl,by decide+kernel,by decide+kernel⟩
noncomputable def z8(n:Nat):Eu:=λas G Q EX=>∃(p:Pt) (T:List Nat) (k:Int),as=[jd p,.str (oi T),.int k]/\Cs T p/\(∀q∈makes p,EA q)/\depth p<=n/\
 (∀t,0<=k->((bo T p 0).filter λt=>t.2==T.length)[k.toNat]? =some t->Q (gG t.1) G)/\((k<0\/(nT T p 0 T.length:Int)<=k)->∀G',GE G G'->EX G')
theorem Ar{n k:Nat}(hk:5<=k)(xq:PySem.W.excIn K D Ba "ValueError.__new__" =true)(hD:mg "NoTree" =some (.ref D))(F:Fun K "tree_at" "tree_at" sQ f fd)(B:BN mg)(MC:Ev P w K mg base "Counts" CC fi di 4 ["self", "pattern", "text"] (nU CC))(MB:Ev P w K mg base "ByNumber" CB fb db' 1 ["self", "number"] (tD CB))(MD:Ev P w K mg base "Descent" CD fg dg 1 ["self", "counts", "guide"] (pF CD))(MT:dF P w K mg base CC 1 "total" fm dm ["self"] (mq CC))(MW:dF P w K mg base CD k "whole_tree" fa da ["self"] (z6 gN CD CC CB n)):NL P w K mg base D (k+1) f fd ["pattern", "text", "k"] (z8 n):=by
 have nd:=vb.nd
 refine fnX F vb (λvs G Q EX h=> ?_) (λcdv A outer s H E as G Q EX hr h hX=> ?_)
 ·obtain⟨_,_,_,rfl,_⟩:=h
  rfl
 have hU:=eI hr
 apply jc
 case a=>symm
 obtain⟨p,T,k0,rfl,cs,har,hd,q1,q2⟩:=h
 left
 intro x dx hx hdx ndx
 refine⟨x,dx,T,p,rfl,ao,cs,λG1 m pa tb ts ch tb1=>⟨rfl,?_⟩⟩
 have ge1:GE G G1:=λb o hb=>by
  have ne:b≠x:=aZ hb hx
  exact ch b o (by simpa using ne) (by rw[aL ne];exact hb)
 left
 have no:k0<0\/(nT T p 0 T.length:Int)<=k0->EX G1:=λh=>q2 h G1 ge1
 by_cases h0:0<=k0
 ·refine iU (decide_eq_true h0) ?_
  exists⟨⟨x,dx,_,rfl,tb1.ins,rfl⟩,?_⟩
  exists⟨x,dx,m,pa,tb,ts,T,p,rfl,cs,tb1,?_⟩
  left
  by_cases h1:k0<(nT T p 0 T.length:Int)
  ·refine ji (by simp[h1]) ?_
   left
   intro xb dxb hxb hdxb ndb
   refine⟨xb,dxb,k0,rfl,ao,rfl,?_⟩
   rw[fO]
   have kq:GE G1 (up G1 xb (.ins CB dxb [("left",.int k0)])):=GE.refl.new hxb
   left
   intro xd dxd hxd hdxd ndd
   refine⟨xd,dxd,x,xb,rfl,ao,rfl,?_⟩
   rw[fO]
   have ge3:GE G1 (up (up G1 xb (.ins CB dxb [("left",.int k0)])) xd (.ins CD dxd (rL x xb 0))):=kq.new hxd
   have nbd:xb≠xd:=(aZ ao hxd)
   obtain⟨kn,rfl⟩:∃kn:Nat,k0=(kn:Int):=⟨k0.toNat,by ac_nf⟩
   obtain⟨⟨tt,ee⟩,hg⟩:∃tt,(nH T p)[kn]? =some tt:=⟨_,al (by rw[md];ac_nf)⟩
   obtain rfl:ee=T.length:=by
    have:=(cL.mp (ax hg)).2
    simpa using this
   have hpt:pk (dl T.length) (bo T p 0) kn=some (tt,T.length,0):=by
    rw[kf]
    change ((nH T p)[kn]?).map _=_
    rw[hg]
    rfl
   have Dn:Ds gN CD CC CB (up (up G1 xb (.ins CB dxb [("left",.int (kn:Int))])) xd (.ins CD dxd (rL x xb 0))) xd x xb T p ⟨mks tt,kn,0,kn⟩ 0 dxd dxb dx m pa tb ts:=⟨ao,by rw[aL nbd,ao];rfl,tb1.ge ge3,cs,har,HJ⟩
   exists⟨⟨xd,dxd,_,rfl,ao,rfl⟩,?_⟩
   exists⟨xd,x,xb,dxd,dxb,dx,m,pa,tb,ts,T,p,⟨mks tt,kn,0,kn⟩,tt,T.length,0,[],rfl,Dn,hd,hpt,by simp,λG' D' ch'=> ?_⟩
   have hx1:G xb=none:=none_of ge1 hxb
   have hxd1:G xd=none:=none_of (ge1.trans kq) hxd
   refine⟨G,λb o hb=>ch' b o ?_ (ge3 _ _ (ge1 _ _ hb)),?_⟩
   ·have e1:=aZ hb hx1
    have e2:=aZ hb hxd1
    simp[e1,e2]
   ·exact q1 (tt,T.length) h0 (by rw[bL];exact hg)
  ·refine iU (by simp[h1]) ?_
   left
   exact⟨dE,no (.inr (by ac_nf))⟩
 ·refine ji (decide_eq_false h0) ?_
  exists iU rfl ?_
  left
  exact⟨dE,no (.inl (by ac_nf))⟩
theorem u0:bj ["pattern", "text", "counts"] ["pattern", "text"] (aM pq):=⟨rfl,rfl,rfl,by decide+kernel,rfl,by decide+kernel,by decide+kernel⟩
noncomputable abbrev kTL:e8:=jI [(".0",.local),("k",.local),("Descent",.globalImplicit),("counts",.free),("ByNumber",.globalImplicit)]
theorem D0:fq (aM pq) ["pattern", "text", "counts"] kTL ["k", "counts"] [none,some 2] 0 "k" =true:=by decide+kernel
noncomputable def z7(n:Nat):Eu:=λas G Q EX=>∃(p:Pt) (T:List Nat),as=[jd p,.str (oi T)]/\Cs T p/\(∀q∈makes p,EA q)/\depth p<=n/\
 (nT T p 0 T.length<=200->∀c G',G c=none->G' c=some (.lst ((nH T p).map λt=>gG t.1))->GE G G'->Q (.ref c) G')/\(200<nT T p 0 T.length->∀G',GE G G'->EX G')
theorem Aq{n k:Nat}(hk:5<=k)(x0:mg "MOST_LISTED" =some (.int 200 tML))(xq:PySem.W.excIn K D Ba "ValueError.__new__" =true)(hD:mg "TooMany" =some (.ref D))(F:Fun K "trees" "trees" pq f fd)(B:BN mg)(MC:Ev P w K mg base "Counts" CC fi di 4 ["self", "pattern", "text"] (nU CC))(MB:Ev P w K mg base "ByNumber" CB fb db' 1 ["self", "number"] (tD CB))(MD:Ev P w K mg base "Descent" CD fg dg 1 ["self", "counts", "guide"] (pF CD))(MT:dF P w K mg base CC 1 "total" fm dm ["self"] (mq CC))(MW:dF P w K mg base CD k "whole_tree" fa da ["self"] (z6 gN CD CC CB n)):NL P w K mg base D (k+1) f fd ["pattern", "text"] (z7 n):=by
 have nd:=u0.nd
 refine fnX F u0 (λvs G Q EX h=> ?_) (λcdv A outer s H E as G Q EX hr h hX=> ?_)
 ·obtain⟨_,_,rfl,_⟩:=h
  rfl
 have hU:=eI hr
 apply jc
 case a=>
  symm
  all_goals try (refine' qN D0 rfl ?_ λ_ _ _ _=>⟨?_,?_⟩)
  all_goals symm
 obtain⟨p,T,rfl,cs,har,hd,q1,q2⟩:=h
 left
 intro x dx hx hdx ndx
 refine⟨x,dx,T,p,rfl,ao,cs,λG1 m pa tb ts ch tb1=>⟨rfl,?_⟩⟩
 have ge1:GE G G1:=λb o hb=>by
  have ne:b≠x:=aZ hb hx
  exact ch b o (by simpa using ne) (by rw[aL ne];exact hb)
 exists⟨⟨x,dx,_,rfl,tb1.ins,rfl⟩,?_⟩
 exists⟨x,dx,m,pa,tb,ts,T,p,rfl,cs,tb1,?_⟩
 left
 by_cases h200:200<nT T p 0 T.length
 ·refine iU (decide_eq_true (by show((nT T p 0 T.length:Nat):Int)>200;ac_nf)) ?_
  left
  exact⟨dE,q2 h200 G1 ge1⟩
 refine ji (decide_eq_false (by show¬((nT T p 0 T.length:Nat):Int)>200;ac_nf)) ?_
 exists⟨⟨x,dx,_,rfl,tb1.ins,rfl⟩,?_⟩
 exists⟨x,dx,m,pa,tb,ts,T,p,rfl,cs,tb1,?_⟩
 exists⟨by ac_nf,by ac_nf,?_⟩
 intro acc hacc
 have hwl:(nH T p).length=nT T p 0 T.length:=md T p
 have hil:(ir 0 ((nT T p 0 T.length:Nat):Int).toNat).length=nT T p 0 T.length:=by unfold ir;simp
 refine⟨λi ys Gi=>ys=((nH T p).take i).map (λt=>gG t.1)/\GE G1 Gi/\Gi acc=some (.lst ys),⟨by simp,GE.refl.new hacc,ao⟩,?_,?_,?_⟩
 ·rintro i ys Gi hi ⟨rfl,ge,ga⟩
  refine⟨trivial,ga,?_⟩
  rw[ap,bb];ac_nf
 ·rintro i ys Gi y hy ⟨rfl,ge,ga⟩
  have hi2:=(am.mp hy).1
  rw[hil]at hi2
  have ey:y= .int (i:Int):=by
   unfold ir at hy
   rw[aF,cX (by rw[bL];exact hi2)]at hy
   cases hy
   show PV.int (0+(i:Int))=_
   rw[Int.zero_add]
  subst ey
  refine iU rfl ?_
  left
  intro xb dxb hxb hdxb ndb
  refine⟨xb,dxb,(i:Int),rfl,ao,rfl,?_⟩
  rw[fO]
  have kq:GE Gi (up Gi xb (.ins CB dxb [("left",.int (i:Int))])):=GE.refl.new hxb
  left
  intro xd dxd hxd hdxd ndd
  refine⟨xd,dxd,x,xb,rfl,ao,rfl,?_⟩
  rw[fO]
  have ge3:GE Gi (up (up Gi xb (.ins CB dxb [("left",.int (i:Int))])) xd (.ins CD dxd (rL x xb 0))):=kq.new hxd
  have nbd:xb≠xd:=(aZ ao hxd)
  obtain⟨⟨tt,ee⟩,hg⟩:∃tt,(nH T p)[i]? =some tt:=⟨_,al (by ac_nf)⟩
  obtain rfl:ee=T.length:=by
   have:=(cL.mp (ax hg)).2
   simpa using this
  have hpt:pk (dl T.length) (bo T p 0) i=some (tt,T.length,0):=by
   rw[kf]
   change ((nH T p)[i]?).map _=_
   rw[hg]
   rfl
  have Dn:Ds gN CD CC CB (up (up Gi xb (.ins CB dxb [("left",.int (i:Int))])) xd (.ins CD dxd (rL x xb 0))) xd x xb T p ⟨mks tt,i,0,i⟩ 0 dxd dxb dx m pa tb ts:=⟨ao,by rw[aL nbd,ao];rfl,(tb1.ge ge).ge ge3,cs,har,HJ⟩
  exists⟨⟨xd,dxd,_,rfl,ao,rfl⟩,?_⟩
  exists⟨xd,x,xb,dxd,dxb,dx,m,pa,tb,ts,T,p,⟨mks tt,i,0,i⟩,tt,T.length,0,[],rfl,Dn,hd,hpt,by simp,λG' D' ch'=> ?_⟩
  have hxb1:G1 xb=none:=none_of ge hxb
  have hxd1:G1 xd=none:=none_of (ge.trans kq) hxd
  have ge4:GE G1 G':=λb o hb=>ch' b o (by
   have e1:=aZ hb hxb1
   have e2:=aZ hb hxd1
   simp[e1,e2]) (ge3 _ _ (ge _ _ hb))
  have nab:acc≠xb:=aZ ga hxb
  have nad:acc≠xd:=aZ (kq _ _ ga) hxd
  have ga4:G' acc=some (.lst (((nH T p).take i).map λt=>gG t.1)):=ch' acc _ (by simp[nab,nad]) (ge3 _ _ ga)
  refine⟨ga4,?_,ge4.mod hacc,ao⟩
  rw[bZ,hg,aS]
  rfl
 ·rintro ys Gi ⟨rfl,ge,ga⟩
  rw[hil,<-hwl,bD]at ga
  exact⟨_,GE.refl,q1 (by ac_nf) acc Gi (none_of ge1 hacc) ga (ge1.trans ge)⟩
end
noncomputable abbrev Bo:Stmt:=top 32
noncomputable abbrev Bq:Stmt:=top 33
section
variable{P:aI}{w:aY}{K:PySem.W.Frag}{mg:Str->Option ae}{base:Heap}{f:Addr}{fd:aW}
theorem BU:bj ["cell"] ["cell"] (aM Bo):=⟨rfl,rfl,rfl,by decide+kernel,rfl,by decide+kernel,by decide+kernel⟩
theorem Fx(F:Fun K "_law_pool" "_law_pool" Bo f fd)(B:BN mg):iz P w K mg base 1 f fd ["cell"] wZ:=by
 have nd:=BU.nd
 refine jY F BU (λvs G Q h=> ?_) (λcdv A outer s H E as G Q hr h=> ?_)
 ·obtain⟨p,rfl,_⟩:=h
  rfl
 have hU:=eI hr
 apply jc
 case a=>symm
 obtain⟨c,rfl,q⟩:=h
 have cp:Lc 10 18:=⟨by decide,by decide,by decide⟩
 refine⟨cp,cp,(by decide:(0:Int)<10^18),dE,λa ha=>⟨_,GE.refl,q a _ ha ⟨_,_,0,ao,?_⟩ (Ch.refl.put (by simp))⟩⟩
 show(0:Int)<=if c-10^18>0 then c-10^18 else 0
 split<;>ac_nf
theorem BW:bj ["pool", "base", "digit", "near", "stir"] ["pool", "base"] (aM Bq):=⟨rfl,rfl,rfl,by decide+kernel,rfl,by decide+kernel,by decide+kernel⟩
noncomputable def kA:im:=λps G Q=>∃(a:Addr) (b:Int),ps=[.ref a,.int b]/\Pool G a/\1<=b/\b<=10^30/\∀(n:Int) G',0<=n->n<b->Pool G' a->Ch [a] G G'->Q (.int n) G'
theorem CF(F:Fun K "_law_next" "_law_next" Bq f fd)(B:BN mg):iz P w K mg base 1 f fd ["pool", "base"] kA:=by
 have nd:=BW.nd
 refine jY F BW (λvs G Q h=> ?_) (λcdv A outer s H E as G Q hr h=> ?_)
 ·obtain⟨a,b,rfl,_⟩:=h
  rfl
 have hU:=eI hr
 apply jc
 case a=>symm
 obtain⟨a,b,rfl,⟨x,y,z,ga,hx⟩,b1,b2,q⟩:=h
 exists cQ (aV ga) rfl ?_
 refine Nc (λhp=> ?_) (λhp=> ?_)
 ·left
  refine cQ (i:=0) (aV ga) rfl ?_
  refine⟨by ac_nf,?_⟩
  exists cQ (i:=0) (aV ga) rfl ?_
  refine⟨⟨by ac_nf,b2⟩,?_⟩
  exists qo (k:=0) ga rfl ?_
  exact⟨_,GE.refl,q _ _ (ly _ (by ac_nf)) (jq _ (by ac_nf)) ⟨x/b,y,z,ao,Int.ediv_nonneg hx (by ac_nf)⟩ (Ch.refl.put (by simp))⟩
 ·left
  refine cQ (i:=2) (aV ga) rfl ?_
  exists qo (k:=2) ga rfl ?_
  exists cQ (i:=1) (aV ao) rfl ?_
  exists cQ (i:=2) (aV ao) rfl ?_
  refine⟨.inl ⟨by decide,by decide⟩,(by decide:(0:Int)<1000000007),?_⟩
  have n0:0<=(y+7919*(z+1))%1000000007:=ly _ (by decide)
  have n1:(y+7919*(z+1))%1000000007<1000000007:=jq _ (by decide)
  refine⟨.inl ⟨?_,?_⟩,(by decide:(0:Int)<998244353),?_⟩
  ·show-(2^64)<(y+7919*(z+1))%1000000007+11
   ac_nf
  ·show(y+7919*(z+1))%1000000007+11<2^64
   ac_nf
  generalize ((y+7919*(z+1))%1000000007+11)*((y+7919*(z+1))%1000000007+48271)=k
  have s0:0<=k%998244353:=ly _ (by decide)
  have s1:k%998244353<998244353:=jq _ (by decide)
  refine⟨.inl ⟨?_,?_⟩,(by decide:(0:Int)<2147483647),⟨by decide,by decide⟩,(by ac_nf:0<b),?_⟩
  ·show-(2^64)<k%998244353
   ac_nf
  ·show k%998244353<2^64
   ac_nf
  exact⟨_,GE.refl,q _ _ (ly _ (by ac_nf)) (jq _ (by ac_nf)) ⟨x,y,z+1,ao,hx⟩ (Ch.refl.put (by simp))⟩
end
noncomputable abbrev sV:Stmt:=top 34
theorem Af(n:Nat):(aj n (bJ [Pt.blank])).flatten=bJ (aj n Pt.blank):=by
 induction n with
 |zero=>rfl
 |succ n ih=>rw[bf,cx,ih,bf];rfl
theorem v6:∀(qs:List Pt) (k:Nat) (x:Pt),bJ (qs.set k x)=(bJ qs).set k (jd x)
 |[],k,x=>rfl
 |q::qs,0,x=>rfl
 |q::qs,k+1,x=>by show jd q::bJ (qs.set k x)=_;rw[v6 qs k x];rfl
theorem tL{qs:List Pt}{R:Pt->Prop}{k:Nat}{x:Pt}(h:∀q∈qs,R q)(hx:R x):∀q∈qs.set k x,R q:=λq hq=>by
 rcases List.mem_or_eq_of_mem_set hq with h1|h1
 ·exact h q h1
 ·rw[h1];exact hx
theorem w8{a:Addr}{qs:List Pt}{k:Nat}{x:Pt}{G:Gp}{Q:Gp->Prop}(h:G a=some (.lst (bJ qs)))(hk:k<qs.length)(q:Q (up G a (.lst (bJ (qs.set k x))))):BS (.ref a) (.int (k:Int)) (jd x) G Q:=by
 rw[v6]at q
 refine qo (k:=(k:Int)) (j:=k) h ?_ q
 rw[cR]
 unfold xK
 rw[if_pos (by ac_nf),if_pos (by ac_nf)]
 simp
section
variable{P:aI}{w:aY}{K:PySem.W.Frag}{mg:Str->Option ae}{base:Heap}{f fn:Addr}{fd dn:aW}
theorem vg:bj ["pool", "count", "few", "some"] ["pool", "count", "few"] (aM sV):=⟨rfl,rfl,rfl,by decide+kernel,rfl,by decide+kernel,by decide+kernel⟩
noncomputable def ql:im:=λps G Q=>∃(a:Addr) (n:Nat) (few:Bool),ps=[.ref a,.int (n:Int),.bl few]/\Pool G a/\2<=n/\n<=9/\∀(qs:List Pt) G',qs.length=n->(∀q∈qs,bk q)->Pool G' a->Ch [a] G G'->Q (jd (.pick qs)) G'
theorem Av(F:Fun K "_law_blanks" "_law_blanks" sV f fd)(B:BN mg)(CN:dC P w K mg base 1 "_law_next" fn dn ["pool", "base"] kA):iz P w K mg base 2 f fd ["pool", "count", "few"] ql:=by
 have nd:=vg.nd
 refine jY F vg (λvs G Q h=> ?_) (λcdv A outer s H E as G Q hr h=> ?_)
 ·obtain⟨_,_,_,rfl,_⟩:=h
  rfl
 have hU:=eI hr
 apply jc
 case a=>symm
 obtain⟨a,n,few,rfl,hp,hn2,hn9,q⟩:=h
 exists⟨dE,?_⟩
 exists⟨dE,λl0 hl0=> ?_⟩
 exists Jw (xs:=bJ [.blank]) ao ⟨by ac_nf,by ac_nf⟩ (by rw[bL];show 1*n<=_;ac_nf) λsm hsm=> ?_
 rw[bL]
 have hq0:(aj n (bJ [Pt.blank])).flatten=bJ (aj n Pt.blank):=Af n
 rw[hq0]
 have hsm0:G sm=none:=(dD hsm).2
 have nas:a≠sm:=by obtain⟨o,ho⟩:=hp.some;exact aZ ho hsm0
 have p1:Pool (up (up G l0 (.lst (bJ [.blank]))) sm (.lst (bJ (aj n Pt.blank)))) a:=(hp.new hl0).new hsm
 have c1:Ch [a] G (up (up G l0 (.lst (bJ [.blank]))) sm (.lst (bJ (aj n Pt.blank)))):=(Ch.refl.new hl0).new hsm
 have g1:up (up G l0 (.lst (bJ [.blank]))) sm (.lst (bJ (aj n Pt.blank))) sm=some (.lst (bJ (aj n Pt.blank))):=ao
 change Pool (up (up G l0 (.lst [PV.tup [.str "blank"]])) sm (.lst (bJ (aj n Pt.blank)))) a at p1
 change Ch [a] G (up (up G l0 (.lst [PV.tup [.str "blank"]])) sm (.lst (bJ (aj n Pt.blank))))at c1
 change up (up G l0 (.lst [PV.tup [.str "blank"]])) sm (.lst (bJ (aj n Pt.blank))) sm=_ at g1
 generalize up (up G l0 (.lst [PV.tup [.str "blank"]])) sm (.lst (bJ (aj n Pt.blank)))=G1 at p1 c1 g1⊢
 have l1:(aj n Pt.blank).length=n:=fJ
 have a1:∀q∈aj n Pt.blank,bk q:=λq hq=> .inl (List.eq_of_mem_replicate hq)
 generalize aj n Pt.blank=qs at g1 l1 a1
 cases few with
 |false=>
  exists ji rfl ?_
  exists ji rfl ?_
  exists ji rfl ?_
  exists ji rfl ?_
  exists iX (aV g1) ?_
  exact⟨dE,_,GE.refl,q qs _ l1 a1 p1 c1⟩
 |true=>
  exists iU rfl ?_
  exists⟨a,3,rfl,p1,by decide,by decide,λm0 G2 m00 m01 p2 ch2=> ?_⟩
  have g2:G2 sm=some (.lst (bJ qs)):=ch2 sm _ (by simp[aG nas]) g1
  have c2:Ch [a] G G2:=c1.trans ch2
  exists iV rfl rfl ?_
  refine Nc (λhz=> ?_) (λhz=> ?_)
  ·left
   refine⟨dE,dE,?_⟩
   exists⟨a,_,rfl,p2,by ac_nf,i8 (show(n:Int)<=9 by ac_nf) (by decide),λm1 G3 m10 m11 p3 ch3=> ?_⟩
   have g3:G3 sm=some (.lst (bJ qs)):=ch3 sm _ (by simp[aG nas]) g2
   obtain⟨k1,rfl⟩:∃k1:Nat,m1=(k1:Int):=⟨m1.toNat,by ac_nf⟩
   exists w8 (x:= .again (.sign "b")) g3 (by rw[l1];ac_nf) ?_
   have p3':Pool (up G3 sm (.lst (bJ (qs.set k1 (.again (.sign "b")))))) a:=p3.ne (aG nas)
   have c3:Ch [a] G (up G3 sm (.lst (bJ (qs.set k1 (.again (.sign "b")))))):=(c2.trans ch3).mod' hsm0
   have l3:(qs.set k1 (.again (.sign "b"))).length=n:=by rw[gI];exact l1
   have a3:∀q∈qs.set k1 (.again (.sign "b")),bk q:=tL a1 (.inr (.inl rfl))
   have g3':up G3 sm (.lst (bJ (qs.set k1 (.again (.sign "b"))))) sm=some (.lst (bJ (qs.set k1 (.again (.sign "b"))))):=ao
   exists iU rfl ?_
   exists⟨a,3,rfl,p3',by decide,by decide,λm2 G4 m20 m21 p4 ch4=> ?_⟩
   have g4:G4 sm=some (.lst (bJ (qs.set k1 (.again (.sign "b"))))):=ch4 sm _ (by simp[aG nas]) g3'
   have c4:Ch [a] G G4:=(c3).trans ch4
   exists iV rfl rfl ?_
   refine Nc (λhz=> ?_) (λhz=> ?_)
   ·left
    refine⟨dE,dE,?_⟩
    exists⟨a,_,rfl,p4,by ac_nf,i8 (show(n:Int)<=9 by ac_nf) (by decide),λm3 G5 m30 m31 p5 ch5=> ?_⟩
    have g5:G5 sm=some (.lst (bJ (qs.set k1 (.again (.sign "b"))))):=ch5 sm _ (by simp[aG nas]) g4
    obtain⟨kk,rfl⟩:∃kk:Nat,m3=(kk:Int):=⟨m3.toNat,by ac_nf⟩
    exists w8 (x:= .held "pick" .blank) g5 (by rw[l3];ac_nf) ?_
    have p6:Pool (up G5 sm (.lst (bJ (((qs.set k1 (.again (.sign "b")))).set kk (.held "pick" .blank))))) a:=p5.ne (aG nas)
    have c6:Ch [a] G (up G5 sm (.lst (bJ (((qs.set k1 (.again (.sign "b")))).set kk (.held "pick" .blank))))):=(c4.trans ch5).mod' hsm0
    have l6:(((qs.set k1 (.again (.sign "b")))).set kk (.held "pick" .blank)).length=n:=by rw[gI];exact l3
    have a6:∀q∈((qs.set k1 (.again (.sign "b")))).set kk (.held "pick" .blank),bk q:=tL a3 (.inr (.inr rfl))
    exists iX (aV ao) ?_
    exact⟨dE,_,GE.refl,q _ _ l6 a6 p6 c6⟩
   ·left
    refine iX (aV g4) ?_
    exact⟨dE,_,GE.refl,q (qs.set k1 (.again (.sign "b"))) _ l3 a3 p4 c4⟩
  ·left
   refine iU rfl ?_
   exists⟨a,3,rfl,p2,by decide,by decide,λm2 G4 m20 m21 p4 ch4=> ?_⟩
   have g4:G4 sm=some (.lst (bJ qs)):=ch4 sm _ (by simp[aG nas]) g2
   have c4:Ch [a] G G4:=(c2).trans ch4
   exists iV rfl rfl ?_
   refine Nc (λhz=> ?_) (λhz=> ?_)
   ·left
    refine⟨dE,dE,?_⟩
    exists⟨a,_,rfl,p4,by ac_nf,i8 (show(n:Int)<=9 by ac_nf) (by decide),λm3 G5 m30 m31 p5 ch5=> ?_⟩
    have g5:G5 sm=some (.lst (bJ qs)):=ch5 sm _ (by simp[aG nas]) g4
    obtain⟨kk,rfl⟩:∃kk:Nat,m3=(kk:Int):=⟨m3.toNat,by ac_nf⟩
    exists w8 (x:= .held "pick" .blank) g5 (by rw[l1];ac_nf) ?_
    have p6:Pool (up G5 sm (.lst (bJ ((qs).set kk (.held "pick" .blank))))) a:=p5.ne (aG nas)
    have c6:Ch [a] G (up G5 sm (.lst (bJ ((qs).set kk (.held "pick" .blank))))):=(c4.trans ch5).mod' hsm0
    have l6:((qs).set kk (.held "pick" .blank)).length=n:=by rw[gI];exact l1
    have a6:∀q∈(qs).set kk (.held "pick" .blank),bk q:=tL a1 (.inr (.inr rfl))
    exists iX (aV ao) ?_
    exact⟨dE,_,GE.refl,q _ _ l6 a6 p6 c6⟩
   ·left
    refine iX (aV g4) ?_
    exact⟨dE,_,GE.refl,q qs _ l1 a1 p4 c4⟩
end
noncomputable abbrev sS:Stmt:=top 37
theorem zN{f:Nat->List (Tr×Nat)}{B:Nat}(h:∀e x,x∈f e->tq x.1<=B):∀(n e:Nat) x,x∈xX f n e->qa x.1<=B
 |0,e,x,hx=>by cases au.mp hx;exact bK _
 |n+1,e,x,hx=>by
  rcases aR.mp hx with hx|hx
  ·obtain⟨t,ht,hx⟩:=bp.mp hx
   obtain⟨u,hu,rfl⟩:=ay.mp hx
   simp only[qa]
   exact Nat.max_le.mpr ⟨h e t ht,zN h n t.2 u hu⟩
  ·cases au.mp hx;exact bK _
mutual
theorem nM(T:List Nat):∀(p:Pt) (e:Nat) x,x∈bo T p e->tq x.1<=depth p
 | .none,e,x,h=>by simp[bo]at h
 | .blank,e,x,h=>by simp[bo]at h;rw[h];exact av _
 | .sign s,e,x,h=>by
  unfold bo at h
  split at h
  ·split at h
   ·cases au.mp h;exact av _
   ·cases h
  ·cases h
 | .row ps,e,x,h=>by
  rw[iH]at h
  obtain⟨s,hs,rfl⟩:=ay.mp h
  show 1+qa s.1<=1+bM ps
  have:=yY T ps e s hs
  ac_nf
 | .pick ps,e,x,h=>by
  unfold bo at h
  show tq x.1<=1+bM ps
  exact yy T ps 0 e x h
 | .again p,e,x,h=>by
  unfold bo at h
  obtain⟨s,hs,rfl⟩:=ay.mp h
  show 1+qa s.1<=1+depth p
  have:=zN (B:=depth p) (λe x hx=>nM T p e x hx) _ _ s hs
  ac_nf
 | .held n p,e,x,h=>by
  unfold bo at h
  obtain⟨s,hs,rfl⟩:=ay.mp h
  show 1+tq s.1<=1+depth p
  have:=nM T p e s hs
  ac_nf
 | .price n p,e,x,h=>by
  unfold bo at h
  obtain⟨s,hs,rfl⟩:=ay.mp h
  show 1+tq s.1<=1+depth p
  have:=nM T p e s hs
  ac_nf
theorem yY(T:List Nat):∀(ps:List Pt) (e:Nat) x,x∈c8 T ps e->qa x.1<=bM ps
 |[],e,x,h=>by unfold c8 at h;cases au.mp h;exact bK _
 |p::ps,e,x,h=>by
  unfold c8 at h
  obtain⟨t,ht,hx⟩:=bp.mp h
  obtain⟨u,hu,rfl⟩:=ay.mp hx
  simp only[qa,bM]
  have h1:=nM T p e t ht
  have h2:=yY T ps t.2 u hu
  ac_nf
theorem yy(T:List Nat):∀(ps:List Pt) (k e:Nat) x,x∈eX T ps k e->tq x.1<=1+bM ps
 |[],k,e,x,h=>by unfold eX at h;cases h
 |p::ps,k,e,x,h=>by
  unfold eX at h
  rcases aR.mp h with h|h
  ·obtain⟨s,hs,rfl⟩:=ay.mp h
   show 1+tq s.1<=1+max (depth p) (bM ps)
   have:=nM T p e s hs
   ac_nf
  ·have:=yy T ps (k+1) e x h
   simp only[bM]
   ac_nf
end
theorem pV{T:List Nat}{p:Pt}(hd:depth p<=40):∀t∈nH T p,c7 100 (gG t.1)=true:=λt ht=>by
 have h1:=nM T p 0 t (cL.mp ht).1
 exact ku t.1 100 (by ac_nf)
theorem sk:∀(xs:List PV),(∀x∈xs,c7 100 x=true)->dL 100 xs=true
 |[],_=>rfl
 |x::xs,h=>by
  unfold dL
  rw[h x (by simp),sk xs λy hy=>h y (by simp[hy])]
  rfl
theorem EE{T:List Nat}{p:Pt}{i j:Nat}{x y:Tr×Nat}(hi:(nH T p)[i]? =some x)(hj:(nH T p)[j]? =some y)(h:i<j):x.1≠y.1:=λz=>by
 have nd:(nH T p).Nodup:=(nK p 0 (bK _)).filter _
 have mx:=(cL.mp (ax hi)).1
 have my:=(cL.mp (ax hj)).1
 have e:=tj (bK _) mx my z
 rw[e]at hi
 have hil:=(am.mp hi)
 have hjl:=(am.mp hj)
 have:=(List.getElem_inj nd).mp (hil.2.trans hjl.2.symm)
 ac_nf
section
variable{P:aI}{w:aY}{K:PySem.W.Frag}{mg:Str->Option ae}{base:Heap}{f ft D:Addr}{fd dt:aW}
theorem ve:bj ["pattern", "due", "found", "k"] ["pattern", "due"] (aM sS):=⟨rfl,rfl,rfl,by decide+kernel,rfl,by decide+kernel,by decide+kernel⟩
noncomputable def mr(n:Nat):im:=λas G Q=>∃p:Pt,as=[jd p,.int (nT [97] p 0 1:Nat)]/\Cs [97] p/\(∀q∈makes p,EA q)/\depth p<=n/\depth p<=40/\nT [97] p 0 1<=200/\∀G',GE G G'->Q (.bl true) G'
theorem Au{n k:Nat}(F:Fun K "_law_listed" "_law_listed" sS f fd)(B:BN mg)(CT:rA P w K mg base D k "trees" ft dt ["pattern", "text"] (z7 n)):iz P w K mg base (k+1) f fd ["pattern", "due"] (mr n):=by
 have nd:=ve.nd
 refine jY F ve (λvs G Q h=> ?_) (λcdv A outer s H E as G Q hr h=> ?_)
 ·obtain⟨_,rfl,_⟩:=h
  rfl
 have hU:=eI hr
 apply jc
 case a=>symm
 obtain⟨p,rfl,cs,har,hd,hd40,h200,q⟩:=h
 left
 have ea:a9 "a" =oi [97]:=rfl
 rw[ea]
 refine⟨p,[97],rfl,cs,har,hd,λ_ c G1 hc gc ge=> ?_,λh=>absurd h (by show¬200<nT [97] p 0 1;ac_nf)⟩
 have hwl:(nH [97] p).length=nT [97] p 0 1:=md [97] p
 exists qR (ty:= "list") (by show Ib (.ref c) G1=_;unfold Ib;simp only[gc]) (by decide) ?_
 refine ji rfl ?_
 exists mG (aV gc) ?_
 rw[ap,hwl]
 exists vB rfl rfl ?_
 refine ji (by simp[i3]) ?_
 exists⟨⟨by ac_nf,by ac_nf,by ac_nf,by ac_nf⟩,?_⟩
 refine⟨λi τ G2=>∃t3:Option PV,τ=[some (jd p),some (.int (nT [97] p 0 1:Nat)),some (.ref c),t3]/\GE G1 G2,⟨none,rfl,GE.refl⟩,?_,?_,?_⟩
 ·intros;trivial
 ·rintro i x τ G2 hx ⟨t3,rfl,kq⟩
  have hil:=(am.mp hx).1
  have hx2:x= .int ((i+1:Nat):Int)/\i+1<nT [97] p 0 1:=by
   unfold ir at hx hil
   rw[ap,pP]at hil
   rw[aF,cX hil]at hx
   cases hx
   refine⟨?_,by ac_nf⟩
   show PV.int (1+(i:Int))=_
   rw[show(1:Int)+(i:Int)=((i+1:Nat):Int)by ac_nf]
  obtain⟨rfl,hi1⟩:=hx2
  obtain⟨y,hy⟩:∃y,(nH [97] p)[i+1]? =some y:=⟨_,al (by ac_nf)⟩
  have gc2:=kq _ _ gc
  exists cQ (x:=gG y.1) (aV gc2) (bS (by rw[aF,hy];rfl)) ?_
  exists Ho (aV gc2) λsl hsl=> ?_
  have hcut:q9 ((nH [97] p).map λt=>gG t.1) none (some ((i+1:Nat):Int))=((nH [97] p).take (i+1)).map λt=>gG t.1:=by
   unfold q9
   rw[HT.sIx_none,HT.sIx_nat,ap,iR (by ac_nf),Nat.sub_zero,List.drop_zero,oH]
  rw[hcut]
  exists M5 iT (pV hd40 y (ax hy)) (sk _ λx hx=> ?_) (λx hx=> ?_) ?_
  ·obtain⟨t,ht,rfl⟩:=ay.mp hx
   exact pV hd40 t (eL ht)
  ·obtain⟨t,ht,rfl⟩:=ay.mp hx
   obtain⟨j,hj⟩:=fI.mp ht
   rw[oX]at hj
   split at hj
   ·exact GL (EE hj hy (by ac_nf))
   ·cases hj
  ·refine ji rfl ?_
   exact⟨_,rfl,kq.new hsl⟩
 ·rintro τ G2 ⟨t3,rfl,kq⟩
  exact⟨_,GE.refl,q _ (ge.trans kq)⟩
end
noncomputable abbrev HV:Stmt:=top 36
section
variable{P:aI}{w:aY}{K:PySem.W.Frag}{mg:Str->Option ae}{base:Heap}{f ft D c1:Addr}{fd dt:aW}
theorem Hs:bj ["pattern", "text", "right", "e"] ["pattern", "text"] (aM HV):=⟨rfl,rfl,rfl,by decide+kernel,rfl,by decide+kernel,by decide+kernel⟩
noncomputable def yD(n:Nat):im:=λas G Q=>∃(p:Pt) (T:List Nat),as=[jd p,.str (oi T)]/\Cs T p/\(∀q∈makes p,EA q)/\depth p<=n/\200<nT T p 0 T.length/\Q (.bl true) G
theorem M3{x c:Addr}{b:Bool}{G:Gp}{Q:K2}(h:G x=some (.exc D))(xk:rP K D)(k:PySem.W.kitOne K (.ref D) (.ref c)=some b)(q:Q (.bl b) G):AS K [.ref x,.ref c] G Q:=⟨D,b,h,xk,k,q⟩
theorem Kt{x:Addr}{T:String}{b:Bool}{G:Gp}{Q:K2}(h:G x=some (.exc D))(xk:rP K D)(k:PySem.W.kitOne K (.ref D) (.type T)=some b)(q:Q (.bl b) G):AS K [.ref x,.ty T] G Q:=⟨D,b,h,xk,k,q⟩
theorem Jh{n k:Nat}(xq:PySem.W.excIn K D Ba "ValueError.__new__" =true)(xu:lN K D D=true)(xk:rP K D)(hD:mg "TooMany" =some (.ref D))(hM:mg "NoTree" =some (.ref c1))(hV:mg "ValueError" =none)(kV:PySem.W.kitOne K (.ref D) (.type "ValueError")=some true)(kM:PySem.W.kitOne K (.ref D) (.ref c1)=some false)(F:Fun K "_law_refused" "_law_refused" HV f fd)(B:BN mg)(CT:rA P w K mg base D k "trees" ft dt ["pattern", "text"] (z7 n)):iz P w K mg base (k+1) f fd ["pattern", "text"] (yD n):=by
 have nd:=Hs.nd
 refine jY F Hs (λvs G Q h=> ?_) (λcdv A outer s H E as G Q hr h=> ?_)
 ·obtain⟨_,_,rfl,_⟩:=h
  rfl
 have hU:=eI hr
 apply jc
 case a=>symm
 obtain⟨p,T,rfl,cs,har,hd,hn,q⟩:=h
 exists⟨p,T,rfl,cs,har,hd,λh=>absurd hn (by ac_nf),λ_ G' ge x hx=> ?_⟩
 left
 have x5:up G' x (.exc D) x=some (.exc D):=ao
 refine Kt (K:=K) x5 xk kV ?_
 exists iU rfl ?_
 exists M3 (K:=K) x5 xk kM ?_
 left
 exact⟨G,ge.new hx,q⟩
end
noncomputable abbrev sU:Stmt:=top 35
noncomputable abbrev Br:Stmt:=top 9
theorem dI{G:Gp}{a l:Addr}(p:Pool G a)(h:G l=none):l≠a:=λe=>by
 obtain⟨o,z⟩:=p.some
 subst e;rw[h]at z;cases z
theorem KS{A B:List (List Pt)}{more:Nat}(h:Bt A B more):∀q∈makes (blt A B more),EA q:=λq hq=>by
 have hp:=qy h
 have h4:=h.l4
 have h1:=h.l1
 have h3:=h.m3
 have hr:EA (.row (cu A B)):=⟨by ac_nf,by ac_nf⟩
 rcases oE h hq with rfl|rfl|⟨qs,hqs,rfl⟩|hb|rfl|rfl
 ·unfold blt
  split
  ·exact hr
  ·exact⟨by simp,by simp;ac_nf⟩
 ·exact hr
 ·have:=(h.all qs hqs).2
  exact⟨by ac_nf,by ac_nf⟩
 ·rcases hb with rfl|rfl|rfl<;>trivial
 ·trivial
 ·trivial
theorem NH{q:Pt}(h:K3 q=true):EA q:=by
 cases q with
 |row ps=>exact of_decide_eq_true (p:=1<=ps.length/\ps.length<=6) h
 |pick ps=>exact of_decide_eq_true (p:=1<=ps.length/\ps.length<=6) h
 |_=>trivial
theorem v7(a b:List Pt):bJ (a++b)=bJ a++bJ b:=by rw[dA,dA,dA,aS]
theorem A0(q:Pt)(n:Nat):bJ (aj n q)=aj n (jd q):=by rw[dA,List.map_replicate]
theorem y4(x:PV):∀n,(aj n [x]).flatten=aj n x
 |0=>rfl
 |n+1=>by rw[bf,cx,y4 x n];rfl
theorem AV{qss:List (List Pt)}{i:Nat}(hi:i<=qss.length):vW (bJ (qss.map Pt.pick)) i (jd (.sign "a"))=bJ (cu (qss.take i) (qss.drop i)):=by
 unfold cu vW
 rw[v7,dA,dA,oH,oH,dA]
 simp
section
variable{P:aI}{w:aY}{K:PySem.W.Frag}{mg:Str->Option ae}{base:Heap}{f fn fi fb fm CC:Addr}{fd dn di db dm:aW}
theorem yT:bj ["pool", "counts", "more", "parts", "found"] ["pool", "counts", "more"] (aM sU):=⟨rfl,rfl,rfl,by decide+kernel,rfl,by decide+kernel,by decide+kernel⟩
theorem GR:fq (aM sU) ["pool", "counts", "more", "parts", "found"] (jI [(".0",.local),("count",.local),("_law_blanks",.globalImplicit),("pool",.free),("len",.globalImplicit),("counts",.free)]) ["count", "pool", "counts"] [none,some 0,some 1] 0 "count" =true:=by decide+kernel
noncomputable def tI:im:=λps G Q=>∃(a c:Addr) (ns:List Nat) (more:Nat),ps=[.ref a,.ref c,.int (more:Int)]/\Pool G a/\c≠a/\G c=some (.lst (ns.map cI))/\(∀n∈ns,2<=n/\n<=6)/\1<=ns.length/\ns.length<=4/\more<=3/\
 ∀A B G',Bt A B more->(A++B).map cG=ns->Pool G' a->Ch [a] G G'->Q (jd (blt A B more)) G'
theorem CV(F:Fun K "_law_built" "_law_built" sU f fd)(B:BN mg)(CN:dC P w K mg base 1 "_law_next" fn dn ["pool", "base"] kA)(CB:dC P w K mg base 2 "_law_blanks" fb db ["pool", "count", "few"] ql):iz P w K mg base 3 f fd ["pool", "counts", "more"] tI:=by
 have nd:=yT.nd
 have hUE:=Bc.mk
 refine jY F yT (λvs G Q h=> ?_) (λcdv A outer s H E as G Q hr h=> ?_)
 ·obtain⟨_,_,_,_,rfl,_⟩:=h
  rfl
 have hU:=eI hr
 apply jc
 case a=>
  symm
  all_goals try (refine' pI (n:=3) nd rfl rfl GR rfl ?_ (λ_ _ _ _=>⟨?_,?_⟩))
  all_goals symm
 obtain⟨a,c,ns,more,rfl,hp,nca,gc,hns,l1,l4,m3,q⟩:=h
 left
 rw[aV gc]
 left
 intro acc hacc
 have nac:acc≠a:=dI hp hacc
 have ncc:c≠acc:=aZ gc hacc
 refine⟨λi ys Gi=>∃qss:List (List Pt),ys=bJ (qss.map Pt.pick)/\(∀qs∈qss,∀q∈qs,bk q)/\qss.map cG=ns.take i/\Pool Gi a/\Gi acc=some (.lst ys)/\Gi c=some (.lst (ns.map cI))/\Ch [a] G Gi,⟨[],rfl,by simp,by simp,hp.new hacc,ao,by rw[aL ncc];exact gc,Ch.refl.new hacc⟩,?_,?_,?_⟩
 ·rintro i ys Gi hi ⟨qss,rfl,hb,hl,p1,ga,gci,ch1⟩
  refine⟨aV gci,ga,?_⟩
  have h1:=congrArg cG hl
  rw[ap,bb]at h1
  rw[cR,ap]
  ac_nf
 ·rintro i ys Gi x hx ⟨qss,rfl,hb,hl,p1,ga,gci,ch1⟩
  rw[aF]at hx
  cases hn:ns[i]? with
  |none=>rw[hn]at hx;cases hx
  |some n=>
   rw[hn]at hx
   obtain rfl:cI n=x:=by simpa using hx
   have hn2:=hns n (ax hn)
   refine iU rfl ?_
   exists mG (aV gci) ?_
   exists⟨a,n,_,rfl,p1,by ac_nf,by ac_nf,λqs G2 l2 b2 p2 ch2=> ?_⟩
   have ga2:=ch2 acc _ (by simpa using nac) ga
   refine⟨ga2,qss++[qs],?_,?_,?_,p2.ne nac,ao,?_,(ch1.trans ch2).mod' hacc⟩
   ·rw[aS,v7];rfl
   ·intro qs' hq
    rcases aR.mp hq with hq|hq
    ·exact hb qs' hq
    ·cases au.mp hq;exact b2
   ·rw[aS,hl,bZ,hn,<-l2];rfl
   ·rw[aL ncc];exact ch2 c _ (by simpa using nca) gci
 ·rintro ys Gi ⟨qss,rfl,hb,hl,p1,ga,gci,ch1⟩
  rw[ap,bD]at hl
  have hlen:qss.length=ns.length:=by rw[<-hl,ap]
  have hq6:∀qs∈qss,2<=qs.length/\qs.length<=6:=λqs hq=>hns _ (by rw[<-hl];exact ay.mpr ⟨qs,hq,rfl⟩)
  exists⟨⟨_,ga⟩,?_⟩
  exists mG (aV ga) ?_
  rw[cR,ap]
  exists jK ?_
  exists⟨a,_,rfl,p1,by ac_nf,i8 (show((qss.length:Nat):Int)+1<=5 by ac_nf) (by decide),λm G2 m0 m1 p2 ch2=> ?_⟩
  obtain⟨k,rfl⟩:∃k:Nat,m=(k:Int):=⟨m.toNat,by ac_nf⟩
  have hk:k<=qss.length:=by ac_nf
  have ga2:=ch2 acc _ (by simpa using nac) ga
  exists⟨dE,?_⟩
  refine DH (y:=jd (.sign "a")) ga2 (by rw[cR,ap];exact hk) (by rw[cR,ap];ac_nf) ?_
  rw[AV hk]
  have bt:Bt (qss.take k) (qss.drop k) more:=⟨λqs h=>hb qs (eL h),λqs h=>hb qs (List.mem_of_mem_drop h),λqs h=>hq6 qs (eL h),λqs h=>hq6 qs (List.mem_of_mem_drop h),by rw[bb,fV];ac_nf,by rw[bb,fV];ac_nf,m3⟩
  have p3:=p2.ne (o:= .lst (bJ (cu (qss.take k) (qss.drop k)))) nac
  have c3:Ch [a] G (up G2 acc (.lst (bJ (cu (qss.take k) (qss.drop k))))):=(ch1.trans ch2).mod' hacc
  have q':=q (qss.take k) (qss.drop k) _ bt (by rw[er];exact hl) p3 c3
  exists iX iT ?_
  refine⟨dE,?_⟩
  left
  by_cases hm:more=0
  ·subst hm
   refine ji rfl ?_
   exact⟨_,GE.refl,q'⟩
  ·refine iU (decide_eq_true (show((more:Nat):Int)>0 by ac_nf)) ?_
   have e:jd (blt (qss.take k) (qss.drop k) more)= .tup [.str "pick",.tup ([.tup [.str "row",.tup (bJ (cu (qss.take k) (qss.drop k)))]]++(aj more [PV.tup [.str "sign",.str "a"]]).flatten)]:=by
    unfold blt
    rw[if_neg hm,y4]
    show PV.tup [.str "pick",.tup (bJ (.row (cu (qss.take k) (qss.drop k))::aj more (.sign "a")))]=_
    rw[show bJ (.row (cu (qss.take k) (qss.drop k))::aj more (.sign "a"))=jd (.row (cu (qss.take k) (qss.drop k)))::bJ (aj more (.sign "a"))from rfl,A0]
    rfl
   rw[e]at q'
   exists⟨dE,?_⟩
   exists⟨dE,dE,?_⟩
   refine⟨by simp,by show(1:Int)<=more;ac_nf,by show 1*more<=_;ac_nf,by show(more:Int)<=_;ac_nf,?_⟩
   refine zO (by rw[nA];simp;ac_nf) ?_
   refine⟨dE,?_⟩
   exact⟨_,GE.refl,q'⟩
theorem BX:bj ["pattern", "text"] ["pattern", "text"] (aM Br):=⟨rfl,rfl,rfl,by decide+kernel,rfl,by decide+kernel,by decide+kernel⟩
noncomputable def tF:im:=λps G Q=>∃(T:List Nat) (p:Pt),ps=[jd p,.str (oi T)]/\Cs T p/\Q (.int (nT T p 0 T.length:Nat)) G
theorem Fz(MC:Ev P w K mg base "Counts" CC fi di 4 ["self", "pattern", "text"] (nU CC))(F:Fun K "many" "many" Br f fd)(B:BN mg)(MT:dF P w K mg base CC 1 "total" fm dm ["self"] (mq CC)):iz P w K mg base 6 f fd ["pattern", "text"] tF:=by
 have nd:=BX.nd
 refine jY F BX (λvs G Q h=> ?_) (λcdv A outer s H E as G Q hr h=> ?_)
 ·obtain⟨_,_,rfl,_⟩:=h
  rfl
 have hU:=eI hr
 apply jc
 case a=>symm
 obtain⟨T,p,rfl,cs,q⟩:=h
 left
 intro x dx hx hdx ndx
 refine⟨x,dx,T,p,rfl,ao,cs,λG' m pa tb ts ch tb'=>⟨rfl,?_⟩⟩
 exists⟨⟨x,dx,_,rfl,tb'.ins,rfl⟩,?_⟩
 refine⟨x,dx,m,pa,tb,ts,T,p,rfl,cs,tb',?_⟩
 refine⟨G,λb o hb=> ?_,q⟩
 have ne:b≠x:=aZ hb hx
 exact ch b o (by simpa using ne) (by rw[aL ne];exact hb)
end
noncomputable abbrev HY:Stmt:=top 38
noncomputable abbrev OC:List Str:=["pool", "count", "size", "one", "other", "parts", "pattern", "text", "due", "k", "found", "at"]
section
variable{P:aI}{w:aY}{K:PySem.W.Frag}{mg:Str->Option ae}{base:Heap}{f fn fi ft fa fb fm D D2:Addr}{fd dn di dt da dp db dm:aW}
theorem Hx:bj OC ["pool", "count", "size"] (aM HY):=⟨rfl,rfl,rfl,by decide+kernel,rfl,by decide+kernel,by decide+kernel⟩
noncomputable def BO:im:=λps G Q=>∃(a:Addr) (c n:Nat),ps=[.ref a,.int (c:Int),.int (n:Int)]/\Pool G a/\2<=c/\c<=4/\n∈[0,1,2,3,4,5,6,9]/\∀G',Pool G' a->Ch [a] G G'->Q (.bl true) G'
theorem Jk{k:Nat}(hk:20<=k)(F:Fun K "_law_agains" "_law_agains" HY f fd)(B:BN mg)(CN:dC P w K mg base 1 "_law_next" fn dn ["pool", "base"] kA)(CM:dC P w K mg base 6 "many" fm dm ["pattern", "text"] tF)(CR:dC P w K mg base k "_law_refused" fi di ["pattern", "text"] (yD 5))(CT:rA P w K mg base D k "trees" ft dt ["pattern", "text"] (z7 5))(CU:dC P w K mg base k "number_of" fb db ["pattern", "tree"] (sd 5))(CA:rA P w K mg base D2 k "tree_at" fa da ["pattern", "text", "k"] (z8 5)):iz P w K mg base (k+1) f fd ["pool", "count", "size"] BO:=by
 have nd:=Hx.nd
 have hUE:=Bc.mk
 refine jY F Hx (λvs G Q h=> ?_) (λcdv A outer s H E as G Q hr h=> ?_)
 ·obtain⟨_,_,_,rfl,_⟩:=h
  rfl
 have hU:=eI hr
 apply jc
 case a=>symm
 obtain⟨a,c,n,rfl,hp,c2,c4,hn,q⟩:=h
 have n9:n<=9:=by
  simp only[aD,bi,or_false]at hn
  ac_nf
 exists⟨dE,dE,dE,dE,λl0 hl0=> ?_⟩
 exists⟨a,3,rfl,hp.new hl0,by decide,by decide,λm G1 m0 m1 p1 ch1=> ?_⟩
 have nl0:l0≠a:=dI hp hl0
 have g1:=ch1 l0 _ (by simpa using nl0) ao
 have c1:Ch [a] G G1:=(Ch.refl.new hl0).trans ch1
 obtain⟨x,ex,mx⟩:=Ei (xs:=[PV.tup [.str "a",.str "b"],.tup [.str "~",.str " "],.tup [.str "b",.str "a"]]) m0 m1
 exists cQ (aV g1) ex ?_
 obtain⟨o,p',rfl,hop⟩:∃o p':Str,x= .tup [.str o,.str p']/\(o,p')∈Df:=by
  simp only[aD,bi,or_false]at mx
  rcases mx with rfl|rfl|rfl
  all_goals exact⟨_,_,rfl,by decide⟩
 clear ex g1
 obtain⟨eT,lo,lp,lr⟩:=K4 hop hn
 have af:=En hop c2 c4 hn
 have har:∀q∈makes (pO o p' c),EA q:=λq hq=>NH (af.ar q hq)
 exists⟨dE,dE,dE,?_⟩
 refine⟨by simp,by show(1:Int)<=c;ac_nf,by show 1*c<=_;ac_nf,by show(c:Int)<=_;ac_nf,?_⟩
 rw[bL]
 exists⟨dE,dE,?_⟩
 refine zO (by rw[nA];simp;ac_nf) ?_
 refine⟨dE,?_⟩
 rw[Hc]
 exists⟨by ac_nf,by ac_nf,by ac_nf,?_⟩
 refine Hd (by ac_nf) ?_
 rw[eT]
 exists jK ?_
 exists⟨⟨by ac_nf,by ac_nf,by ac_nf,by ac_nf⟩,?_⟩
 refine⟨λi τ G2=>∃t9:Option PV,τ=[some (.ref a),some (.int (c:Int)),some (.int (n:Int)),some (.str o),some (.str p'),some (.tup (aj c [PV.tup [.str "again",.tup [.str "sign",.str o]]]).flatten),some (jd (pO o p' c)),some (.str (oi (oF o p' n))),some (.int (kY n i:Nat)),t9,none,none]/\G2=G1,⟨none,rfl,rfl⟩,?_,?_,?_⟩
 ·intros;trivial
 ·rintro i x τ G2 hx ⟨t9,rfl,rfl⟩
  have hil:=(am.mp hx).1
  obtain⟨rfl,hi2⟩:x= .int ((i+2:Nat):Int)/\i+2<c:=by
   unfold ir at hx hil
   rw[ap,pP]at hil
   rw[aF,cX hil]at hx
   cases hx
   refine⟨?_,by ac_nf⟩
   show PV.int (2+(i:Int))=_
   rw[show(2:Int)+(i:Int)=((i+2:Nat):Int)by ac_nf]
  exists jK ?_
  exists⟨.inr ⟨by ac_nf,by ac_nf⟩,?_⟩
  exists⟨⟨by ac_nf,i8 (show((i+2:Nat):Int)<=4 by ac_nf) (by decide)⟩,?_⟩
  refine⟨some (.int ((i+2:Nat):Int)),?_,rfl⟩
  have e:(((kY n i:Nat):Int)*((n:Int)+((i+2:Nat):Int))/((i+2:Nat):Int))=((kY n (i+1):Nat):Int):=by
   show _=((kY n i*(n+(i+2))/(i+2):Nat):Int)
   rw[Int.natCast_ediv,lx,gL n (i+2)]
  rw[<-e]
 rintro τ G2 ⟨t9,rfl,rfl⟩
 have hil:(ir 2 ((c:Int)-2).toNat).length=c-2:=by unfold ir;simp;ac_nf
 rw[hil]
 have dpos:=wa n (c-2)
 have dle:=GO n9 (c-2) (by ac_nf)
 have hnt:=af.nt
 generalize hdd:kY n (c-2)=due at dpos dle hnt⊢
 exists⟨oF o p' n,pO o p' c,rfl,af.cs,?_⟩
 rw[hnt]
 exists vB rfl rfl ?_
 refine ji (by simp[i3]) ?_
 left
 by_cases h200:200<due
 ·refine iU (decide_eq_true (show((due:Nat):Int)>200 by ac_nf)) ?_
  exists⟨pO o p' c,oF o p' n,rfl,af.cs,har,af.dp,by rw[hnt];exact h200,?_⟩
  exact⟨_,GE.refl,q _ p1 c1⟩
 refine ji (decide_eq_false (show¬((due:Nat):Int)>200 by ac_nf)) ?_
 exists⟨pO o p' c,oF o p' n,rfl,af.cs,har,af.dp,λ_ l1 G3 hl1 g3 ge3=> ?_,λh=>absurd h (by rw[hnt];exact h200)⟩
 have hwl:(nH (oF o p' n) (pO o p' c)).length=due:=(md _ _).trans hnt
 have p3:Pool G3 a:=by
  obtain⟨x,y,z,h,hx⟩:=p1
  exact⟨x,y,z,ge3 _ _ h,hx⟩
 have c3:Ch [a] G G3:=c1.trans ge3.ch
 exists qR (ty:= "list") (by show Ib (.ref l1) G3=_;unfold Ib;simp only[g3]) (by decide) ?_
 refine ji rfl ?_
 exists mG (aV g3) ?_
 rw[ap,hwl]
 exists vB rfl rfl ?_
 refine ji (by simp[i3]) ?_
 exists⟨a,_,rfl,p3,by ac_nf,i8 (show((due:Nat):Int)<=10000 by ac_nf) (by decide),λm G4 m0 m1 p4 ch4=> ?_⟩
 obtain⟨at',rfl⟩:∃k:Nat,m=(k:Int):=⟨m.toNat,by ac_nf⟩
 have nl1:l1≠a:=dI p1 hl1
 have g4:=ch4 l1 _ (by simpa using nl1) g3
 obtain⟨⟨t,e⟩,ht⟩:∃t,(nH (oF o p' n) (pO o p' c))[at']? =some t:=⟨_,al (by ac_nf)⟩
 obtain⟨h1,h2⟩:=cL.mp (ax ht)
 obtain rfl:e=(oF o p' n).length:=by simpa using h2
 have hfin:=af.fn _ (ax ht)
 have htc:tz t=oF o p' n:=by
  have h3:=ju (oF o p' n) (pO o p' c) 0 _ h1
  simpa using h3
 have hat:oV ((nH (oF o p' n) (pO o p' c)).map λt=>gG t.1) (at':Int)=some (gG t):=bS (by rw[aF,ht];rfl)
 have htp:=pV (aO af.dp (by decide)) _ (ax ht)
 exists cQ (aV g4) hat ?_
 exists⟨pO o p' c,oF o p' n,t,at',rfl,af.cs,har,af.dp,ht,hfin,htc,?_⟩
 exists iV rfl rfl ?_
 refine iU (by simp[i3]) ?_
 exists⟨pO o p' c,oF o p' n,(at':Int),rfl,af.cs,har,af.dp,λt' h0 ht'=> ?_,λh=>by exfalso;rw[hnt]at h;ac_nf⟩
 rw[bL]at ht'
 change (nH (oF o p' n) (pO o p' c))[at']? =some t' at ht'
 rw[ht]at ht'
 cases ht'
 exists cQ (aV g4) hat ?_
 exists iV htp htp ?_
 rw[wg 100 _ htp]
 exact⟨_,GE.refl,q _ p4 (c3.trans ch4)⟩
end
noncomputable abbrev wN:Stmt:=top 39
noncomputable abbrev Jv:List Str:=["pool", "counts", "more", "pattern", "due", "count", "k"]
section
variable{P:aI}{w:aY}{K:PySem.W.Frag}{mg:Str->Option ae}{base:Heap}{f fn fi ft fa fb fm D2:Addr}{fd dn di dt da db dm:aW}
theorem yR:bj Jv ["pool", "counts", "more"] (aM wN):=⟨rfl,rfl,rfl,by decide+kernel,rfl,by decide+kernel,by decide+kernel⟩
noncomputable def tH:im:=λps G Q=>∃(a c:Addr) (ns:List Nat) (more:Nat),ps=[.ref a,.ref c,.int (more:Int)]/\Pool G a/\c≠a/\G c=some (.lst (ns.map cI))/\(∀n∈ns,2<=n/\n<=6)/\1<=ns.length/\ns.length<=4/\more<=3/\∀G',Pool G' a->Ch [a] G G'->Q (.bl true) G'
theorem Cd(l:List Nat)(n:Nat):mB (l++[n])=mB l*n:=by
 rw[qv]
 show mB l*(n*1)=_
 rw[Nat.mul_one]
theorem y8:∀{l:List Nat},(∀n∈l,2<=n)->1<=mB l
 |[],_=>av _
 |n::l,h=>by
  have h1:=h n (by simp)
  have h2:=y8 λx hx=>h x (bH n hx)
  show 1<=n*mB l
  exact aO (by ac_nf:1<=n*1) (Nat.mul_le_mul_left n h2)
theorem CS {k : Nat} (hk : 20 <= k) (F : Fun K "_law_holds" "_law_holds" wN f fd) (B : BN mg) (CB : dC P w K mg base 3 "_law_built" fn dn ["pool", "counts", "more"] tI) (CM : dC P w K mg base 6 "many" fm dm ["pattern", "text"] tF) (CR : dC P w K mg base k "_law_refused" fi di ["pattern", "text"] (yD 5)) (CL : dC P w K mg base k "_law_listed" ft dt ["pattern", "due"] (mr 5)) (CU : dC P w K mg base k "number_of" fb db ["pattern", "tree"] (sd 5)) (CA : rA P w K mg base D2 k "tree_at" fa da ["pattern", "text", "k"] (z8 5)) : iz P w K mg base (k + 1) f fd ["pool", "counts", "more"] tH := by
 have nd:=yR.nd
 have hUE:=Bc.mk
 refine jY F yR (λvs G Q h=> ?_) (λcdv A outer s H E as G Q hr h=> ?_)
 ·obtain⟨_,_,_,_,rfl,_⟩:=h
  rfl
 have hU:=eI hr
 apply jc
 case a=>symm
 obtain⟨a,c,ns,more,rfl,hp,nca,gc,hns,l1,l4,m3,q⟩:=h
 exists⟨a,c,ns,more,rfl,hp,nca,gc,hns,l1,l4,m3,λA' B' G1 bt hlen p1 ch1=> ?_⟩
 have gc1:=ch1 c _ (by simpa using nca) gc
 have cs:=KR bt
 have har:=KS bt
 have hd:=(rh bt).2.1
 have hnt:=KQ bt
 have hpd:=bt.prd6
 rw[hlen]at hnt hpd
 have hpos:1<=mB ns:=y8 λn hn=>(hns n hn).1
 have hfin:∀(i:Nat) (t:Tr×Nat),(nH [97] (blt A' B' more))[i]? =some t->t.2=1/\fine 10000 t.1/\tz t.1=[97]:=λi t ht=>by
  obtain⟨h1,h2⟩:=cL.mp (ax ht)
  have h2:t.2=1:=by simpa using h2
  refine⟨h2,(iC (T:=[97]) (by decide) _ (rh bt).2.2 0 (by decide) _ h1).mono (aO (mM hd) (by decide)),?_⟩
  have h3:=ju [97] (blt A' B' more) 0 _ h1
  rw[h2]at h3
  simpa using h3
 generalize blt A' B' more=pt at*
 left
 rw[aV gc1]
 exists⟨λi τ G2=>∃t5:Option PV,τ=[some (.ref a),some (.ref c),some (.int (more:Int)),some (jd pt),some (.int (mB (ns.take i):Nat)),t5,none]/\G2=G1,⟨none,rfl,rfl⟩,?_,?_,?_⟩
 ·rintro i τ G2 _ ⟨t5,rfl,rfl⟩
  exact aV gc1
 ·rintro i x τ G2 hx ⟨t5,rfl,rfl⟩
  rw[aF]at hx
  cases hn:ns[i]? with
  |none=>rw[hn]at hx;cases hx
  |some n=>
   rw[hn]at hx
   obtain rfl:cI n=x:=by simpa using hx
   have hn2:=hns n (ax hn)
   exists⟨.inr ⟨by show-(2^64)<(n:Int);ac_nf,by show(n:Int)<2^64;ac_nf⟩,?_⟩
   refine⟨some (cI n),?_,rfl⟩
   have e:((mB (ns.take i):Nat):Int)*(n:Int)=((mB (ns.take (i+1)):Nat):Int):=by
    rw[bZ,hn]
    show _=((mB (ns.take i++[n]):Nat):Int)
    rw[Cd,lx]
   rw[<-e]
 rintro τ G2 ⟨t5,rfl,rfl⟩
 rw[ap,bD]
 exists jK ?_
 rw[show((mB ns:Nat):Int)+(more:Int)=((mB ns+more:Nat):Int)by rw[gL]]
 generalize hdd:mB ns+more=due at hnt⊢
 have hdl:due<=1299:=by ac_nf
 have hdp:1<=due:=by ac_nf
 have ea:a9 "a" =oi [97]:=rfl
 left
 rw[ea]
 refine⟨[97],pt,rfl,cs,?_⟩
 have hnt':nT [97] pt 0 [97].length=due:=hnt
 rw[hnt']
 exists vB rfl rfl ?_
 refine ji (by simp[i3]) ?_
 left
 have rest:EQ (NR (Hm (wB (jU Mm (eV 4) (eC (PV.int 200)))) (tNo (wB (v9 (mr 5) (dQ (eV 3) (dQ (eV 4) pe)))))) (Ac (eC (PV.bl false))) vi)
   (EQ (Iy (OK (KD (dQ (eC (PV.int 0)) (dQ (jU zE (eV 4) (eC (PV.int 2))) (dQ (jU uQ (eV 4) (eC (PV.int 1))) (dQ (v8 qF (dQ (jU uQ (eV 4) (eC (PV.int 1))) (dQ (eC (PV.int 199)) pe))) (dQ (v8 qF (dQ (jU uQ (eV 4) (eC (PV.int 1))) (dQ (eC (PV.int 200)) pe))) pe))))))) (L3.gN 6)
    (NR (wB (jU Le (v9 (sd 5) (dQ (eV 3) (dQ (uk (z8 5) (λx=>False) (dQ (eV 3) (dQ (eC (PV.str (oi [97]))) (dQ (eV 6) pe)))) pe))) (eV 6))) (Ac (eC (PV.bl false))) vi)) (Ac (eC (PV.bl true))))
   {nx:=λx G'=>∃G0,GE G0 G'/\Q PV.non G0,rt:=λp G'=>∃G0,GE G0 G'/\Q p G0} [some (PV.ref a),some (PV.ref c),some (PV.int (more:Int)),some (jd pt),some (PV.int (due:Int)),t5,none] G2:=by
  have main:∀G2:Gp,Pool G2 a->Ch [a] G G2->EQ (Iy (OK (KD (dQ (eC (PV.int 0)) (dQ (jU zE (eV 4) (eC (PV.int 2))) (dQ (jU uQ (eV 4) (eC (PV.int 1))) (dQ (v8 qF (dQ (jU uQ (eV 4) (eC (PV.int 1))) (dQ (eC (PV.int 199)) pe))) (dQ (v8 qF (dQ (jU uQ (eV 4) (eC (PV.int 1))) (dQ (eC (PV.int 200)) pe))) pe))))))) (L3.gN 6)
    (NR (wB (jU Le (v9 (sd 5) (dQ (eV 3) (dQ (uk (z8 5) (λx=>False) (dQ (eV 3) (dQ (eC (PV.str (oi [97]))) (dQ (eV 6) pe)))) pe))) (eV 6))) (Ac (eC (PV.bl false))) vi)) (Ac (eC (PV.bl true)))
   {nx:=λx G'=>∃G0,GE G0 G'/\Q PV.non G0,rt:=λp G'=>∃G0,GE G0 G'/\Q p G0} [some (PV.ref a),some (PV.ref c),some (PV.int (more:Int)),some (jd pt),some (PV.int (due:Int)),t5,none] G2:=by
   intro G2 p1 ch1
   exists⟨⟨by ac_nf,by decide⟩,?_⟩
   exists⟨dE,λl0 hl0=> ?_⟩
   have ok5:∀x∈[PV.int 0,PV.int ((due:Int)/2),PV.int ((due:Int)-1),PV.int (if(199:Int)<(due:Int)-1 then 199 else(due:Int)-1),PV.int (if(200:Int)<(due:Int)-1 then 200 else(due:Int)-1)],∃j:Nat,x= .int (j:Int)/\j<due:=λx hx=>by
    simp only[aD,bi,or_false]at hx
    rcases hx with rfl|rfl|rfl|rfl|rfl
    ·exact⟨0,rfl,by ac_nf⟩
    ·exact⟨due/2,by rw[Int.natCast_ediv];rfl,by ac_nf⟩
    ·exact⟨due-1,by rw[Int.natCast_sub hdp];rfl,by ac_nf⟩
    ·split
     ·exact⟨199,rfl,by ac_nf⟩
     ·exact⟨due-1,by rw[Int.natCast_sub hdp];rfl,by ac_nf⟩
    ·split
     ·exact⟨200,rfl,by ac_nf⟩
     ·exact⟨due-1,by rw[Int.natCast_sub hdp];rfl,by ac_nf⟩
   left
   rw[iT]
   exists⟨λi τ G3=>∃t6:Option PV,τ=[some (PV.ref a),some (PV.ref c),some (PV.int (more:Int)),some (jd pt),some (PV.int (due:Int)),t5,t6]/\G3=up G2 l0 (.lst [PV.int 0,PV.int ((due:Int)/2),PV.int ((due:Int)-1),PV.int (if(199:Int)<(due:Int)-1 then 199 else(due:Int)-1),PV.int (if(200:Int)<(due:Int)-1 then 200 else(due:Int)-1)]),⟨_,rfl,rfl⟩,?_,?_,?_⟩
   ·rintro i τ G3 _ ⟨t6,rfl,rfl⟩
    exact iT
   ·rintro i x τ G3 hx ⟨t6,rfl,rfl⟩
    obtain⟨j,rfl,hj⟩:=ok5 x (ax hx)
    obtain⟨t,ht⟩:∃t,(nH [97] pt)[j]? =some t:=⟨_,al (by rw[md];show j<nT [97] pt 0 1;ac_nf)⟩
    obtain⟨he,hf,hc⟩:=hfin j t ht
    exists⟨pt,[97],(j:Int),rfl,cs,har,hd,λt' h0 ht'=> ?_,λh=>by exfalso;rw[hnt']at h;ac_nf⟩
    rw[bL]at ht'
    change (nH [97] pt)[j]? =some t' at ht'
    rw[ht]at ht'
    cases ht'
    exists⟨pt,[97],t.1,j,rfl,cs,har,hd,?_,hf,hc,?_⟩
    ·rw[ht]
     obtain⟨t1,t2⟩:=t
     dsimp only at he
     rw[he]
     rfl
    exists vB rfl rfl ?_
    refine ji (by simp[i3]) ?_
    exact⟨_,rfl,rfl⟩
   ·rintro τ G3 ⟨t6,rfl,rfl⟩
    left
    exact⟨up G2 l0 _,GE.refl,q _ (p1.new hl0) (ch1.new hl0)⟩
  left
  by_cases h200:due<=200
  ·refine iU (decide_eq_true (show((due:Nat):Int)<=200 by ac_nf)) ?_
   exists⟨pt,by rw[hnt],cs,har,hd,aO hd (by decide),by rw[hnt];exact h200,λG3 ge3=> ?_⟩
   refine ji rfl ?_
   refine main G3 ?_ (ch1.trans ge3.ch)
   obtain⟨x,y,z,h,hx⟩:=p1
   exact⟨x,y,z,ge3 _ _ h,hx⟩
  ·refine ji (decide_eq_false (show¬((due:Nat):Int)<=200 by ac_nf)) ?_
   exact main _ p1 ch1
 by_cases h200:200<due
 ·refine iU (decide_eq_true (show((due:Nat):Int)>200 by ac_nf)) ?_
  exists⟨pt,[97],rfl,cs,har,hd,by rw[hnt'];exact h200,?_⟩
  refine ji rfl ?_
  exact rest
 ·refine ji (decide_eq_false (show¬((due:Nat):Int)>200 by ac_nf)) ?_
  exact rest
end
noncomputable abbrev wL:Stmt:=top 40
noncomputable abbrev Md:List Str:=["script", "pool", "last", "near", "counts", "more", "cell"]
theorem zP{a:Addr}{xs ys:List PV}{G:Gp}{Q:K2}(h:lk G a=some xs)(hl:xs.length+ys.length<=16000000)(q:∀c,G c=none->Q (.ref c) (up G c (.lst (xs++ys)))):oW (.ref a) (.ro ys) G Q:=K6 h hl q
theorem Ha{α:Type}(xs:List α)(x:α):oV (xs++[x]) (-1)=some x:=by
 unfold oV xK
 rw[if_neg (by ac_nf),if_pos (by simp;ac_nf)]
 show(xs++[x])[(-1+((xs++[x]).length:Int)).toNat]? =some x
 rw[aN,show(-1+((xs.length+[x].length:Nat):Int)).toNat=xs.length by simp;ac_nf]
 simp
theorem tM{G G':Gp}{a b:Addr}(p:Pool G a)(n:a≠b)(h:Ch [b] G G'):Pool G' a:=by
 obtain⟨x,y,z,e,hx⟩:=p
 exact⟨x,y,z,h a _ (by simpa using n) e,hx⟩
section
variable{P:aI}{w:aY}{K:PySem.W.Frag}{mg:Str->Option ae}{base:Heap}{f fn fi fa fs:Addr}{fd dn di da ds:aW}
theorem Hv:bj Md ["script"] (aM wL):=⟨rfl,rfl,rfl,by decide+kernel,rfl,by decide+kernel,by decide+kernel⟩
theorem NA:fq (aM wL) Md (jI [(".0",.local),("k",.local),("_law_next",.globalImplicit),("pool",.free)]) ["k", "pool"] [none,some 1] 0 "k" =true:=by decide+kernel
noncomputable def yF:im:=λps G Q=>∃ns:List Int,ps=[.ro (ns.map PV.int)]/\ns.length<=63/\∀G',Q (.bl true) G'
theorem Jj {k : Nat} (hk : 20 <= k) (F : Fun K "law" "law" wL f fd) (B : BN mg) (CO : dC P w K mg base 1 "_law_pool" fs ds ["cell"] wZ) (CN : dC P w K mg base 1 "_law_next" fn dn ["pool", "base"] kA) (CH : dC P w K mg base k "_law_holds" fi di ["pool", "counts", "more"] tH) (CA : dC P w K mg base k "_law_agains" fa da ["pool", "count", "size"] BO) : iz P w K mg base (k + 1) f fd ["script"] yF := by
 have nd:=Hv.nd
 have hUE:=Bc.mk
 refine jY F Hv (λvs G Q h=> ?_) (λcdv A outer s H E as G Q hr h=> ?_)
 ·obtain⟨_,rfl,_⟩:=h
  rfl
 have hU:=eI hr
 apply jc
 case a=>
  symm
  all_goals try (refine' pI (n:=4) nd rfl rfl NA rfl ?_ (λ_ _ _ _=>⟨?_,?_⟩))
  all_goals symm
 obtain⟨ns,rfl,h63,q⟩:=h
 exists⟨0,rfl,λa G1 ha p1 ch1=> ?_⟩
 exists⟨dE,λl0 hl0=> ?_⟩
 exists zP iT (by simp;ac_nf) λl1 hl1=> ?_
 left
 obtain⟨c0,hc0⟩:∃c:Int,oV ([PV.int 0]++ns.map PV.int) (-1)=some (.int c):=by
  rcases List.eq_nil_or_concat ns with rfl|⟨l,y,rfl⟩
  ·exact⟨0,rfl⟩
  ·refine⟨y,?_⟩
   rw[List.concat_eq_append,aS,<-cH]
   exact Ha _ _
 refine cQ iT hc0 ?_
 left
 have p1':Pool (up (up G1 l0 (.lst [PV.int 0])) l1 (.lst ([PV.int 0]++ns.map PV.int))) a:=(p1.new hl0).new hl1
 generalize up (up G1 l0 (.lst [PV.int 0])) l1 (.lst ([PV.int 0]++ns.map PV.int))=G1' at p1'⊢
 refine⟨c0,rfl,λb G2 hb p2 ch2=> ?_⟩
 have nba:b≠a:=dI p1' hb
 have p2a:Pool G2 a:=tM p1' (aG nba) ch2
 exists⟨dE,λq1 hq1=>⟨dE,λq2 hq2=>⟨dE,λq3 hq3=>⟨dE,λq4 hq4=>⟨dE,λq5 hq5=> ?_⟩⟩⟩⟩⟩
 have n1a:=dI p2a hq1
 have n1b:=dI p2 hq1
 have g1:up G2 q1 (.lst [.int 3,.int 6,.int 6]) q1=some (.lst ([3,6,6].map cI)):=ao
 have pa1:Pool (up G2 q1 (.lst [.int 3,.int 6,.int 6])) a:=p2a.new hq1
 have pb1:Pool (up G2 q1 (.lst [.int 3,.int 6,.int 6])) b:=p2.new hq1
 generalize up G2 q1 (.lst [.int 3,.int 6,.int 6])=H1 at*
 have n2a:=dI pa1 hq2
 have n2b:=dI pb1 hq2
 have g21:up H1 q2 (.lst [.int 6,.int 6,.int 5]) q1=some (.lst ([3,6,6].map cI)):=by rw[aL (aZ g1 hq2)];exact g1
 have g22:up H1 q2 (.lst [.int 6,.int 6,.int 5]) q2=some (.lst ([6,6,5].map cI)):=ao
 have pa2:Pool (up H1 q2 (.lst [.int 6,.int 6,.int 5])) a:=pa1.new hq2
 have pb2:Pool (up H1 q2 (.lst [.int 6,.int 6,.int 5])) b:=pb1.new hq2
 generalize up H1 q2 (.lst [.int 6,.int 6,.int 5])=H2 at*
 have n3a:=dI pa2 hq3
 have n3b:=dI pb2 hq3
 have g31:up H2 q3 (.lst [.int 2,.int 4,.int 5,.int 5]) q1=some (.lst ([3,6,6].map cI)):=by rw[aL (aZ g21 hq3)];exact g21
 have g32:up H2 q3 (.lst [.int 2,.int 4,.int 5,.int 5]) q2=some (.lst ([6,6,5].map cI)):=by rw[aL (aZ g22 hq3)];exact g22
 have g33:up H2 q3 (.lst [.int 2,.int 4,.int 5,.int 5]) q3=some (.lst ([2,4,5,5].map cI)):=ao
 have pa3:Pool (up H2 q3 (.lst [.int 2,.int 4,.int 5,.int 5])) a:=pa2.new hq3
 have pb3:Pool (up H2 q3 (.lst [.int 2,.int 4,.int 5,.int 5])) b:=pb2.new hq3
 generalize up H2 q3 (.lst [.int 2,.int 4,.int 5,.int 5])=H3 at*
 have n4a:=dI pa3 hq4
 have n4b:=dI pb3 hq4
 have g41:up H3 q4 (.lst [.int 2,.int 2,.int 5,.int 5]) q1=some (.lst ([3,6,6].map cI)):=by rw[aL (aZ g31 hq4)];exact g31
 have g42:up H3 q4 (.lst [.int 2,.int 2,.int 5,.int 5]) q2=some (.lst ([6,6,5].map cI)):=by rw[aL (aZ g32 hq4)];exact g32
 have g43:up H3 q4 (.lst [.int 2,.int 2,.int 5,.int 5]) q3=some (.lst ([2,4,5,5].map cI)):=by rw[aL (aZ g33 hq4)];exact g33
 have g44:up H3 q4 (.lst [.int 2,.int 2,.int 5,.int 5]) q4=some (.lst ([2,2,5,5].map cI)):=ao
 have pa4:Pool (up H3 q4 (.lst [.int 2,.int 2,.int 5,.int 5])) a:=pa3.new hq4
 have pb4:Pool (up H3 q4 (.lst [.int 2,.int 2,.int 5,.int 5])) b:=pb3.new hq4
 generalize up H3 q4 (.lst [.int 2,.int 2,.int 5,.int 5])=H4 at*
 have good:∀r∈[PV.ref q1,.ref q2,.ref q3,.ref q4],∃(d:Addr) (ms:List Nat),r= .ref d/\H4 d=some (.lst (ms.map cI))/\(∀n∈ms,2<=n/\n<=6)/\1<=ms.length/\ms.length<=4/\d≠a/\d≠b:=λr hr=>by
  simp only[aD,bi,or_false]at hr
  rcases hr with rfl|rfl|rfl|rfl
  ·exact⟨q1,_,rfl,g41,by decide,by decide,by decide,n1a,n1b⟩
  ·exact⟨q2,_,rfl,g42,by decide,by decide,by decide,n2a,n2b⟩
  ·exact⟨q3,_,rfl,g43,by decide,by decide,by decide,n3a,n3b⟩
  ·exact⟨q4,_,rfl,g44,by decide,by decide,by decide,n4a,n4b⟩
 exists⟨b,4,rfl,pb4.new hq5,by decide,by decide,λm G3 m0 m1 p3 ch3=> ?_⟩
 obtain⟨x,ex,mx⟩:=Ei (xs:=[PV.ref q1,.ref q2,.ref q3,.ref q4]) m0 m1
 obtain⟨d,ms,rfl,gd,hms,lm1,lm4,nda,ndb⟩:=good x mx
 have n5b:q5≠b:=dI pb4 hq5
 exists cQ (aV (ch3 q5 _ (by simpa using n5b) ao)) ex ?_
 have gd3:G3 d=some (.lst (ms.map cI)):=ch3 d _ (by simpa using ndb) (by rw[aL (aZ gd hq5)];exact gd)
 have p3a:Pool G3 a:=tM (pa4.new hq5) (aG nba) ch3
 clear ex mx good g41 g42 g43 g44 pa4 pb4 ch3 gd
 exists⟨dE,λr1 hr1=>⟨dE,⟨dE,λr2 hr2=>⟨dE,?_⟩⟩⟩⟩
 have nr1:=dI p3a hr1
 have nr1b:=dI p3 hr1
 have s1:up G3 r1 (.lst [.int 2,.int 4,.int 5,.int 5]) r1=some (.lst ([2,4,5,5].map cI)):=ao
 have s1d:up G3 r1 (.lst [.int 2,.int 4,.int 5,.int 5]) d=some (.lst (ms.map cI)):=by rw[aL (aZ gd3 hr1)];exact gd3
 have sa1:Pool (up G3 r1 (.lst [.int 2,.int 4,.int 5,.int 5])) a:=p3a.new hr1
 have sb1:Pool (up G3 r1 (.lst [.int 2,.int 4,.int 5,.int 5])) b:=p3.new hr1
 generalize up G3 r1 (.lst [.int 2,.int 4,.int 5,.int 5])=K1 at*
 have nr2:=dI sa1 hr2
 have nr2b:=dI sb1 hr2
 have s21:up K1 r2 (.lst [.int 2,.int 4,.int 5,.int 5]) r1=some (.lst ([2,4,5,5].map cI)):=by rw[aL (aZ s1 hr2)];exact s1
 have s22:up K1 r2 (.lst [.int 2,.int 4,.int 5,.int 5]) r2=some (.lst ([2,4,5,5].map cI)):=ao
 have s2d:up K1 r2 (.lst [.int 2,.int 4,.int 5,.int 5]) d=some (.lst (ms.map cI)):=by rw[aL (aZ s1d hr2)];exact s1d
 have sa2:Pool (up K1 r2 (.lst [.int 2,.int 4,.int 5,.int 5])) a:=sa1.new hr2
 have sb2:Pool (up K1 r2 (.lst [.int 2,.int 4,.int 5,.int 5])) b:=sb1.new hr2
 generalize up K1 r2 (.lst [.int 2,.int 4,.int 5,.int 5])=K2 at*
 exists⟨b,4,rfl,sb2,by decide,by decide,λmm G4 mm0 mm1 p4 ch4=> ?_⟩
 obtain⟨mo,rfl⟩:∃k:Nat,mm=(k:Int):=⟨mm.toNat,by ac_nf⟩
 have t1:=ch4 r1 _ (by simpa using nr1b) s21
 have t2:=ch4 r2 _ (by simpa using nr2b) s22
 have td:=ch4 d _ (by simpa using ndb) s2d
 have pa:Pool G4 a:=tM sa2 (aG nba) ch4
 exists⟨dE,⟨dE,λl5 hl5=> ?_⟩⟩
 have u1:up G4 l5 (.lst [.tup [.ref r1,.int 0],.tup [.ref r2,.int 1],.tup [.ref d,.int (mo:Int)]]) r1=some (.lst ([2,4,5,5].map cI)):=by rw[aL (aZ t1 hl5)];exact t1
 have u2:up G4 l5 (.lst [.tup [.ref r1,.int 0],.tup [.ref r2,.int 1],.tup [.ref d,.int (mo:Int)]]) r2=some (.lst ([2,4,5,5].map cI)):=by rw[aL (aZ t2 hl5)];exact t2
 have ud:up G4 l5 (.lst [.tup [.ref r1,.int 0],.tup [.ref r2,.int 1],.tup [.ref d,.int (mo:Int)]]) d=some (.lst (ms.map cI)):=by rw[aL (aZ td hl5)];exact td
 have u5:up G4 l5 (.lst [.tup [.ref r1,.int 0],.tup [.ref r2,.int 1],.tup [.ref d,.int (mo:Int)]]) l5=some (.lst [.tup [.ref r1,.int 0],.tup [.ref r2,.int 1],.tup [.ref d,.int (mo:Int)]]):=ao
 have up5:Pool (up G4 l5 (.lst [.tup [.ref r1,.int 0],.tup [.ref r2,.int 1],.tup [.ref d,.int (mo:Int)]])) a:=pa.new hl5
 have n5a:=dI pa hl5
 generalize up G4 l5 (.lst [.tup [.ref r1,.int 0],.tup [.ref r2,.int 1],.tup [.ref d,.int (mo:Int)]])=L at*
 left
 rw[aV u5]
 exists⟨λi τ G5=>∃t4 t5:Option PV,τ=[some (.ro (ns.map PV.int)),some (.ref a),some (.ref b),some (.ref d),t4,t5,none]/\Pool G5 a/\Ch [a] L G5,⟨_,_,rfl,up5,Ch.refl⟩,?_,?_,?_⟩
 ·rintro i τ G5 _ ⟨_,_,rfl,_,ch⟩
  exact aV (ch l5 _ (by simpa using n5a) u5)
 ·rintro i x τ G5 hx ⟨_,_,rfl,pp,ch⟩
  obtain⟨dd,mms,mk,rfl,gdd,hmm,la,lb,nd',m3⟩:∃(dd:Addr) (mms:List Nat) (mk:Nat),x= .tup [.ref dd,.int (mk:Int)]/\L dd=some (.lst (mms.map cI))/\(∀n∈mms,2<=n/\n<=6)/\1<=mms.length/\mms.length<=4/\dd≠a/\mk<=3:=by
   have hm:=ax hx
   simp only[aD,bi,or_false]at hm
   rcases hm with rfl|rfl|rfl
   ·exact⟨r1,_,0,rfl,u1,by decide,by decide,by decide,nr1,by decide⟩
   ·exact⟨r2,_,1,rfl,u2,by decide,by decide,by decide,nr2,by decide⟩
   ·exact⟨d,ms,mo,rfl,ud,hms,lm1,lm4,nda,by ac_nf⟩
  exists⟨a,dd,mms,mk,rfl,pp,nd',ch dd _ (by simpa using nd') gdd,hmm,la,lb,m3,λG6 p6 ch6=> ?_⟩
  refine ji rfl ?_
  exact⟨_,_,rfl,p6,ch.trans ch6⟩
 rintro τ G5 ⟨t4,t5,rfl,pp,ch⟩
 exists⟨a,4,6,rfl,pp,by decide,by decide,by decide,λG6 p6 ch6=> ?_⟩
 refine ji rfl ?_
 exists⟨a,4,9,rfl,p6,by decide,by decide,by decide,λG7 p7 ch7=> ?_⟩
 refine ji rfl ?_
 exists⟨dE,λl6 hl6=> ?_⟩
 exists zP iT (by simp;ac_nf) λsc hsc=> ?_
 left
 rw[iT]
 left
 have g0:up (up G7 l6 (.lst [PV.int 0])) sc (.lst ([PV.int 0]++ns.map PV.int)) sc=some (.lst ([PV.int 0]++ns.map PV.int)):=ao
 generalize up (up G7 l6 (.lst [PV.int 0])) sc (.lst ([PV.int 0]++ns.map PV.int))=G0 at g0
 refine⟨λi τ G8=>∃t1 t2 t3 t4 t5 t6:Option PV,τ=[some (.ro (ns.map PV.int)),t1,t2,t3,t4,t5,t6]/\G8 sc=some (.lst ([PV.int 0]++ns.map PV.int)),⟨_,_,_,_,_,_,rfl,g0⟩,?_,?_,?_⟩
 ·rintro i τ G8 _ ⟨_,_,_,_,_,_,rfl,h⟩
  exact aV h
 ·rintro i x τ G8 hx ⟨_,_,_,_,_,_,rfl,g8⟩
  obtain⟨c,rfl⟩:∃c:Int,x= .int c:=by
   have hm:=ax hx
   rcases aR.mp hm with h|h
   ·exact⟨0,au.mp h⟩
   ·obtain⟨y,_,rfl⟩:=ay.mp h
    exact⟨y,rfl⟩
  exists⟨c,rfl,λe G9 he p9 ch9=> ?_⟩
  have nse:sc≠e:=aZ g8 he
  have g9:=ch9 sc _ (by simpa using nse) g8
  exists⟨e,3,rfl,p9,by decide,by decide,λx1 G10 x10 x11 p10 ch10=> ?_⟩
  have g10:=ch10 sc _ (by simpa using nse) g9
  obtain⟨c1,rfl⟩:∃k:Nat,x1=(k:Int):=⟨x1.toNat,by ac_nf⟩
  exists jK ?_
  exists⟨e,6,rfl,p10,by decide,by decide,λx2 G11 x20 x21 p11 ch11=> ?_⟩
  have g11:=ch11 sc _ (by simpa using nse) g10
  obtain⟨c2,rfl⟩:∃k:Nat,x2=(k:Int):=⟨x2.toNat,by ac_nf⟩
  exists⟨e,2+c1,c2,by rw[gL];rfl,p11,by ac_nf,by ac_nf,by simp only[aD,bi,or_false];ac_nf,λG12 p12 ch12=> ?_⟩
  have g12:=ch12 sc _ (by simpa using nse) g11
  refine ji rfl ?_
  exists⟨e,4,rfl,p12,by decide,by decide,λx3 G13 x30 x31 p13 ch13=> ?_⟩
  have g13:=ch13 sc _ (by simpa using nse) g12
  obtain⟨c3,rfl⟩:∃k:Nat,x3=(k:Int):=⟨x3.toNat,by ac_nf⟩
  exists jK ?_
  exists⟨by ac_nf,by ac_nf,?_⟩
  have hil:(ir 0 (1+(c3:Int)).toNat).length=1+c3:=by unfold ir;simp;ac_nf
  intro acc hacc
  have nae:acc≠e:=dI p13 hacc
  have nas:sc≠acc:=aZ g13 hacc
  refine⟨λi ys Gi=>∃mms:List Nat,ys=mms.map cI/\mms.length=i/\(∀n∈mms,2<=n/\n<=6)/\Pool Gi e/\Gi acc=some (.lst ys)/\Gi sc=some (.lst ([PV.int 0]++ns.map PV.int)),⟨[],rfl,rfl,by simp,p13.new hacc,ao,by rw[aL nas];exact g13⟩,?_,?_,?_⟩
  ·rintro i ys Gi hi ⟨mms,rfl,hl,hm,pi,ga,gs⟩
   rw[hil]at hi
   exact⟨trivial,ga,by rw[ap];ac_nf⟩
  ·rintro i ys Gi x hx ⟨mms,rfl,hl,hm,pi,ga,gs⟩
   refine iU rfl ?_
   exists⟨e,5,rfl,pi,by decide,by decide,λx4 G14 x40 x41 p14 ch14=> ?_⟩
   obtain⟨c4,rfl⟩:∃k:Nat,x4=(k:Int):=⟨x4.toNat,by ac_nf⟩
   exists jK ?_
   refine⟨ch14 acc _ (by simpa using nae) ga,mms++[2+c4],?_,by simp[hl],?_,p14.ne nae,ao,?_⟩
   ·rw[aS]
    show mms.map cI++[PV.int (2+(c4:Int))]=mms.map cI++[PV.int ((2+c4:Nat):Int)]
    rw[gL]
    rfl
   ·intro n hn
    rcases aR.mp hn with hn|hn
    ·exact hm n hn
    ·cases au.mp hn;ac_nf
   ·rw[aL nas];exact ch14 sc _ (by simpa using nse) gs
  ·rintro ys Gi ⟨mms,rfl,hl,hm,pi,ga,gs⟩
   rw[hil]at hl
   exists⟨e,4,rfl,pi,by decide,by decide,λx5 G15 x50 x51 p15 ch15=> ?_⟩
   obtain⟨c5,rfl⟩:∃k:Nat,x5=(k:Int):=⟨x5.toNat,by ac_nf⟩
   have ga15:=ch15 acc _ (by simpa using nae) ga
   have gs15:=ch15 sc _ (by simpa using nse) gs
   exists⟨e,acc,mms,c5,rfl,p15,nae,ga15,hm,by ac_nf,by ac_nf,by ac_nf,λG16 p16 ch16=> ?_⟩
   refine ji rfl ?_
   exact⟨_,_,_,_,_,_,rfl,ch16 sc _ (by simpa using nse) gs15⟩
 ·rintro τ G8 ⟨_,_,_,_,_,_,rfl,g8⟩
  exact⟨_,GE.refl,q _⟩
end
noncomputable def A4(K:PySem.W.Frag)(C:Addr)(ns:List Str)(fs:List Addr):Bool:=
 (PySem.W.plainGet K C Str.empty&&PySem.W.hasDictIn K C&&PySem.W.plainOver K C&&(PySem.W.findIn K (.ref C) "__setattr__" ==some (some (.builtin "object.__setattr__"))))&&ns.all (λn=>PySem.W.findIn K (.ref C) n==some none)
  &&(PySem.W.makesIn K C&&PySem.W.keepIn K (.ref C))&&fs.all (λf=>PySem.W.isFn K (.ref f))
theorem ut{K:PySem.W.Frag}{C:Addr}{ns:List Str}{fs:List Addr}(h:A4 K C ns fs=true):Cls K C/\(∀n∈ns,NoAttr K C n)/\(PySem.W.makesIn K C=true/\PySem.W.keepIn K (.ref C)=true)/\∀f∈fs,PySem.W.isFn K (.ref f)=true:=by
 unfold A4 at h
 simp only[aH,bq,beq_iff_eq]at h
 obtain⟨⟨⟨⟨⟨⟨h1,h2⟩,h3⟩,h4⟩,hn⟩,hm⟩,hf⟩:=h
 exact⟨⟨h1,h2,h3,h4⟩,λn hn'=>hn n hn',hm,hf⟩
noncomputable def GH(K:PySem.W.Frag)(D M:Addr):Bool:=
 PySem.W.excIn K D Ba "ValueError.__new__" &&lN K D D&&(PySem.W.findIn K (.ref D) "__getattribute__" ==some (some (.builtin "BaseException.__getattribute__")))&&(PySem.W.findIn K (.ref D) "__getattr__" ==some none)&&(PySem.W.mroIn K D (.type "BaseException")==some true)&&(PySem.W.clsIn K D).isSome&&(PySem.W.findIn K (.ref D) "__class__" ==some (some (.builtin "object.__class__")))&&(PySem.W.specialIn K (.builtin "object.__class__") "__get__" ==some (some (.builtin "getset_descriptor.__get__")))&&(PySem.W.takesIn K (.builtin "object.__class__")==some true)&&(PySem.W.mroIn K D (.type "object")==some true)
  &&(PySem.W.kitOne K (.ref D) (.type "ValueError")==some true)&&(PySem.W.kitOne K (.ref D) (.ref M)==some false)
theorem DT{K:PySem.W.Frag}{D M:Addr}(h:GH K D M=true):PySem.W.excIn K D Ba "ValueError.__new__" =true/\lN K D D=true/\rP K D/\PySem.W.kitOne K (.ref D) (.type "ValueError")=some true/\PySem.W.kitOne K (.ref D) (.ref M)=some false:=by
 unfold GH at h
 simp only[aH,beq_iff_eq]at h
 obtain⟨⟨⟨⟨⟨⟨⟨⟨⟨⟨⟨h1,h2⟩,h3⟩,h4⟩,h5⟩,h6⟩,h7⟩,h8⟩,h9⟩,h10⟩,h12⟩,h13⟩:=h
 exact⟨h1,h2,⟨h3,h4,h5,h6,h7,h8,h9,h10⟩,h12,h13⟩
noncomputable def OX(K:PySem.W.Frag):Bool:=Ee.all λx=>PySem.W.nsIn K bx x==some none
theorem NE{K:PySem.W.Frag}{h:Heap}{mg:Str->Option ae}(X:K.In h)(G:h.Ns bx mg)(z:OX K=true):BN mg:=λx hx=>by
 unfold OX at z
 rw[bq]at z
 have:=z x (by simpa using hx)
 exact PySem.W.mg_none_of X G (beq_iff_eq.mp this)
theorem om{us:List ae}(h:us.length=1):∃a,us=[a]:=by
 cases us with
 |nil=>cases h
 |cons a l=>cases l with
  |nil=>exact⟨a,rfl⟩
  |cons b l=>cases h
theorem jA{us:List ae}(h:us.length=2):∃a0 a1,us=[a0,a1]:=by
 cases us with
 |nil=>cases h
 |cons a l=>
  obtain⟨a1,rfl⟩:=om (us:=l) (by simpa using h)
  exact⟨a,a1,rfl⟩
theorem jS{us:List ae}(h:us.length=3):∃a0 a1 a2,us=[a0,a1,a2]:=by
 cases us with
 |nil=>cases h
 |cons a l=>
  obtain⟨a1,a2,rfl⟩:=jA (us:=l) (by simpa using h)
  exact⟨a,a1,a2,rfl⟩
theorem Ml{us:List ae}(h:us.length=4):∃a0 a1 a2 a3,us=[a0,a1,a2,a3]:=by
 cases us with
 |nil=>cases h
 |cons a l=>
  obtain⟨a1,a2,a3,rfl⟩:=jS (us:=l) (by simpa using h)
  exact⟨a,a1,a2,a3,rfl⟩
noncomputable def FnB(K:PySem.W.Frag)(x qual:Str)(st:Stmt)(f:Addr):Prop:=∃oc od kV dc pm an cd ct sl,K.lookup f=some ⟨oc,od,.func (PySem.W.fnOf x qual (kK st) (ib st) (aM st) .none kV dc pm an cd ct),sl⟩/\PySem.W.codeIn K cd qual=true/\PySem.W.keepIn K (.ref f)=true
noncomputable def iN(K:PySem.W.Frag)(x:Str)(st:Stmt)(f:Addr):Prop:=PySem.W.nsIn K bx x=some (some (.ref f))/\FnB K x x st f
noncomputable def jM(K:PySem.W.Frag)(C:Addr)(x q:Str)(st:Stmt)(f:Addr):Prop:=PySem.W.findIn K (.ref C) x=some (some (.ref f))/\FnB K x q st f
theorem FnB.get{K:PySem.W.Frag}{x q:Str}{st:Stmt}{f:Addr}(u:FnB K x q st f):∃fd,Fun K x q st f fd:=by
 obtain⟨_,_,_,_,_,_,_,_,_,l,c,k⟩:=u
 exact⟨_,DN l c k⟩
theorem all_mk{l:PySem.W.OpenLaw}{w:aY}{K:PySem.W.Frag}{h:Heap}{mg:Str->Option ae}{fa f1 f2 f3 f4 f5 f6 f7 f8 f9 f10 f11 f12 f13 f14 f15 f16 f17 f18 f19 f20 f21 f22 f23 f24 f25 f26 f27 f28 f29 f30 f31 f32 f33 f34 f35 f36 f37 f38 f39 f40 f41 f42:Addr}{cC cN cB cD cT cM:Addr}{tTU:Tok}{tST:Tok}{tML:Tok}(X:K.In h)(G:h.Ns bx mg)(hfa:mg "law" =some (.ref fa))
  (zv:PySem.W.nsIn K bx "ValueError" =some none) (u1:iN K "inner_patterns" wM f1) (u2:iN K "makes_of" wK f2) (u3:iN K "parts_of" lZ f3) (u4:iN K "add_ways" HZ f4) (u5:jM K cC "__init__" "Counts.__init__" yg f5) (u6:jM K cC "total" "Counts.total" wG f6) (u7:jM K cC "count_from" "Counts.count_from" Bu f7) (u8:jM K cC "count_row" "Counts.count_row" HU f8) (u9:jM K cC "count_pick" "Counts.count_pick" Bp f9) (u10:jM K cC "count_again" "Counts.count_again" wR f10) (u11:jM K cC "ends_of" "Counts.ends_of" Bv f11) (u12:jM K cN "__init__" "ByNumber.__init__" wH f12) (u13:jM K cN "choose" "ByNumber.choose" pT f13) (u14:jM K cB "__init__" "ByMarks.__init__" wP f14) (u15:jM K cB "choose" "ByMarks.choose" sT f15) (u16:jM K cD "__init__" "Descent.__init__" wO f16) (u17:jM K cD "whole_tree" "Descent.whole_tree" sP f17) (u18:jM K cD "size" "Descent.size" sR f18) (u19:jM K cD "onward_ahead" "Descent.onward_ahead" wQ f19) (u20:jM K cD "make_tree" "Descent.make_tree" EC f20) (u21:jM K cD "make_row" "Descent.make_row" pU f21) (u22:jM K cD "make_pick" "Descent.make_pick" l8 f22) (u23:jM K cD "make_turns" "Descent.make_turns" l7 f23) (u24:iN K "is_whole" HX f24) (u25:iN K "inner_trees" Bs f25) (u26:iN K "trees_within" sO f26) (u27:iN K "text_of" pr f27) (u28:iN K "marks_and_trees" N1 f28) (u29:iN K "marks_of" wJ f29) (u30:iN K "many" Br f30) (u31:iN K "trees" pq f31) (u32:iN K "tree_at" sQ f32) (u33:iN K "number_of" HW f33) (u34:iN K "_law_pool" Bo f34) (u35:iN K "_law_next" Bq f35) (u36:iN K "_law_blanks" sV f36) (u37:iN K "_law_built" sU f37) (u38:iN K "_law_refused" HV f38) (u39:iN K "_law_listed" sS f39) (u40:iN K "_law_agains" HY f40) (u41:iN K "_law_holds" wN f41) (u42:iN K "law" wL f42) (m0:PySem.W.nsIn K bx "TURN" =some (some (.int 0 tTU))) (m1:PySem.W.nsIn K bx "STOP" =some (some (.int 1 tST))) (m2:PySem.W.nsIn K bx "MOST_LISTED" =some (some (.int 200 tML))) (m3:PySem.W.nsIn K bx "NoTree" =some (some (.ref cT))) (m4:PySem.W.nsIn K bx "TooMany" =some (some (.ref cM))) (m5:PySem.W.nsIn K bx "Counts" =some (some (.ref cC))) (m6:PySem.W.nsIn K bx "ByNumber" =some (some (.ref cN))) (m7:PySem.W.nsIn K bx "ByMarks" =some (some (.ref cB))) (m8:PySem.W.nsIn K bx "Descent" =some (some (.ref cD))) (zc:A4 K cC ["signs", "makes", "parts", "table"] [f5,f6,f7,f8,f9,f10,f11]=true) (zcN:A4 K cN ["left"] [f12,f13]=true) (zcB:A4 K cB ["marks", "used", "passed"] [f14,f15]=true) (zcD:A4 K cD ["counts", "guide", "at"] [f16,f17,f18,f19,f20,f21,f22,f23]=true) (zeM:GH K cM cT=true) (zeT:GH K cT cM=true) (zb:OX K=true):
  ∃fd:aW,(∀(s:ai) (v:ae),BindsTo s fd ⟨[v],[]⟩ [("script",v)])/\∀base:Heap,K.In base->base.Ns bx mg->FnOk l.prog w K mg base Hf 22 fa fd ["script"] (Hn K yF):=by
 have e:=hfa.symm.trans (PySem.W.mg_of X G u42.1)
 cases e
 have B:=NE X G zb
 obtain⟨d1,F1⟩:=u1.2.get
 have k1:=F1.kp
 have b1:=F1.binds (ps:=["pattern"]) λ_ _ _ _ _ _ us hl=>by obtain⟨_,rfl⟩:=om hl;rfl
 have g1:=PySem.W.mg_of X G u1.1
 obtain⟨d2,F2⟩:=u2.2.get
 have k2:=F2.kp
 have b2:=F2.binds (ps:=["pattern"]) λ_ _ _ _ _ _ us hl=>by obtain⟨_,rfl⟩:=om hl;rfl
 have g2:=PySem.W.mg_of X G u2.1
 obtain⟨d3,F3⟩:=u3.2.get
 have k3:=F3.kp
 have b3:=F3.binds (ps:=["pattern"]) λ_ _ _ _ _ _ us hl=>by obtain⟨_,rfl⟩:=om hl;rfl
 have g3:=PySem.W.mg_of X G u3.1
 obtain⟨d4,F4⟩:=u4.2.get
 have k4:=F4.kp
 have b4:=F4.binds (ps:=["ways", "more", "times"]) λ_ _ _ _ _ _ us hl=>by obtain⟨_,_,_,rfl⟩:=jS hl;rfl
 have g4:=PySem.W.mg_of X G u4.1
 obtain⟨d5,F5⟩:=u5.2.get
 have k5:=F5.kp
 have b5:=F5.binds (ps:=["self", "pattern", "text"]) λ_ _ _ _ _ _ us hl=>by obtain⟨_,_,_,rfl⟩:=jS hl;rfl
 obtain⟨d6,F6⟩:=u6.2.get
 have k6:=F6.kp
 have b6:=F6.binds (ps:=["self"]) λ_ _ _ _ _ _ us hl=>by obtain⟨_,rfl⟩:=om hl;rfl
 obtain⟨d7,F7⟩:=u7.2.get
 have k7:=F7.kp
 have b7:=F7.binds (ps:=["self", "number", "at"]) λ_ _ _ _ _ _ us hl=>by obtain⟨_,_,_,rfl⟩:=jS hl;rfl
 obtain⟨d8,F8⟩:=u8.2.get
 have k8:=F8.kp
 have b8:=F8.binds (ps:=["self", "number", "at"]) λ_ _ _ _ _ _ us hl=>by obtain⟨_,_,_,rfl⟩:=jS hl;rfl
 obtain⟨d9,F9⟩:=u9.2.get
 have k9:=F9.kp
 have b9:=F9.binds (ps:=["self", "number", "at"]) λ_ _ _ _ _ _ us hl=>by obtain⟨_,_,_,rfl⟩:=jS hl;rfl
 obtain⟨d10,F10⟩:=u10.2.get
 have k10:=F10.kp
 have b10:=F10.binds (ps:=["self", "number", "at"]) λ_ _ _ _ _ _ us hl=>by obtain⟨_,_,_,rfl⟩:=jS hl;rfl
 obtain⟨d11,F11⟩:=u11.2.get
 have k11:=F11.kp
 have b11:=F11.binds (ps:=["self", "number", "at"]) λ_ _ _ _ _ _ us hl=>by obtain⟨_,_,_,rfl⟩:=jS hl;rfl
 obtain⟨d12,F12⟩:=u12.2.get
 have k12:=F12.kp
 have b12:=F12.binds (ps:=["self", "number"]) λ_ _ _ _ _ _ us hl=>by obtain⟨_,_,rfl⟩:=jA hl;rfl
 obtain⟨d13,F13⟩:=u13.2.get
 have k13:=F13.kp
 have b13:=F13.binds (ps:=["self", "sizes"]) λ_ _ _ _ _ _ us hl=>by obtain⟨_,_,rfl⟩:=jA hl;rfl
 obtain⟨d14,F14⟩:=u14.2.get
 have k14:=F14.kp
 have b14:=F14.binds (ps:=["self", "marks"]) λ_ _ _ _ _ _ us hl=>by obtain⟨_,_,rfl⟩:=jA hl;rfl
 obtain⟨d15,F15⟩:=u15.2.get
 have k15:=F15.kp
 have b15:=F15.binds (ps:=["self", "sizes"]) λ_ _ _ _ _ _ us hl=>by obtain⟨_,_,rfl⟩:=jA hl;rfl
 obtain⟨d16,F16⟩:=u16.2.get
 have k16:=F16.kp
 have b16:=F16.binds (ps:=["self", "counts", "guide"]) λ_ _ _ _ _ _ us hl=>by obtain⟨_,_,_,rfl⟩:=jS hl;rfl
 obtain⟨d17,F17⟩:=u17.2.get
 have k17:=F17.kp
 have b17:=F17.binds (ps:=["self"]) λ_ _ _ _ _ _ us hl=>by obtain⟨_,rfl⟩:=om hl;rfl
 obtain⟨d18,F18⟩:=u18.2.get
 have k18:=F18.kp
 have b18:=F18.binds (ps:=["self", "number", "at", "onward"]) λ_ _ _ _ _ _ us hl=>by obtain⟨_,_,_,_,rfl⟩:=Ml hl;rfl
 obtain⟨d19,F19⟩:=u19.2.get
 have k19:=F19.kp
 have b19:=F19.binds (ps:=["self", "number", "places", "onward"]) λ_ _ _ _ _ _ us hl=>by obtain⟨_,_,_,_,rfl⟩:=Ml hl;rfl
 obtain⟨d20,F20⟩:=u20.2.get
 have k20:=F20.kp
 have b20:=F20.binds (ps:=["self", "number", "onward"]) λ_ _ _ _ _ _ us hl=>by obtain⟨_,_,_,rfl⟩:=jS hl;rfl
 obtain⟨d21,F21⟩:=u21.2.get
 have k21:=F21.kp
 have b21:=F21.binds (ps:=["self", "parts", "onward"]) λ_ _ _ _ _ _ us hl=>by obtain⟨_,_,_,rfl⟩:=jS hl;rfl
 obtain⟨d22,F22⟩:=u22.2.get
 have k22:=F22.kp
 have b22:=F22.binds (ps:=["self", "parts", "onward"]) λ_ _ _ _ _ _ us hl=>by obtain⟨_,_,_,rfl⟩:=jS hl;rfl
 obtain⟨d23,F23⟩:=u23.2.get
 have k23:=F23.kp
 have b23:=F23.binds (ps:=["self", "number", "onward"]) λ_ _ _ _ _ _ us hl=>by obtain⟨_,_,_,rfl⟩:=jS hl;rfl
 obtain⟨d24,F24⟩:=u24.2.get
 have k24:=F24.kp
 have b24:=F24.binds (ps:=["thing"]) λ_ _ _ _ _ _ us hl=>by obtain⟨_,rfl⟩:=om hl;rfl
 have g24:=PySem.W.mg_of X G u24.1
 obtain⟨d25,F25⟩:=u25.2.get
 have k25:=F25.kp
 have b25:=F25.binds (ps:=["tree"]) λ_ _ _ _ _ _ us hl=>by obtain⟨_,rfl⟩:=om hl;rfl
 have g25:=PySem.W.mg_of X G u25.1
 obtain⟨d26,F26⟩:=u26.2.get
 have k26:=F26.kp
 have b26:=F26.binds (ps:=["tree"]) λ_ _ _ _ _ _ us hl=>by obtain⟨_,rfl⟩:=om hl;rfl
 have g26:=PySem.W.mg_of X G u26.1
 obtain⟨d27,F27⟩:=u27.2.get
 have k27:=F27.kp
 have b27:=F27.binds (ps:=["tree"]) λ_ _ _ _ _ _ us hl=>by obtain⟨_,rfl⟩:=om hl;rfl
 have g27:=PySem.W.mg_of X G u27.1
 obtain⟨d28,F28⟩:=u28.2.get
 have k28:=F28.kp
 have b28:=F28.binds (ps:=["tree"]) λ_ _ _ _ _ _ us hl=>by obtain⟨_,rfl⟩:=om hl;rfl
 have g28:=PySem.W.mg_of X G u28.1
 obtain⟨d29,F29⟩:=u29.2.get
 have k29:=F29.kp
 have b29:=F29.binds (ps:=["tree"]) λ_ _ _ _ _ _ us hl=>by obtain⟨_,rfl⟩:=om hl;rfl
 have g29:=PySem.W.mg_of X G u29.1
 obtain⟨d30,F30⟩:=u30.2.get
 have k30:=F30.kp
 have b30:=F30.binds (ps:=["pattern", "text"]) λ_ _ _ _ _ _ us hl=>by obtain⟨_,_,rfl⟩:=jA hl;rfl
 have g30:=PySem.W.mg_of X G u30.1
 obtain⟨d31,F31⟩:=u31.2.get
 have k31:=F31.kp
 have b31:=F31.binds (ps:=["pattern", "text"]) λ_ _ _ _ _ _ us hl=>by obtain⟨_,_,rfl⟩:=jA hl;rfl
 have g31:=PySem.W.mg_of X G u31.1
 obtain⟨d32,F32⟩:=u32.2.get
 have k32:=F32.kp
 have b32:=F32.binds (ps:=["pattern", "text", "k"]) λ_ _ _ _ _ _ us hl=>by obtain⟨_,_,_,rfl⟩:=jS hl;rfl
 have g32:=PySem.W.mg_of X G u32.1
 obtain⟨d33,F33⟩:=u33.2.get
 have k33:=F33.kp
 have b33:=F33.binds (ps:=["pattern", "tree"]) λ_ _ _ _ _ _ us hl=>by obtain⟨_,_,rfl⟩:=jA hl;rfl
 have g33:=PySem.W.mg_of X G u33.1
 obtain⟨d34,F34⟩:=u34.2.get
 have k34:=F34.kp
 have b34:=F34.binds (ps:=["cell"]) λ_ _ _ _ _ _ us hl=>by obtain⟨_,rfl⟩:=om hl;rfl
 have g34:=PySem.W.mg_of X G u34.1
 obtain⟨d35,F35⟩:=u35.2.get
 have k35:=F35.kp
 have b35:=F35.binds (ps:=["pool", "base"]) λ_ _ _ _ _ _ us hl=>by obtain⟨_,_,rfl⟩:=jA hl;rfl
 have g35:=PySem.W.mg_of X G u35.1
 obtain⟨d36,F36⟩:=u36.2.get
 have k36:=F36.kp
 have b36:=F36.binds (ps:=["pool", "count", "few"]) λ_ _ _ _ _ _ us hl=>by obtain⟨_,_,_,rfl⟩:=jS hl;rfl
 have g36:=PySem.W.mg_of X G u36.1
 obtain⟨d37,F37⟩:=u37.2.get
 have k37:=F37.kp
 have b37:=F37.binds (ps:=["pool", "counts", "more"]) λ_ _ _ _ _ _ us hl=>by obtain⟨_,_,_,rfl⟩:=jS hl;rfl
 have g37:=PySem.W.mg_of X G u37.1
 obtain⟨d38,F38⟩:=u38.2.get
 have k38:=F38.kp
 have b38:=F38.binds (ps:=["pattern", "text"]) λ_ _ _ _ _ _ us hl=>by obtain⟨_,_,rfl⟩:=jA hl;rfl
 have g38:=PySem.W.mg_of X G u38.1
 obtain⟨d39,F39⟩:=u39.2.get
 have k39:=F39.kp
 have b39:=F39.binds (ps:=["pattern", "due"]) λ_ _ _ _ _ _ us hl=>by obtain⟨_,_,rfl⟩:=jA hl;rfl
 have g39:=PySem.W.mg_of X G u39.1
 obtain⟨d40,F40⟩:=u40.2.get
 have k40:=F40.kp
 have b40:=F40.binds (ps:=["pool", "count", "size"]) λ_ _ _ _ _ _ us hl=>by obtain⟨_,_,_,rfl⟩:=jS hl;rfl
 have g40:=PySem.W.mg_of X G u40.1
 obtain⟨d41,F41⟩:=u41.2.get
 have k41:=F41.kp
 have b41:=F41.binds (ps:=["pool", "counts", "more"]) λ_ _ _ _ _ _ us hl=>by obtain⟨_,_,_,rfl⟩:=jS hl;rfl
 have g41:=PySem.W.mg_of X G u41.1
 have x0:=PySem.W.mg_of X G m0
 have x1:=PySem.W.mg_of X G m1
 have x2:=PySem.W.mg_of X G m2
 have x3:=PySem.W.mg_of X G m3
 have x4:=PySem.W.mg_of X G m4
 have x5:=PySem.W.mg_of X G m5
 have x6:=PySem.W.mg_of X G m6
 have x7:=PySem.W.mg_of X G m7
 have x8:=PySem.W.mg_of X G m8
 obtain⟨_,_,kV,dc,pm,an,cd,ct,_,lL,qL,kL⟩:=u42.2
 have F42:=DN lL qL kL
 refine⟨PySem.W.fnOf "law" "law" (kK wL) (ib wL) (aM wL) .none kV dc pm an cd ct,λs v=> .of_eq rfl,λbase _ _=> ?_⟩
 obtain⟨cl,nC,hmk,hfn⟩:=ut zc
 have n1:=nC "signs" (by simp)
 have n2:=nC "makes" (by simp)
 have n3:=nC "parts" (by simp)
 have n4:=nC "table" (by simp)
 obtain⟨clN,nN,hmkN,hfnN⟩:=ut zcN
 have nl:=nN "left" (by simp)
 obtain⟨clB,nB,hmkB,hfnB⟩:=ut zcB
 have nm:=nB "marks" (by simp)
 have nu:=nB "used" (by simp)
 have np:=nB "passed" (by simp)
 obtain⟨clD,nD,hmkD,hfnD⟩:=ut zcD
 have nd1:=nD "counts" (by simp)
 have nd2:=nD "guide" (by simp)
 have nd3:=nD "at" (by simp)
 obtain⟨xqM,xuM,xkM,kVM,kMT⟩:=DT zeM
 obtain⟨xqT,_,_,_,_⟩:=DT zeT
 have hV:=PySem.W.mg_none_of X G zv
 have mk:Mk K cC f5:=⟨hmk.1,u5.1,hfn f5 (by simp),hmk.2⟩
 have mkN:Mk K cN f12:=⟨hmkN.1,u12.1,hfnN f12 (by simp),hmkN.2⟩
 have mkB:Mk K cB f14:=⟨hmkB.1,u14.1,hfnB f14 (by simp),hmkB.2⟩
 have mkD:Mk K cD f16:=⟨hmkD.1,u16.1,hfnD f16 (by simp),hmkD.2⟩
 have m6:iA K cC "total" f6:=⟨u6.1,hfn f6 (by simp),k6⟩
 have m7:iA K cC "count_from" f7:=⟨u7.1,hfn f7 (by simp),k7⟩
 have m8:iA K cC "count_row" f8:=⟨u8.1,hfn f8 (by simp),k8⟩
 have m9:iA K cC "count_pick" f9:=⟨u9.1,hfn f9 (by simp),k9⟩
 have m10:iA K cC "count_again" f10:=⟨u10.1,hfn f10 (by simp),k10⟩
 have m11:iA K cC "ends_of" f11:=⟨u11.1,hfn f11 (by simp),k11⟩
 have m13:iA K cN "choose" f13:=⟨u13.1,hfnN f13 (by simp),k13⟩
 have m15:iA K cB "choose" f15:=⟨u15.1,hfnB f15 (by simp),k15⟩
 have m17:iA K cD "whole_tree" f17:=⟨u17.1,hfnD f17 (by simp),k17⟩
 have m18:iA K cD "size" f18:=⟨u18.1,hfnD f18 (by simp),k18⟩
 have m19:iA K cD "onward_ahead" f19:=⟨u19.1,hfnD f19 (by simp),k19⟩
 have m20:iA K cD "make_tree" f20:=⟨u20.1,hfnD f20 (by simp),k20⟩
 have m21:iA K cD "make_row" f21:=⟨u21.1,hfnD f21 (by simp),k21⟩
 have m22:iA K cD "make_pick" f22:=⟨u22.1,hfnD f22 (by simp),k22⟩
 have m23:iA K cD "make_turns" f23:=⟨u23.1,hfnD f23 (by simp),k23⟩
 have C1:dC l.prog w K mg base 1 "inner_patterns" f1 _ ["pattern"] pE:=⟨CQ F1 B,b1,k1,g1⟩
 have C2:dC l.prog w K mg base 2 "makes_of" f2 _ ["pattern"] pD:=⟨CK F2 B C1,b2,k2,g2⟩
 have C3:dC l.prog w K mg base 3 "parts_of" f3 _ ["pattern"] nR:=⟨xw F3 B C1 C2,b3,k3,g3⟩
 have C4:dC l.prog w K mg base 1 "add_ways" f4 _ ["ways", "more", "times"] uU:=⟨Jl F4 B,b4,k4,g4⟩
 have M8:dF l.prog w K mg base cC 2 "count_row" f8 _ ["self", "number", "at"] (Bd cC H0 λ_=>true):=⟨Jg cl n1 n2 n3 n4 F8 B C4,b8,cl,m8⟩
 have M9:dF l.prog w K mg base cC 2 "count_pick" f9 _ ["self", "number", "at"] (Bd cC BB λ_=>true):=⟨Fy cl n1 n2 n3 n4 F9 B C4,b9,cl,m9⟩
 have M10:dF l.prog w K mg base cC 2 "count_again" f10 _ ["self", "number", "at"] (Bd cC zW Kv):=⟨CZ cl n1 n2 n3 n4 F10 B C4,b10,cl,m10⟩
 have M7:dF l.prog w K mg base cC 3 "count_from" f7 _ ["self", "number", "at"] (Bd cC zW λ_=>true):=⟨FC cl n1 n2 n3 n4 F7 B M9 M10 M8,b7,cl,m7⟩
 have oki:iz l.prog w K mg base 4 f5 _ ["self", "pattern", "text"] (nU cC):=FB cl n1 n2 n3 n4 F5 B C2 C3 M7
 have M6:dF l.prog w K mg base cC 1 "total" f6 _ ["self"] (mq cC):=⟨Cz cl n1 n4 F6 B,b6,cl,m6⟩
 have M11:dF l.prog w K mg base cC 1 "ends_of" f11 _ ["self", "number", "at"] (nV cC):=⟨FD cl n4 F11 B,b11,cl,m11⟩
 have M13:dF l.prog w K mg base cN 1 "choose" f13 _ ["self", "sizes"] (ie gN cN):=⟨xx clN nl F13 B,b13,clN,m13⟩
 have M15:dF l.prog w K mg base cB 1 "choose" f15 _ ["self", "sizes"] (ie gM cB):=⟨xy clB nm nu np F15 B,b15,clB,m15⟩
 have MSN:dF l.prog w K mg base cD 2 "size" f18 _ ["self", "number", "at", "onward"] (jw gN cD cC cN):=⟨vp clD nd1 F18 B M11,b18,clD,m18⟩
 have MAN:dF l.prog w K mg base cD 3 "onward_ahead" f19 _ ["self", "number", "places", "onward"] (kB gN cD cC cN):=⟨vv clD nd1 F19 B MSN,b19,clD,m19⟩
 have oTN:=lE (P:=l.prog) (w:=w) (base:=base) x0 ⟨cl,n1⟩ ⟨cl,n2⟩ ⟨cl,n3⟩ ⟨clD,nd1⟩ ⟨clD,nd2⟩ ⟨clD,nd3⟩ B M11 MSN MAN M13 F20 b20 m20 F21 b21 m21 F22 b22 m22 F23 b23 m23 5
 have MTN:dF l.prog w K mg base cD 13 "make_tree" f20 _ ["self", "number", "onward"] (lh gN cD cC cN 5):=⟨oTN,b20,clD,m20⟩
 have MWN:dF l.prog w K mg base cD 14 "whole_tree" f17 _ ["self"] (z6 gN cD cC cN 5):=⟨sv ⟨cl,n1⟩ ⟨clD,nd1⟩ F17 B MTN,b17,clD,m17⟩
 have MSB:dF l.prog w K mg base cD 2 "size" f18 _ ["self", "number", "at", "onward"] (jw gM cD cC cB):=⟨vp clD nd1 F18 B M11,b18,clD,m18⟩
 have MAB:dF l.prog w K mg base cD 3 "onward_ahead" f19 _ ["self", "number", "places", "onward"] (kB gM cD cC cB):=⟨vv clD nd1 F19 B MSB,b19,clD,m19⟩
 have oTB:=lE (P:=l.prog) (w:=w) (base:=base) x0 ⟨cl,n1⟩ ⟨cl,n2⟩ ⟨cl,n3⟩ ⟨clD,nd1⟩ ⟨clD,nd2⟩ ⟨clD,nd3⟩ B M11 MSB MAB M15 F20 b20 m20 F21 b21 m21 F22 b22 m22 F23 b23 m23 5
 have MTB:dF l.prog w K mg base cD 13 "make_tree" f20 _ ["self", "number", "onward"] (lh gM cD cC cB 5):=⟨oTB,b20,clD,m20⟩
 have MWB:dF l.prog w K mg base cD 14 "whole_tree" f17 _ ["self"] (z6 gM cD cC cB 5):=⟨sv ⟨cl,n1⟩ ⟨clD,nd1⟩ F17 B MTB,b17,clD,m17⟩
 have CTL:rA l.prog w K mg base cM 15 "trees" f31 _ ["pattern", "text"] (z7 5):=⟨Aq (by decide) x2 xqM x4 F31 B ⟨mk,oki,b5,x5⟩ ⟨mkN,vq clN nl F12 B,b12,x6⟩ ⟨mkD,qA clD nd1 nd2 nd3 F16 B,b16,x8⟩ M6 MWN,b31,k31,g31⟩
 have CTL2:rA l.prog w K mg base cM 20 "trees" f31 _ ["pattern", "text"] (z7 5):=⟨CTL.ok.mono (by decide),b31,k31,g31⟩
 have CTA:rA l.prog w K mg base cT 20 "tree_at" f32 _ ["pattern", "text", "k"] (z8 5):=⟨(Ar (by decide) xqT x3 F32 B ⟨mk,oki,b5,x5⟩ ⟨mkN,vq clN nl F12 B,b12,x6⟩ ⟨mkD,qA clD nd1 nd2 nd3 F16 B,b16,x8⟩ M6 MWN).mono (by decide),b32,k32,g32⟩
 have CWI:dC l.prog w K mg base 1 "is_whole" f24 _ ["thing"] qj:=⟨Ap F24 B,b24,k24,g24⟩
 have CIT:dC l.prog w K mg base 1 "inner_trees" f25 _ ["tree"] tG:=⟨FA F25 B,b25,k25,g25⟩
 have CWn:dC l.prog w K mg base 2 "trees_within" f26 _ ["tree"] qi:=⟨Ao F26 B CIT,b26,k26,g26⟩
 have CTO:dC l.prog w K mg base 3 "text_of" f27 _ ["tree"] qk:=⟨As F27 B CWn,b27,k27,g27⟩
 have CMT:dC l.prog w K mg base 2 "marks_and_trees" f28 _ ["tree"] Il:=⟨LZ x0 x1 F28 B CIT,b28,k28,g28⟩
 have CMO:dC l.prog w K mg base 3 "marks_of" f29 _ ["tree"] tE:=⟨CJ F29 B CWI CMT,b29,k29,g29⟩
 have CNu:dC l.prog w K mg base 20 "number_of" f33 _ ["pattern", "tree"] (sd 5):=⟨(Ji (by decide) ⟨clB,np⟩ F33 B ⟨mk,oki,b5,x5⟩ ⟨mkB,CY clB nm nu np F14 B,b14,x7⟩ ⟨mkD,qA clD nd1 nd2 nd3 F16 B,b16,x8⟩ MWB CMO CTO).mono (by decide),b33,k33,g33⟩
 have CMy:dC l.prog w K mg base 6 "many" f30 _ ["pattern", "text"] tF:=⟨Fz ⟨mk,oki,b5,x5⟩ F30 B M6,b30,k30,g30⟩
 have CPl:dC l.prog w K mg base 1 "_law_pool" f34 _ ["cell"] wZ:=⟨Fx F34 B,b34,k34,g34⟩
 have CNB:dC l.prog w K mg base 1 "_law_next" f35 _ ["pool", "base"] kA:=⟨CF F35 B,b35,k35,g35⟩
 have CBl:dC l.prog w K mg base 2 "_law_blanks" f36 _ ["pool", "count", "few"] ql:=⟨Av F36 B CNB,b36,k36,g36⟩
 have CBt:dC l.prog w K mg base 3 "_law_built" f37 _ ["pool", "counts", "more"] tI:=⟨CV F37 B CNB CBl,b37,k37,g37⟩
 have CRe:dC l.prog w K mg base 20 "_law_refused" f38 _ ["pattern", "text"] (yD 5):=⟨(Jh xqM xuM xkM x4 x3 hV kVM kMT F38 B CTL).mono (by decide),b38,k38,g38⟩
 have CLi:dC l.prog w K mg base 20 "_law_listed" f39 _ ["pattern", "due"] (mr 5):=⟨(Au F39 B CTL).mono (by decide),b39,k39,g39⟩
 have CAg:dC l.prog w K mg base 21 "_law_agains" f40 _ ["pool", "count", "size"] BO:=⟨Jk (k:=20) (by decide) F40 B CNB CMy CRe CTL2 CNu CTA,b40,k40,g40⟩
 have CHo:dC l.prog w K mg base 21 "_law_holds" f41 _ ["pool", "counts", "more"] tH:=⟨CS (k:=20) (by decide) F41 B CBt CMy CRe CLi CNu CTA,b41,k41,g41⟩
 exact Jj (k:=21) (by decide) F42 B CPl CNB CHo CAg
theorem Nn{K:PySem.W.Frag}{H:Hp}{a:Addr}{xs:List V}(h:SqL K H a xs)(o:He H):FzL K H a xs:=by
 rcases h with(h|⟨ob,h⟩)|h
 ·rcases o a with e|⟨ob,ys,e⟩<;>(rw[e]at h;cases h)
 ·exact .inl ⟨ob,h⟩
 ·exact .inr h
theorem walk{l:PySem.W.OpenLaw}{q:aI}{loose:List Str}{XP:(Str->Option ae)->Heap->Prop}{YP:aY->Heap->Prop}{d:DefRec}{K:Params->PySem.W.Frag}(hn:l.most=some 63)(hdf:d.params.defaults=[])
  (hY:∀(w:aY) (h:Heap),YP w h->(K w.params).In h)
  (F:∀(w:aY) (mg:Str->Option ae) (fa:Addr) (h:Heap),(K w.params).In h->h.Ns bx mg->mg d.name=some (.ref fa)->
   ∃fd:aW,(∀(s:ai) (u:ae),BindsTo s fd ⟨[u],[]⟩ [("script",u)])/\∀base:Heap,(K w.params).In base->base.Ns bx mg->FnOk l.prog w (K w.params) mg base Hf 22 fa fd ["script"] (Hn (K w.params) yF)):
  PySem.W.WalkO q loose XP YP l.row.toRowW d [] (λf vs=>PySem.call f vs):=
 L2.walk_of (n:=63) (k:=22) (x:= "script") (CX:=λ_=>Hf) (sp:=λw=>Hn (K w.params) yF) hn (by decide) hdf ⟨rfl,by decide,by decide⟩ hY F
  (λ_ H a ns hl ho hS=>⟨[.ro (ns.map PV.int)],λ_=>none,λp _=>p= .bl true,.cons ⟨a,_,rfl,Nn hS ho,zB ns⟩ .nil,λ_ _ z=>(nomatch z),⟨ns,rfl,hl,λ_=>rfl⟩,λp G v H' e d _ _=>by subst e;exact d⟩) λ_ _ _ _ _ z=>z
end T19
open PySem PySem.W PyProof.Rows
set_option maxRecDepth 100000 in
theorem PySem.Challenge.cw_tastegrove_k19_at_most_two_hundred_holds : PySem.Challenge.rw_tastegrove_k19_at_most_two_hundred.Holds := by
 refine T19.tp ⟨⟨T19.h1,T19.h2⟩,?_⟩
 k_fill
 refine T19.walk (l:=PySem.Challenge.rw_tastegrove_k19_at_most_two_hundred) rfl rfl (fun w h Y=>PySem.W.kIn_of Y) ?F
 case F=>
  intro w mg fa h KX G hmg
  refine' T19.all_mk KX G hmg ?zv ?u1 ?u2 ?u3 ?u4 ?u5 ?u6 ?u7 ?u8 ?u9 ?u10 ?u11 ?u12 ?u13 ?u14 ?u15 ?u16 ?u17 ?u18 ?u19 ?u20 ?u21 ?u22 ?u23 ?u24 ?u25 ?u26 ?u27 ?u28 ?u29 ?u30 ?u31 ?u32 ?u33 ?u34 ?u35 ?u36 ?u37 ?u38 ?u39 ?u40 ?u41 ?u42 ?m0 ?m1 ?m2 ?m3 ?m4 ?m5 ?m6 ?m7 ?m8 ?zc ?zcN ?zcB ?zcD ?zeM ?zeT ?zb
  (case zv=>k_is)
  (case m0=>k_is)
  (case m1=>k_is)
  (case m2=>k_is)
  (case m3=>k_is)
  (case m4=>k_is)
  (case m5=>k_is)
  (case m6=>k_is)
  (case m7=>k_is)
  (case m8=>k_is)
  case u1=>exact⟨by k_is,_,_,_,_,_,_,_,_,_,by k_is,by k_is,by k_is⟩
  case u2=>exact⟨by k_is,_,_,_,_,_,_,_,_,_,by k_is,by k_is,by k_is⟩
  case u3=>exact⟨by k_is,_,_,_,_,_,_,_,_,_,by k_is,by k_is,by k_is⟩
  case u4=>exact⟨by k_is,_,_,_,_,_,_,_,_,_,by k_is,by k_is,by k_is⟩
  case u5=>exact⟨by k_is,_,_,_,_,_,_,_,_,_,by k_is,by k_is,by k_is⟩
  case u6=>exact⟨by k_is,_,_,_,_,_,_,_,_,_,by k_is,by k_is,by k_is⟩
  case u7=>exact⟨by k_is,_,_,_,_,_,_,_,_,_,by k_is,by k_is,by k_is⟩
  case u8=>exact⟨by k_is,_,_,_,_,_,_,_,_,_,by k_is,by k_is,by k_is⟩
  case u9=>exact⟨by k_is,_,_,_,_,_,_,_,_,_,by k_is,by k_is,by k_is⟩
  case u10=>exact⟨by k_is,_,_,_,_,_,_,_,_,_,by k_is,by k_is,by k_is⟩
  case u11=>exact⟨by k_is,_,_,_,_,_,_,_,_,_,by k_is,by k_is,by k_is⟩
  case u12=>exact⟨by k_is,_,_,_,_,_,_,_,_,_,by k_is,by k_is,by k_is⟩
  case u13=>exact⟨by k_is,_,_,_,_,_,_,_,_,_,by k_is,by k_is,by k_is⟩
  case u14=>exact⟨by k_is,_,_,_,_,_,_,_,_,_,by k_is,by k_is,by k_is⟩
  case u15=>exact⟨by k_is,_,_,_,_,_,_,_,_,_,by k_is,by k_is,by k_is⟩
  case u16=>exact⟨by k_is,_,_,_,_,_,_,_,_,_,by k_is,by k_is,by k_is⟩
  case u17=>exact⟨by k_is,_,_,_,_,_,_,_,_,_,by k_is,by k_is,by k_is⟩
  case u18=>exact⟨by k_is,_,_,_,_,_,_,_,_,_,by k_is,by k_is,by k_is⟩
  case u19=>exact⟨by k_is,_,_,_,_,_,_,_,_,_,by k_is,by k_is,by k_is⟩
  case u20=>exact⟨by k_is,_,_,_,_,_,_,_,_,_,by k_is,by k_is,by k_is⟩
  case u21=>exact⟨by k_is,_,_,_,_,_,_,_,_,_,by k_is,by k_is,by k_is⟩
  case u22=>exact⟨by k_is,_,_,_,_,_,_,_,_,_,by k_is,by k_is,by k_is⟩
  case u23=>exact⟨by k_is,_,_,_,_,_,_,_,_,_,by k_is,by k_is,by k_is⟩
  case u24=>exact⟨by k_is,_,_,_,_,_,_,_,_,_,by k_is,by k_is,by k_is⟩
  case u25=>exact⟨by k_is,_,_,_,_,_,_,_,_,_,by k_is,by k_is,by k_is⟩
  case u26=>exact⟨by k_is,_,_,_,_,_,_,_,_,_,by k_is,by k_is,by k_is⟩
  case u27=>exact⟨by k_is,_,_,_,_,_,_,_,_,_,by k_is,by k_is,by k_is⟩
  case u28=>exact⟨by k_is,_,_,_,_,_,_,_,_,_,by k_is,by k_is,by k_is⟩
  case u29=>exact⟨by k_is,_,_,_,_,_,_,_,_,_,by k_is,by k_is,by k_is⟩
  case u30=>exact⟨by k_is,_,_,_,_,_,_,_,_,_,by k_is,by k_is,by k_is⟩
  case u31=>exact⟨by k_is,_,_,_,_,_,_,_,_,_,by k_is,by k_is,by k_is⟩
  case u32=>exact⟨by k_is,_,_,_,_,_,_,_,_,_,by k_is,by k_is,by k_is⟩
  case u33=>exact⟨by k_is,_,_,_,_,_,_,_,_,_,by k_is,by k_is,by k_is⟩
  case u34=>exact⟨by k_is,_,_,_,_,_,_,_,_,_,by k_is,by k_is,by k_is⟩
  case u35=>exact⟨by k_is,_,_,_,_,_,_,_,_,_,by k_is,by k_is,by k_is⟩
  case u36=>exact⟨by k_is,_,_,_,_,_,_,_,_,_,by k_is,by k_is,by k_is⟩
  case u37=>exact⟨by k_is,_,_,_,_,_,_,_,_,_,by k_is,by k_is,by k_is⟩
  case u38=>exact⟨by k_is,_,_,_,_,_,_,_,_,_,by k_is,by k_is,by k_is⟩
  case u39=>exact⟨by k_is,_,_,_,_,_,_,_,_,_,by k_is,by k_is,by k_is⟩
  case u40=>exact⟨by k_is,_,_,_,_,_,_,_,_,_,by k_is,by k_is,by k_is⟩
  case u41=>exact⟨by k_is,_,_,_,_,_,_,_,_,_,by k_is,by k_is,by k_is⟩
  case u42=>exact⟨by k_is,_,_,_,_,_,_,_,_,_,by k_is,by k_is,by k_is⟩
  (case zc=>kernel_rfl)
  (case zcN=>kernel_rfl)
  (case zcB=>kernel_rfl)
  (case zcD=>kernel_rfl)
  (case zeM=>kernel_rfl)
  (case zeT=>kernel_rfl)
  (case zb=>kernel_rfl)
