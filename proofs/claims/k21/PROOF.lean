import PyProof.Rows.All
import Wide.All
import OpenK.KLine
import OpenK.KOwn
import OpenK.KMore
import OpenK.KMake
import OpenK.KList
import OpenK.KFacts
import OpenK.KDescr
import OpenK.KGet
import OpenK.KCall
import OpenK.KCls
import OpenK.Peek
import OpenK.Lit
import KE.KIsAll
import KE.KItem
import Wide.FinOn
import Lean
import PyProof.EqAt
import PyProof.EqKinds
import PyProof.NeKinds
import PyProof.TupleCall
import PyProof.CollectStr
import PyProof.FactsAll.tuple
import PyProof.Draws
import PyProof.EnumMake
import PyProof.ListTruth
import PyProof.RaisesMany
import PyProof.Rows.SetFrom
import PyProof.StrLawsIn
import PyProof.TupleIter
import PyProof.FactsAll.dict_1
import PyProof.FactsAll.subtypes_3
import PyProof.FactsAll.subtypes_4
import PyProof.StrCalls
import PyProof.NsDelKeeps
import PyProof.RulesAs
import PySem.Challenge.RW_tastegrove_k21_tastes_and_none
set_option Elab.async false
set_option linter.all false
set_option maxRecDepth 100000
set_option maxHeartbeats 0
set_option compiler.extract_closed false
set_option genSizeOf false
namespace T21
open PySem
def top(i:Nat):Stmt:=PySem.Challenge.pw_tastegrove_k21_tastes_and_none.main.body.getD i (.Pass ⟨0,0,0,0⟩)
abbrev pw:Program:=PySem.Challenge.pw_tastegrove_k21_tastes_and_none
def vw:Program:={pw with main:={pw.main with body:=[top 1,top 2,top 3,top 4,top 5,top 6,top 7,top 9,top 10,top 11,top 13,top 14,top 16,top 17,top 18,top 19,top 20,top 22,top 23,top 24,top 25,top 27,top 28,top 29,top 30,top 31,top 32,top 33,top 34,top 35,top 37,top 38,top 39,top 40,top 41,top 42]}}
open PySem.W in
theorem left_boot{p q:Program}{loose:List Str}{Xt:Shared→Bool}{α:Type}{Yf:Shared→α}{Ya:World→α}{N:Nat}{g0:Bool}(e:opening p=PySem.W.plainProg p.main.scope.names)(hN:Nat.ble 600 N=true)(f:∀s,fenceModules? p s=some s)
  (h1:∀(w:World) (os:OsState),(PySem.W.topFrom treeTable p w N ⟨PySem.W.boot_heap w.params,Array.mk [],PySem.W.boot_drawn,PySem.W.boot_toks,os⟩).map (fun s=>PySem.W.openSeen q loose (importedModules p.main.body) Xt g0 s)=some (PySem.W.openGood q loose))
  (h2:∀(w:World) (os:OsState),(PySem.W.topFrom treeTable p w N ⟨PySem.W.boot_heap w.params,Array.mk [],PySem.W.boot_drawn,PySem.W.boot_toks,os⟩).map Yf=some (Ya w)):PySem.W.LeftO p q loose Xt Yf Ya N g0:=fun w=>by
 obtain⟨⟨h,gs,d,k,os⟩,e1,e2⟩:=Option.map_eq_some_iff.mp (PySem.W.boot_open e hN f w)
 simp only[Prod.mk.injEq]at e2
 obtain⟨rfl,rfl,rfl,rfl⟩:=e2
 unfold PySem.W.openEnds
 rw[e1]
 show(PySem.W.topFrom treeTable p w N _).map _=_
 have a:=h1 w os
 have b:=h2 w os
 cases t:PySem.W.topFrom treeTable p w N ⟨PySem.W.boot_heap w.params,Array.mk [],PySem.W.boot_drawn,PySem.W.boot_toks,os⟩with
 |none=>rw[t]at a;cases a
 |some x=>
  rw[t]at a b
  simp only[Option.map_some,Option.some.injEq]at a b⊢
  rw[a,b]
theorem helper{A B C:Prop}(f:A→B→C)(hw:A)(call:B):C:=f hw call
def q1{A B W V:Prop}(_:(A∧B)∧W→V):Prop:=A
def q2{A B W V:Prop}(_:(A∧B)∧W→V):Prop:=B
end T21
open PySem PySem.W PyProof.Rows in
local macro_rules | `(tactic| o_head $H) => `(tactic| (apply T21.helper (fun hw hc => holds_open (q := T21.vw) (loose := []) (Xt := fun s => xlAt T21.vw [] s && recOk (RowW.records (OpenRow.toRowW (OpenLaw.row PySem.Challenge.rw_tastegrove_k21_tastes_and_none))) s) (XP := XL T21.vw []) (Yf := Hook.obs $H) (Ya := Hook.val $H) (YP := Hook.says $H) (N := 6892) (T21.left_boot (by rfl) (by decide) (fun _ => by rfl) (And.left (And.left hc)) (And.right (And.left hc))) (Hook.of $H) (Hook.keeps $H) (fun s e => xl_of s (Bool.and_eq_true_iff.mp e).1) XL.keeps (by rfl) (by rfl) (by rfl) (fun s e => recFacts_of (Bool.and_eq_true_iff.mp e).2) (by rfl) (by first | assumption | decide +kernel) (by decide +kernel) ⟨rfl, rfl, rfl, rfl, rfl, by decide +kernel⟩ hw (And.right hc))))
open PySem PySem.W PyProof.Rows in
open_top T21.tp for PySem.Challenge.rw_tastegrove_k21_tastes_and_none
theorem T21.h1:T21.q1 @T21.tp:=by
 unfold T21.q1
 intro w os
 kernel_rfl
theorem T21.h2:T21.q2 @T21.tp:=by
 unfold T21.q2
 intro w os
 kernel_rfl
open PySem renaming wpAny_bind → aa, Value → ae, Shared → af, starEach → al, wpAny_pure → am, Program → aF, sizeLine → aJ, model → aN, FuncData → aR, World → aS, wpAny_mono → aW, mainGlobals → ba, wpAny_field → bu, backTo → bC, wpAny_newObj_type → bE, Builtin → bH, attributeBase → bL, bootBuiltins → cj, wpAny_callSpecial?_slot → cq, compareOp → cr, binaryOp → cx, wpAny_holding → cH, wpAny_call_entry → c9, wpAny_seqItems → dD, foldedSetIterable → dI, wpAny_execs_nil → dL, IsPair → dO, NameKind → dP, keywordEach → dW, wpAny_setField_rec → dZ, swapsWith → eN, lookup_relabel_local → eP, sysModules → eS, call_meets → eU, behindInMarks → eW, Scope → e8, sizeLine_eq → fC, wpAny_Call_Name_kw → fF, wpAny_passesOwn → fK, cLine → fS, Keyword → fT, backToKw → gJ, getItem → ii, wpAny_rule → iy, sliceBounds → iL, letOwnedTupleGo → i0, wpAny_typeOf → je, DictEntry → ju, typeIs_int → jw, assignEach → jA, Operator → jB, wpAny_binaryOp_repeat_ref → jM, wpAny_truthy_bool → ke, wpAny_onRaise → kC, wpAny_comprehension_free → kD, wpAny_attempt → kE, wpAny_execs_cons → lh, codeAny_mono → mG, codeAny_compStart_list → mH, wpAny_updateSeq → mV, wpAny_updateSeq_pair → oi, wpAny_setField → oj, wpAny_of_eq → om, wpAny_newFunctionEnv → oo, tupleKind_room_in1 → qw, wpAny_sequenceKey → rT, wpAny_loadPart_at → rV, slot_list_getitem → ss, wpAny_getItem_list_slice → Ag
open PySem.Heap renaming get?_push_of_some → ai, lt_size → aw, get?_push_size → aH, get?_update_other → bY, size_push → cQ, SameBut → dJ, get?_update_self → fE
open List renaming getElem?_eq_some_iff → aj, getElem?_eq_getElem → ak, size_toArray → ap, mem_of_getElem? → ax, mem_map → ay, mem_cons → aA, length_map → aB, mem_singleton → aC, map_cons → aD, replicate → aE, getElem?_map → aI, length_append → aM, not_mem_nil → aP, mem_append_right → aT, length_cons → aX, mem_append → bj, nodup_cons → bp, all_eq_true → bv, length_take → bz, map_append → bD, replicate_succ → bF, append_nil → bI, mem_flatMap → bQ, getElem?_append_right → bS, getElem?_set_ne → bW, take_length → ce, length_reverse → cf, getElem?_set_self → cw, map_map → cF, mem_cons_of_mem → cI, any_cons → cK, take_add_one → cO, flatten_cons → cP, filterMap_cons → cW, getElem?_append_left → c6, flatMap_cons → dA, range → dC, sum_cons → dN, getElem?_eq_none → dU, drop_eq_getElem_cons → dY, find?_cons → eA, append_assoc → eD, all_cons → eK, getElem?_range → eQ, lookup_cons → eR, reverse_cons → fJ, map_congr_left → gh, mem_filter → gy, mem_cons_self → gA, take_append_drop → gX, mem_iff_getElem? → gY, filterMap_append → gZ, lookup → il, length_nil → iw, filter_eq_self → iE, nodup_append → jr, getElem_mem → jF, getElem?_replicate → jG, filter_cons_of_pos → jH, filter_cons_of_neg → jI, cons_append → jJ, map_nil → kz, nil_append → kO, forIn_cons → kQ, take_succ → lG, mem_range → lH, mem_of_mem_take → lI, length → lJ, eq_nil_of_length_eq_zero → qH, countP_eq_length_filter → rM, pairwise_iff_getElem → vg, getElem_append_right → vh, getElem_append_left → vq, getElem?_cons_zero → wV
open Nat renaming le_refl → aq, ne_of_lt → aQ, lt_of_lt_of_le → aU, le_of_ble_eq_true → aV, le_trans → aZ, zero_le → cg, lt_irrefl → cL, lt_or_ge → cV, lt_succ_of_lt → eJ, pos_of_ne_zero → fz, le_succ → fP, lt_succ_self → fZ, le_of_lt → gS, not_lt_zero → iD, ne_of_gt → iS, lt_of_le_of_lt → ja, mul_comm → kK, lt_succ_of_le → qp
open PySem.Value renaming ref → au, none → bc, type → br, bool → c7, int → dz, str → iI, builtin → jp
open Bool renaming and_eq_true → av, false_ne_true → bi, not_eq_true' → gQ, and_false → lK, false_eq_true → oh, and_eq_true_iff → zZ
open Ne renaming symm → aG
open PySem.SeqAt renaming EqAt → aO
open PySem.Str renaming ofString → aY
open Option.some renaming inj → a8
open PyProof.Rows renaming slot_tuple_getitem → bf, callWith_type1 → eX, envOfC → jE, AllBare → kB, entry_tuple_getitem → qa, args_tuple_getitem → qF
open PySem.Builtin.SmallTypes renaming nextOf → bw
open False renaming elim → bG
open PySem.Builtin.Slice renaming slicePlaces → bN, sliceAdjust → dG, sliceApplied → fj, sliceFields → og
open PySem.Builtin.Tuple renaming tupleExact → bV, tupleTooMany → hJ, tupleItemsOf → hZ, tupleIsExact → nR
open True renaming intro → ck
open Array renaming length_toList → cS, getElem?_eq_some_iff → iV, toList_append → mT, size_append → oE
open PySem.Builtin.List renaming listTooLong → cY, listExtendWith → eY, listSameRef → o5
open PySem.Data renaming fields → cZ, seq → eE
open PySem.Obj renaming mapSeq → eM
open PySem.Txt renaming slice → fD, join → kc
open PySem.Builtin.Range renaming rangeSize → fM
open ForInStep renaming yield → fU
open PySem.Builtin.Str renaming occurrences → fV
open PySem.AutoSeq1 renaming wpAny_loadPart' → fW
open PySem.F renaming slot_tuple_iterator_next → gf, slot_zip_next → gC, slot_int_rmul → gD, slot_tuple_mul → kS, args_zip_next_1 → qI, args_int_rmul_2 → qJ, slot_int_index → tG, slot_dict_keyiterator_iter → vk, args_tuple_iterator_next_1 → vm, entry_tuple_iterator_next → vt, slot_tuple_rmul → JL
open PySem.Calls renaming callWith_builtin → gL, spliced_cons → iT, Name_function_global → iU, evalArgs_plain → lE, spliced_nil → oB, loadGlobal_global → vv
open Or renaming inr → ik, inl → iJ
open Int renaming ofNat_inj → im, emod_lt_of_pos → jb, emod_nonneg → lg, toNat_natCast → qr
open PySem.NameKind renaming free → iX
open Option renaming some → i9, isSome_iff_exists → jd
open PySem.Heap.IsSliceOf renaming new → jK
open Prod.mk renaming inj → kJ
open PySem.SeqAt.EqAt renaming str_int → le, int_str → lf
local macro_rules | `(tactic| ac_nf) => `(tactic| first | lia | omega)
namespace L2
open PySem PySem.Spec PyProof.Rows
noncomputable abbrev Key:=Sum Int Str
noncomputable def rf:Key->ae->Bool
 | .inl k,v=>ae.isInt k v
 | .inr x,v=>ae.isStrOf x v
noncomputable def Nq(w:aS):Key->Int
 | .inl k=>hashInt k
 | .inr x=>hashStr w x
theorem dB:∀{k:Key} {v:ae},rf k v=true->(∃i t,k=Sum.inl i/\v=dz i t)\/(∃x t,k=Sum.inr x/\v=iI x t)
 | .inl i,v,h=>by
  obtain⟨t,e⟩:=ae.isInt_shape (k:=i) (v:=v) h
  exact .inl ⟨i,t,rfl,e⟩
 | .inr x,v,h=>by
  obtain⟨t,e⟩:=ae.isStrOf_shape (x:=x) (v:=v) h
  exact .inr ⟨x,t,rfl,e⟩
theorem zq(i:Int)(t:Tok):rf (.inl i) (.int i t)=true:=by simp[rf,ae.isInt]
theorem zp(x:Str)(t:Tok):rf (.inr x) (.str x t)=true:=by simp[rf,ae.isStrOf]
theorem HY(a b:Int):decide ((Sum.inl a:Key)=Sum.inl b)=(a==b):=by
 by_cases e:a=b
 ·subst e;simp
 ·have h:¬(Sum.inl a:Key)=Sum.inl b:=λq=>e (Sum.inl.inj q)
  rw[decide_eq_false h]
  exact(beq_eq_false_iff_ne.mpr e).symm
theorem HV(a b:Str):decide ((Sum.inr a:Key)=Sum.inr b)=decide (a=b):=by
 by_cases e:a=b
 ·subst e;simp
 ·have h:¬(Sum.inr a:Key)=Sum.inr b:=λq=>e (Sum.inr.inj q)
  rw[decide_eq_false h,decide_eq_false e]
theorem HX(a:Int)(b:Str):decide ((Sum.inl a:Key)=Sum.inr b)=false:=decide_eq_false (λq=>nomatch q)
theorem HW(a:Str)(b:Int):decide ((Sum.inr a:Key)=Sum.inl b)=false:=decide_eq_false (λq=>nomatch q)
noncomputable def mixKind(prog:aF)(w:aS):PySem.KeyKind prog w Key where
 is:=rf
 hash:=Nq w
 inj:=λv a b ha hb=>by
  rcases dB ha with⟨i,t,rfl,rfl⟩|⟨x,t,rfl,rfl⟩
  ·rcases dB hb with⟨j,u,rfl,e⟩|⟨y,u,rfl,e⟩
   ·injection e with e1 _;rw[e1]
   ·exact nomatch e
  ·rcases dB hb with⟨j,u,rfl,e⟩|⟨y,u,rfl,e⟩
   ·exact nomatch e
   ·injection e with e1 _;rw[e1]
 byValue:=λk v h=>by
  rcases dB h with⟨i,t,rfl,rfl⟩|⟨x,t,rfl,rfl⟩<;>rfl
 pyHash:=λhv h=>by
  rcases dB hv with⟨i,t,rfl,rfl⟩|⟨x,t,rfl,rfl⟩
  ·exact wpAny_pyHash_int h
  ·exact wpAny_pyHash_str h
 eqBool:=λhu hv h=>by
  rcases dB hu with⟨i,t,rfl,rfl⟩|⟨x,t,rfl,rfl⟩
  ·rcases dB hv with⟨j,u,rfl,rfl⟩|⟨y,u,rfl,rfl⟩
   ·rw[HY]at h;exact wpAny_eqBool_int h
   ·rw[HX]at h;exact lf i t y u _ _ _ _ h
  ·rcases dB hv with⟨j,u,rfl,rfl⟩|⟨y,u,rfl,rfl⟩
   ·rw[HW]at h;exact le x t j u _ _ _ _ h
   ·rw[HV]at h;exact wpAny_eqBool_str h
 «strs»:=λk x t v h=>by
  rcases dB h with⟨i,u,rfl,e⟩|⟨y,u,rfl,e⟩
  ·exact nomatch e
  ·injection e with e1 _
   subst e1
   cases v<;>rfl
theorem uC(prog:aF)(w:aS)(i:Int)(t:Tok):(mixKind prog w).is (.inl i) (.int i t)=true:=zq i t
theorem uB(prog:aF)(w:aS)(x:Str)(t:Tok):(mixKind prog w).is (.inr x) (.str x t)=true:=zp x t
inductive V where
 |non|bl (b:Bool)|int (i:Int)|str (x:Str)|byt (b:Array UInt8)|flt (b:UInt64)|ref (a:Addr)|ty (n:String)
 deriving DecidableEq
noncomputable def RelV:V->ae->Prop
 | .non,u=>u=bc
 | .bl b,u=>u=c7 b
 | .int i,u=>∃t,u=dz i t
 | .str x,u=>∃t,u=iI x t
 | .byt b,u=>∃t,u=ae.bytes b t
 | .flt b,u=>∃t,u=ae.float b t
 | .ref a,u=>u=au a
 | .ty n,u=>u=br n
noncomputable abbrev Vals:List V->List ae->Prop:=Paired RelV
theorem Vals.length{xs:List V}{us:List ae}(r:Vals xs us):xs.length=us.length:=Paired.length r
theorem Vals.get:∀{xs:List V} {us:List ae} {i:Nat} {x:V},Vals xs us->xs[i]? =some x->∃u,us[i]? =some u/\RelV x u
 |_,_,_,_,.nil,e=>by simp at e
 |_,_,0,_,.cons r _,e=>by simp at e;subst e;exact⟨_,rfl,r⟩
 |_,_,i+1,x,.cons _ t,e=>by
  obtain⟨u,h1,h2⟩:=Vals.get (i:=i) (x:=x) t (by simpa using e)
  exact⟨u,by simpa using h1,h2⟩
theorem Vals.set{x:V}{u:ae}(r:RelV x u):∀{xs:List V} {us:List ae} (i:Nat),Vals xs us->Vals (xs.set i x) (us.set i u)
 |_,_,_,.nil=> .nil
 |_,_,0,.cons _ t=> .cons r t
 |_,_,i+1,.cons q t=> .cons q (Vals.set r i t)
theorem Vals.append:∀{xs ys:List V} {us ws:List ae},Vals xs us->Vals ys ws->Vals (xs++ys) (us++ws)
 |_,_,_,_,.nil,s=>s
 |_,_,_,_,.cons r t,s=> .cons r (Vals.append t s)
theorem Vals.take:∀{xs:List V} {us:List ae} (n:Nat),Vals xs us->Vals (xs.take n) (us.take n)
 |_,_,0,_=> .nil
 |_,_,_+1,.nil=> .nil
 |_,_,n+1,.cons r t=> .cons r (Vals.take n t)
theorem Vals.drop:∀{xs:List V} {us:List ae} (n:Nat),Vals xs us->Vals (xs.drop n) (us.drop n)
 |_,_,0,r=>r
 |_,_,_+1,.nil=> .nil
 |_,_,n+1,.cons _ t=>Vals.drop n t
noncomputable def RelO:Option V->Option ae->Prop
 |some v,some u=>RelV v u
 |none,none=>True
 |_,_=>False
noncomputable def KV{κ:Type}:List (κ×V)->List (κ×ae)->Prop:=Paired fun(p:κ×V) (q:κ×ae)=>p.1=q.1/\RelV p.2 q.2
noncomputable def kV:Key->V
 | .inl i=> .int i
 | .inr x=> .str x
inductive HO where
  |lst (xs:List V)
  |tup (xs:List V)
  |dK (kvs:List (Key×V))|dT (kvs:List (List Key×V))
  |set (S:Int->Bool) (n:Nat)
  |ins (C dx:Addr) (fs:List (Str×V))
  |own (x:Addr)
  |xd (fs:List (Str×V))
  |met (f x:Addr)
  |rng (lo hi:Int)
  |frz (o:Obj) (u:HO)
  |tbl (ps:Array ae)
  |ext (φ:Heap->Prop)
noncomputable abbrev Hp:=Addr->Option HO
noncomputable def upd(H:Hp)(a:Addr)(o:HO):Hp:=λb=>if b=a then some o else H b
theorem cb{H:Hp}{a:Addr}{o:HO}:upd H a o a=some o:=by unfold upd;rw[if_pos rfl]
theorem bo{H:Hp}{a b:Addr}{o:HO}(h:b≠a):upd H a o b=H b:=by unfold upd;rw[if_neg h]
theorem KN{H:Hp}{a b:Addr}{o u:HO}(h:H a=some o)(h':H b=some u)(d:o≠u):a≠b:=by
 intro e;subst e;rw[h]at h';exact d (a8 h')
theorem bZ{H:Hp}{a b:Addr}{o:HO}(h:H a=some o)(h':H b=none):a≠b:=by
 intro e;subst e;rw[h]at h';cases h'
section
variable(P:aF)(w:aS)
noncomputable def ObjOk(H:Hp)(h:Heap)(a:Addr):HO->Prop
 | .lst xs=>xs.length<=aJ/\∃(its:List ae) (n:Nat),Vals xs its/\h.get? a=some {cls:= .type "list",data:= .seq its.toArray n}
 | .tup xs=>xs.length<=aJ/\∃its:List ae,Vals xs its/\IsTup h a its.toArray
 | .dK kvs=>kvs.length<=aJ/\(a==eS)=false/\∃vs,KV kvs vs/\h.DictOf (mixKind P w) a vs
 | .dT kvs=>kvs.length<=aJ/\(a==eS)=false/\∃xs:List (List Key×Addr×ae),
   Paired (fun(p:List Key×V) (q:List Key×Addr×ae)=>p.1=q.1/\H q.2.1=some (.tup (p.1.map kV))/\RelV p.2 q.2.2) kvs xs/\
   ∃o es ep,h.get? a=some o/\o.ExactDict/\o.data= .dict es ep/\es.toList=xs.map (entryOfKey (tupleKind (mixKind P w)))/\(xs.map (·.1)).Nodup
 | .set S n=>h.SetOf (intKind P w) a S n
 | .ins C dx fs=>H dx=some (.own a)/\fs.length<=1000/\dx≠a/\h.get? a=some (PySem.W.instObj C dx)/\
   ∃mA,h.Ns1 dx mA/\(∀f,RelO (fs.lookup f) (mA f))/\PySem.Within mA (fs.map (·.1))
 | .own _=>∃o,h.get? a=some o
 | .xd fs=>∃mA,h.Ns1 a mA/\∀f,RelO (fs.lookup f) (mA f)
 | .rng lo hi=>∃t u v,h.get? a=some {cls:= .type "range",data:= .fields #[.int lo t,.int hi u,.int 1 v]}
 | .frz o u=>h.get? a=some o/\ObjOk H h a u
 | .tbl ps=>h.get? a=some {cls:= .none,data:= .fields ps}
 | .met f x=>h.get? a=some (PySem.W.methodObj (.ref f) (.ref x))
 | .ext φ=>φ h/\(∃o,h.get? a=some o)/\∀h1 h2:Heap,φ h1->(∀o,h1.get? a=some o->h2.get? a=some o)->φ h2
noncomputable def HOk(H:Hp)(h:Heap):Prop:=∀a o,H a=some o->ObjOk P w H h a o
end
section
variable{P:aF}{w:aS}{H H':Hp}{h h':Heap}{a:Addr}{o:HO}
theorem ObjOk.lt(x:ObjOk P w H h a o):a<h.objs.size:=by
 cases o with
 |lst xs=>obtain⟨_,_,_,_,e⟩:=x;exact aw e
 |tup xs=>obtain⟨_,_,_,p⟩:=x;exact p.lt
 |dK kvs=>obtain⟨_,_,_,_,o,_,_,e,_⟩:=x;exact aw e
 |dT kvs=>obtain⟨_,_,_,_,o,_,_,e,_⟩:=x;exact aw e
 |set S n=>obtain⟨o,_,_,_,e,_⟩:=x;exact aw e
 |ins C dx fs=>obtain⟨_,_,_,e,_⟩:=x;exact aw e
 |own y=>obtain⟨_,e⟩:=x;exact aw e
 |xd fs=>obtain⟨_,⟨_,_,_,e,_⟩,_⟩:=x;exact aw e
 |rng lo hi=>obtain⟨_,_,_,e⟩:=x;exact aw e
 |frz ob u=>obtain⟨e,_⟩:=x;exact aw e
 |tbl ps=>exact aw (show h.get? a=some _ from x)
 |met f y=>exact aw (show h.get? a=some _ from x)
 |ext φ=>obtain⟨_,⟨_,e⟩,_⟩:=x;exact aw e
theorem Paired.mapP{α β:Type}{F G:α->β->Prop}:∀{l₁:List α} {l₂:List β},Paired F l₁ l₂->(∀a b,F a b->G a b)->Paired G l₁ l₂
 |_,_,.nil,_=> .nil
 |_,_,.cons r t,f=> .cons (f _ _ r) (Paired.mapP t f)
theorem ObjOk.stay(x:ObjOk P w H h a o)(k:∀b u,(b=a\/H b=some (.own a))->h.get? b=some u->h'.get? b=some u)
  (ho:∀b,H b=some (.own a)->H' b=some (.own a)) (ht:∀b xs,H b=some (.tup xs)->H' b=some (.tup xs)):ObjOk P w H' h' a o:=by
 induction o with
 |lst xs=>obtain⟨z,its,n,r,e⟩:=x;exact⟨z,its,n,r,k _ _ (.inl rfl) e⟩
 |tup xs=>obtain⟨z,its,r,ob,e,c⟩:=x;exact⟨z,its,r,ob,k _ _ (.inl rfl) e,c⟩
 |dK kvs=>obtain⟨z,y,vs,r,ob,es,ep,e,c⟩:=x;exact⟨z,y,vs,r,ob,es,ep,k _ _ (.inl rfl) e,c⟩
 |dT kvs=>
  obtain⟨z,y,xs,r,ob,es,ep,e,c⟩:=x
  exact⟨z,y,xs,Paired.mapP r λp q z=>⟨z.1,ht _ _ z.2.1,z.2.2⟩,ob,es,ep,k _ _ (.inl rfl) e,c⟩
 |set S n=>obtain⟨ob,es,ep,t,e,c⟩:=x;exact⟨ob,es,ep,t,k _ _ (.inl rfl) e,c⟩
 |ins C dx fs=>
  obtain⟨d,z,ne,e,mA,⟨od,es,ep,e2,c⟩,r⟩:=x
  exact⟨ho _ d,z,ne,k _ _ (.inl rfl) e,mA,⟨od,es,ep,k _ _ (.inr d) e2,c⟩,r⟩
 |own y=>obtain⟨ob,e⟩:=x;exact⟨ob,k _ _ (.inl rfl) e⟩
 |xd fs=>obtain⟨mA,⟨od,es,ep,e,c⟩,r⟩:=x;exact⟨mA,⟨od,es,ep,k _ _ (.inl rfl) e,c⟩,r⟩
 |rng lo hi=>obtain⟨t,u,v,e⟩:=x;exact⟨t,u,v,k _ _ (.inl rfl) e⟩
 |frz ob u ih=>obtain⟨e,q⟩:=x;exact⟨k _ _ (.inl rfl) e,ih q⟩
 |tbl ps=>
  have e:h.get? a=some {cls:= .none,data:= .fields ps}:=x
  show h'.get? a=some {cls:= .none,data:= .fields ps}
  exact k a _ (.inl rfl) e
 |met f y=>
  have e:h.get? a=some (PySem.W.methodObj (.ref f) (.ref y)):=x
  show h'.get? a=some (PySem.W.methodObj (.ref f) (.ref y))
  exact k a _ (.inl rfl) e
 |ext φ=>obtain⟨p,⟨o,e⟩,st⟩:=x;exact⟨st _ _ p λo q=>k _ _ (.inl rfl) q,⟨o,k _ _ (.inl rfl) e⟩,st⟩
theorem HOk.lt(x:HOk P w H h)(e:H a=some o):a<h.objs.size:=(x a o e).lt
theorem HOk.fresh(x:HOk P w H h)(e:h.objs.size<=a):H a=none:=by
 cases q:H a with
 |none=>rfl
 |some u=>exact absurd (aU (x.lt q) e) (cL _)
theorem HOk.kept(x:HOk P w H h)(k:∀b u,h.get? b=some u->h'.get? b=some u):HOk P w H h':=λa o e=>
 (x a o e).stay (λb u _ q=>k b u q) (λ_ q=>q) λ_ _ q=>q
theorem HOk.laid(x:HOk P w H h)(k:∀b u,h.get? b=some u->h'.get? b=some u)(hp:h.objs.size<=a)(new:ObjOk P w (upd H a o) h' a o):HOk P w (upd H a o) h':=λb u e=>by
 have hn:=x.fresh hp
 by_cases hb:b=a
 ·subst hb;rw[cb]at e;cases e;exact new
 ·rw[bo hb]at e
  exact(x b u e).stay (λc v _ q=>k c v q) (λc q=>by rw[bo (bZ q hn)];exact q) λc xs q=>by rw[bo (bZ q hn)];exact q
end
noncomputable def Rd(H:Hp)(a:Addr)(u:HO):Prop:=H a=some u\/∃o,H a=some (.frz o u)
theorem Rd.ok{P:aF}{w:aS}{H:Hp}{h:Heap}{a:Addr}{u:HO}(r:Rd H a u)(x:HOk P w H h):ObjOk P w H h a u:=by
 rcases r with r|⟨o,r⟩
 ·exact x a u r
 ·obtain⟨_,q⟩:=x a _ r
  exact q
noncomputable def L8:Option HO->Prop
 |some (.lst _)=>True
 |some (.dK _)=>True
 |some (.dT _)=>True
 |some (.set _ _)=>True
 |some (.ins _ _ _)=>True
 |some (.ext _)=>True
 |_=>False
section
variable{P:aF}{w:aS}{H:Hp}{h h':Heap}{x e:Addr}{o':HO}
theorem HOk.write(ok:HOk P w H h)(mu:L8 (H x))(he:e=x\/H e=some (.own x))(k:∀b u,b≠e->h.get? b=some u->h'.get? b=some u)(heo:∃u,h'.get? e=some u)
  (new:ObjOk P w (upd H x o') h' x o'):HOk P w (upd H x o') h':=λb u q=>by
 have nown:∀c y,H c=some (.own y)->c≠x:=λc y r z=>by subst z;rw[r]at mu;exact mu
 have ntup:∀c xs,H c=some (.tup xs)->c≠x:=λc xs r z=>by subst z;rw[r]at mu;exact mu
 by_cases hb:b=x
 ·subst hb;rw[cb]at q;cases q;exact new
 ·rw[bo hb]at q
  by_cases hbe:b=e
  ·have q':H b=some (.own x):=by
    rcases he with z|z
    ·exact absurd (hbe.trans z) hb
    ·rw[hbe];exact z
   rw[q]at q';cases q'
   obtain⟨v,hv⟩:=heo
   exact⟨v,by rw[hbe];exact hv⟩
  ·refine(ok b u q).stay (λc v hc r=>k c v ?_ r) (λc r=>by rw[bo (nown c b r)];exact r) λc xs r=>by rw[bo (ntup c xs r)];exact r
   rcases hc with rfl|hc
   ·exact hbe
   ·rintro rfl
    rcases he with z|z
    ·exact nown c b hc z
    ·rw[hc]at z;cases z;exact hb rfl
end
structure Un(fs ex:List Addr)(H H':Hp)(h h':Heap):Prop where
 keep:∀b o,h.get? b=some o->H b=none->b∉fs->b∉ex->h'.get? b=some o
 slot:∀b o,h.get? b=some o->H b=none->b∈fs->b∉ex->∃sl,h'.get? b=some {o with slots:=sl}
 free:∀b o,h.get? b=some o->H b=none->b∉ex->H' b=none
 there:∀b o,h.get? b=some o->b∉ex->∃o',h'.get? b=some o'
 tups:∀b xs,H b=some (.tup xs)->H' b=some (.tup xs)
 frzs:∀b o u,H b=some (.frz o u)->H' b=some (.frz o u)
 tbls:∀b ps,H b=some (.tbl ps)->∃more,H' b=some (.tbl (ps++more))
section
variable{fs ex:List Addr}{H H1:Hp}{h h1 h':Heap}{a x e:Addr}{o:HO}
theorem Un.any(u:Un fs ex H H1 h h1){b:Addr}{ob:Obj}(q:h.get? b=some ob)(n:H b=none)(hx:b∉ex):∃sl,h1.get? b=some {ob with slots:=sl}:=by
 by_cases hb:b∈fs
 ·exact u.slot b ob q n hb hx
 ·exact⟨ob.slots,u.keep b ob q n hb hx⟩
theorem Un.kept(k:∀b u,h.get? b=some u->h'.get? b=some u):Un fs ex H H h h':=
 ⟨λb ob q _ _ _=>k b ob q,λb ob q _ _ _=>⟨ob.slots,k b ob q⟩,λ_ _ _ n _=>n,λb ob q _=>⟨ob,k b ob q⟩,λ_ _ q=>q,λ_ _ _ q=>q,λ_ ps q=>⟨#[],by rw[q];simp⟩⟩
theorem Un.refl:Un fs ex H H h h:=Un.kept λ_ _ q=>q
theorem Un.laid(k:∀b u,h.get? b=some u->h'.get? b=some u)(hp:h.objs.size<=a)(hn:H a=none):Un fs ex H (upd H a o) h h' where
 keep:=λb u q _ _ _=>k b u q
 slot:=λb u q _ _ _=>⟨u.slots,k b u q⟩
 free:=λb u q n _=>by rw[bo (aQ (aU (aw q) hp))];exact n
 there:=λb u q _=>⟨u,k b u q⟩
 tups:=λb xs q=>by rw[bo (bZ q hn)];exact q
 frzs:=λb u xs q=>by rw[bo (bZ q hn)];exact q
 tbls:=λb ps q=>⟨#[],by rw[bo (bZ q hn),q];simp⟩
theorem Un.write(mu:L8 (H x))(he:e=x\/H e=some (.own x))(k:∀b u,b≠e->h.get? b=some u->h'.get? b=some u)(heo:∃u,h'.get? e=some u):Un fs ex H (upd H x o) h h':=by
 have hx:∀b,H b=none->b≠x:=λb n z=>by subst z;rw[n]at mu;exact mu
 have hb:∀b,H b=none->b≠e:=λb n z=>by
  subst z
  rcases he with r|r
  ·exact hx b n r
  ·rw[n]at r;cases r
 have hm:∀b u,H b=some u->¬L8 (some u)->b≠x:=λb u q nm z=>by subst z;rw[q]at mu;exact nm mu
 refine⟨λb u q n _ _=>k b u (hb b n) q,λb u q n _ _=>⟨u.slots,k b u (hb b n) q⟩,λb u q n _=>by rw[bo (hx b n)];exact n,λb u q _=> ?_,
  λb xs q=>by rw[bo (hm b _ q λz=>z)];exact q,λb u xs q=>by rw[bo (hm b _ q λz=>z)];exact q,λb ps q=>⟨#[],by rw[bo (hm b _ q λz=>z),q];simp⟩⟩
 by_cases hbe:b=e
 ·subst hbe;exact heo
 ·exact⟨u,k b u hbe q⟩
end
noncomputable def Md(h:Heap)(H:Hp):List Addr:=(dC h.objs.size).filter λa=>(H a).isSome
noncomputable def sP(h:Heap)(H:Hp):Heap:=PySem.W.hideAll h (Md h H)
theorem zF(h:Heap)(H:Hp):(sP h H).objs.size=h.objs.size:=PySem.W.hideAll_size _ _
theorem Cd{h:Heap}{H:Hp}{b:Addr}{o:Obj}(e:h.get? b=some o)(n:H b=none):(sP h H).get? b=some o:=
 PySem.W.hideAll_get _ e λhm=>by
  have q:(H b).isSome=true:=(gy.mp hm).2
  rw[n]at q;simp at q
theorem Ev{h:Heap}{H:Hp}{b:Addr}{o:Obj}(e:(sP h H).get? b=some o):h.get? b=some o/\H b=none:=by
 have e':h.get? b=some o:=PySem.W.of_hideAll (Md h H) e
 refine⟨e',?_⟩
 cases q:H b with
 |none=>rfl
 |some x=>
  have hm:b∈Md h H:=gy.mpr ⟨lH.mpr (aw e'),by simp[q]⟩
  have z:(sP h H).get? b=none:=PySem.W.hideAll_none (Md h H) hm
  rw[z]at e;cases e
structure Mod(K:PySem.W.Frag)(mg:Str->Option ae)(base:Heap):Prop where
 kin:K.In base
 glob:base.Ns ba mg
 blt:∃mb,base.Ns builtinsNs mb/\∀x:Str,x≠ "__name__" ->mb x=cj x
 nolimit:base.NoLimit
structure Cx where
 prog:aF
 w:aS
 K:PySem.W.Frag
 mg:Str->Option ae
 base:Heap
 A:Around
 N:List Str
 s₀:af
 H₀:Hp
 env:Env
 outer:List Env
 stack:List Env
 ex:List Addr
 fn:Str->Bool
 calm:Bool
 pn:List (Addr×Obj)
 xe:ae->af->Prop
noncomputable def km(l:List Env):List Addr:=l.filterMap (·.frame)
noncomputable abbrev Cx.fs(X:Cx):List Addr:=km X.outer
noncomputable def Mj(sc:e8)(x:Str):Prop:=sc.names.lookup x=some .local\/sc.names.lookup x=some .cell\/sc.names.lookup x=some .free
noncomputable def Df(sc:e8)(x:Str):Prop:=sc.names.lookup x=some .local\/sc.names.lookup x=some .cell
noncomputable def NR(env:Env)(h:Heap)(m:Str->Option ae)(x:Str)(u:ae):Prop:=
 (env.kindOf x=some .local/\m x=some u)\/((env.kindOf x=some .cell\/env.kindOf x=some .free)/\∃c,env.cells.lookup x=some c/\h.IsCell c (some u))
structure Cx.Ok(X:Cx):Prop where
 mod:Mod X.K X.mg X.base
 kind:X.env.scope.kind= .function
 glob:X.env.globals=ba
 blt:X.env.builtins=builtinsNs
 above:X.s₀.heap.objs.size<=X.env.locals
 inj:∀x y c,X.env.cells.lookup x=some c->X.env.cells.lookup y=some c->x=y
 has:∀x,(X.env.kindOf x=some .cell\/X.env.kindOf x=some .free)->∃c,X.env.cells.lookup x=some c
 cab:∀x c,X.fn x=true->X.env.cells.lookup x=some c->X.s₀.heap.objs.size<=c
 hd:X.calm=true->X.A.handled=none
 frames:X.A.frames=some X.stack
 stk:X.stack=X.outer\/(X.stack=X.env::X.outer/\X.env.frame=some X.env.locals)
 exf:∀b∈X.ex,b≠X.env.locals/\∀x c,X.env.cells.lookup x=some c->c≠b
 bs:∀b o,X.base.get? b=some o->X.s₀.heap.get? b=some o/\X.H₀ b=none
 bsz:X.base.objs.size<=X.s₀.heap.objs.size
 noex:∀b o,X.base.get? b=some o->b∉X.ex
 exfs:∀b∈X.ex,b∉X.fs
 funs:X.s₀.heap.FunFrames X.base X.outer
 frf:∀b∈X.fs,X.H₀ b=none
structure Inv(X:Cx)(pins:List (Addr×Obj))(σ:List (Option V))(H:Hp)(s:af):Prop where
 ok:X.Ok
 os:s.os=X.s₀.os
 bare:kB s.gens
 base:Un X.fs X.ex X.H₀ H X.s₀.heap s.heap
 loc:∃m,s.heap.Ns X.env.locals m/\∀(i:Nat) (x:Str) (v:V),X.N[i]? =some x->σ[i]? =some (some v)->Mj X.env.scope x->∃u,RelV v u/\NR X.env s.heap m x u
 cell:∀x c,X.env.cells.lookup x=some c->∃v,s.heap.IsCell c v
 free:H X.env.locals=none
 freeC:∀x c,X.env.cells.lookup x=some c->H c=none
 pin:∀p∈X.pn++pins,s.heap.get? p.1=some p.2/\H p.1=none/\p.1≠X.env.locals/\p.1∉X.fs/\∀v,p.2.data≠ .cell v
 hok:HOk X.prog X.w H s.heap
 len:σ.length=X.N.length
section
variable{X:Cx}{pins:List (Addr×Obj)}{σ:List (Option V)}{H H':Hp}{s:af}{h':Heap}
theorem Cx.Ok.nofr(ok:X.Ok){b:Addr}{o:Obj}(e:X.base.get? b=some o):b∉X.fs:=λhb=>by
 have:=(ok.funs.mem hb).1
 rw[e]at this;cases this
theorem Inv.bs(I:Inv X pins σ H s):∀b o,X.base.get? b=some o->s.heap.get? b=some o/\H b=none:=λb o e=>
 ⟨I.base.keep b o (I.ok.bs b o e).1 (I.ok.bs b o e).2 (I.ok.nofr e) (I.ok.noex b o e),I.base.free b o (I.ok.bs b o e).1 (I.ok.bs b o e).2 (I.ok.noex b o e)⟩
theorem Inv.bk(I:Inv X pins σ H s):∀b o,X.base.get? b=some o->s.heap.get? b=some o:=λb o e=>(I.bs b o e).1
theorem Inv.mod(I:Inv X pins σ H s):Mod X.K X.mg X.base:=I.ok.mod
theorem Inv.kIn(I:Inv X pins σ H s):X.K.In s.heap:=I.ok.mod.kin.keeps I.bk
theorem Inv.fr(I:Inv X pins σ H s):∃m,Fr X.base X.env.locals s.heap m:=
 let⟨m,hn,_⟩:=I.loc
 ⟨m,hn,I.bk,aZ I.ok.bsz I.ok.above⟩
theorem Inv.lt(I:Inv X pins σ H s):X.env.locals<s.heap.objs.size:=let⟨_,hn,_⟩:=I.loc;hn.lt
theorem Inv.sz(I:Inv X pins σ H s):X.s₀.heap.objs.size<=s.heap.objs.size:=aZ I.ok.above (gS I.lt)
theorem Inv.nofs(I:Inv X pins σ H s){a:Addr}(h:s.heap.objs.size<=a):a∉X.fs:=λhb=>by
 obtain⟨_,o,ho,_⟩:=I.ok.funs.mem hb
 exact absurd (aU (aw ho) (aZ I.sz h)) (cL _)
theorem Inv.cne(I:Inv X pins σ H s):∀x c,X.env.cells.lookup x=some c->c≠X.env.locals:=λx c e z=>by
 obtain⟨v,o,ho,hd⟩:=I.cell x c e
 obtain⟨m,⟨o',es,ep,ho',hd',_⟩,_⟩:=I.loc
 rw[z,ho']at ho;cases ho;rw[hd']at hd;cases hd
theorem Inv.funs(I:Inv X pins σ H s):s.heap.FunFrames X.base X.outer:=by
 have all:∀(l:List Env),(∀b∈km l,b∈X.fs)->X.s₀.heap.FunFrames X.base l->s.heap.FunFrames X.base l:=by
  intro l
  induction l with
  |nil=>intro _ _;trivial
  |cons env r ih=>
   intro hs hl
   obtain⟨hk,⟨L,o,hf,hn,ho,hd⟩,hr⟩:=hl
   have hL:L∈X.fs:=hs L (by unfold km;rw[cW,hf];exact gA)
   obtain⟨sl,e⟩:=I.base.slot L o ho (I.ok.frf L hL) hL λz=>I.ok.exfs L z hL
   exact⟨hk,⟨L,_,hf,hn,e,hd⟩,ih (λb hb=>hs b (by unfold km;rw[cW,hf];exact cI _ hb)) hr⟩
 exact all X.outer (λ_ hb=>hb) I.ok.funs
theorem Inv.stack(I:Inv X pins σ H s):s.heap.FunFrames X.base X.stack:=by
 rcases I.ok.stk with e|⟨e,hf⟩
 ·rw[e];exact I.funs
 ·rw[e]
  obtain⟨m,hn,_⟩:=I.loc
  refine .cons (by rw[I.ok.kind];decide) hf hn ?_ I.funs
  exact Heap.get?_none_of_le (aZ I.ok.bsz I.ok.above)
theorem Inv.stkSub(I:Inv X pins σ H s):∀b∈km X.stack,b∈X.env.locals::X.fs:=λb hb=>by
 rcases I.ok.stk with e|⟨e,hf⟩
 ·rw[e]at hb;exact cI _ hb
 ·rw[e]at hb
  unfold km at hb
  rw[cW,hf]at hb
  exact hb
theorem Inv.stkFree(I:Inv X pins σ H s):∀b∈km X.stack,H b=none:=λb hb=>by
 rcases aA.mp (I.stkSub b hb)with e|hb
 ·rw[e];exact I.free
 ·obtain⟨_,o,ho,_⟩:=I.ok.funs.mem hb
  exact I.base.free b o ho (I.ok.frf b hb) λz=>I.ok.exfs b z hb
theorem Inv.step{g':Array GenState}{t':Nat}{d':Drawn}{ch:List Addr}(I:Inv X pins σ H s)
  (hch:∀b∈ch,(b∈X.ex\/X.s₀.heap.objs.size<=b)/\b≠X.env.locals/\(∀x c,X.env.cells.lookup x=some c->c≠b)/\∀p∈X.pn++pins,p.1≠b)
  (keep:∀b o,b≠X.env.locals->b∉X.fs->b∉ch->s.heap.get? b=some o->H b=none->h'.get? b=some o)
  (slot:∀b o,b≠X.env.locals->b∈X.fs->b∉ch->s.heap.get? b=some o->H b=none->∃sl,h'.get? b=some {o with slots:=sl}) (free:∀b o,b∉ch->s.heap.get? b=some o->H b=none->H' b=none)
  (there:∀b o,b∉ch->s.heap.get? b=some o->∃o',h'.get? b=some o')
  (tups:∀b xs,H b=some (.tup xs)->H' b=some (.tup xs)) (frzs:∀b o u,H b=some (.frz o u)->H' b=some (.frz o u)) (tbls:∀b ps,H b=some (.tbl ps)->∃more,H' b=some (.tbl (ps++more)))
  (ns:∀m,s.heap.Ns X.env.locals m->h'.Ns X.env.locals m) (hok:HOk X.prog X.w H' h') (hg:kB g'):
  Inv X pins σ H' {s with heap:=h',gens:=g',drawn:=d',toks:=t'}:=by
 have neL:∀b o,X.s₀.heap.get? b=some o->b≠X.env.locals:=λb o e=>aQ (aU (aw e) I.ok.above)
 have neC:∀b o,X.s₀.heap.get? b=some o->b∉X.ex->b∉ch:=λb o e hx hb=>by
  rcases(hch b hb).1 with z|z
  ·exact hx z
  ·exact absurd (aU (aw e) z) (cL _)
 have cellK:∀x c,X.env.cells.lookup x=some c->∀v,s.heap.IsCell c v->h'.IsCell c v:=λx c e v hPl=>by
  obtain⟨o,ho,hd⟩:=hPl
  have nch:c∉ch:=λz=>(hch c z).2.2.1 x c e rfl
  by_cases hc:c∈X.fs
  ·obtain⟨sl,q⟩:=slot c o (I.cne x c e) hc nch ho (I.freeC x c e)
   exact⟨_,q,hd⟩
  ·exact⟨o,keep c o (I.cne x c e) hc nch ho (I.freeC x c e),hd⟩
 refine⟨I.ok,I.os,hg,⟨λb o e n hb hx=> ?_,λb o e n hb hx=> ?_,λb o e n hx=> ?_,λb o e hx=> ?_,λb xs e=>tups b xs (I.base.tups b xs e),λb o xs e=>frzs b o xs (I.base.frzs b o xs e),λb ps e=> ?_⟩,?_,λx c e=> ?_,?_,λx c e=> ?_,λp hp=> ?_,hok,I.len⟩
 ·exact keep b o (neL b o e) hb (neC b o e hx) (I.base.keep b o e n hb hx) (I.base.free b o e n hx)
 ·obtain⟨sl,e1⟩:=I.base.slot b o e n hb hx
  obtain⟨sl',e2⟩:=slot b _ (neL b o e) hb (neC b o e hx) e1 (I.base.free b o e n hx)
  exact⟨sl',e2⟩
 ·obtain⟨o',e1⟩:=I.base.there b o e hx
  exact free b o' (neC b o e hx) e1 (I.base.free b o e n hx)
 ·obtain⟨o',e1⟩:=I.base.there b o e hx
  exact there b o' (neC b o e hx) e1
 ·obtain⟨m1,e1⟩:=I.base.tbls b ps e
  obtain⟨m2,e2⟩:=tbls b _ e1
  exact⟨m1++m2,by rw[e2,Array.append_assoc]⟩
 ·obtain⟨m,hn,hl⟩:=I.loc
  refine⟨m,ns m hn,λi x v e1 e2 e3=> ?_⟩
  obtain⟨u,r,l⟩:=hl i x v e1 e2 e3
  refine⟨u,r,?_⟩
  rcases l with l|⟨k,c,e,z⟩
  ·exact .inl l
  ·exact .inr ⟨k,c,e,cellK x c e _ z⟩
 ·obtain⟨v,z⟩:=I.cell x c e
  exact⟨v,cellK x c e v z⟩
 ·obtain⟨m,⟨o,_,_,ho,_⟩,_⟩:=I.loc
  exact free _ o (λz=>(hch _ z).2.1 rfl) ho I.free
 ·obtain⟨v,o,ho,hd⟩:=I.cell x c e
  exact free c o (λz=>(hch c z).2.2.1 x c e rfl) ho (I.freeC x c e)
 ·obtain⟨e,n,ne,nf,d⟩:=I.pin p hp
  have nch:p.1∉ch:=λz=>(hch p.1 z).2.2.2 p hp rfl
  exact⟨keep p.1 p.2 ne nf nch e n,free p.1 p.2 nch e n,ne,nf,d⟩
theorem Inv.un{t':Nat}(I:Inv X pins σ H s)(u:Un X.fs [] H H' s.heap h')(hok:HOk X.prog X.w H' h'):Inv X pins σ H' {s with heap:=h',toks:=t'}:=by
 obtain⟨m,⟨o,es,ep,ho,r⟩,_⟩:=id I.loc
 obtain⟨sl,hL⟩:=u.any ho I.free (by simp)
 exact I.step (g':=s.gens) (d':=s.drawn) (ch:=[]) (λ_ z=>nomatch z) (λb o _ hb _ e n=>u.keep b o e n hb (by simp)) (λb o _ hb _ e n=>u.slot b o e n hb (by simp)) (λb o _ e n=>u.free b o e n (by simp)) (λb o _ e=>u.there b o e (by simp)) u.tups u.frzs u.tbls (λm' hm=>by
  obtain⟨o',es',ep',ho',r'⟩:=hm
  rw[ho]at ho';cases ho'
  exact⟨_,es',ep',hL,r'⟩) hok I.bare
theorem Inv.call{g':Array GenState}{t':Nat}{d':Drawn}{ch:List Addr}(I:Inv X pins σ H s)(u:Un (km X.stack) ch H H' s.heap h')(hok:HOk X.prog X.w H' h')(hg:kB g')
  (hch:∀b∈ch,(b∈X.ex\/X.s₀.heap.objs.size<=b)/\b≠X.env.locals/\(∀x c,X.env.cells.lookup x=some c->c≠b)/\∀p∈X.pn++pins,p.1≠b):
  Inv X pins σ H' {s with heap:=h',gens:=g',drawn:=d',toks:=t'}:=by
 obtain⟨m,⟨o,es,ep,ho,r⟩,_⟩:=id I.loc
 obtain⟨sl,hL⟩:=u.any ho I.free λz=>(hch _ z).2.1 rfl
 exact I.step (ch:=ch) hch (λb o hL hb hc e n=>u.keep b o e n (λz=>(aA.mp (I.stkSub b z)).elim hL hb) hc) (λb o _ _ hc e n=>u.any e n hc) (λb o hc e n=>u.free b o e n hc) (λb o hc e=>u.there b o e hc) u.tups u.frzs u.tbls (λm' hm=>by
  obtain⟨o',es',ep',ho',r'⟩:=hm
  rw[ho]at ho';cases ho'
  exact⟨_,es',ep',hL,r'⟩) hok hg
theorem Inv.turned{t':Nat}{it:Addr}(I:Inv X pins σ H s)(k:∀b o,b≠it->s.heap.get? b=some o->h'.get? b=some o)(hn:H it=none)(hL:it≠X.env.locals)
  (h1:it∈X.ex\/X.s₀.heap.objs.size<=it) (h2:∀x c,X.env.cells.lookup x=some c->c≠it) (h3:∀p∈X.pn++pins,p.1≠it):Inv X pins σ H {s with heap:=h',toks:=t'}:=by
 have nit:∀b u,H b=some u->b≠it:=λb u e z=>by rw[z,hn]at e;cases e
 refine I.step (g':=s.gens) (d':=s.drawn) (ch:=[it]) (λb hb=> ?_) (λb o _ _ hc e _=>k b o (λz=>hc (by simp[z])) e) (λb o _ _ hc e _=>⟨o.slots,k b o (λz=>hc (by simp[z])) e⟩) (λ_ _ _ _ n=>n)
  (λb o hc e=>⟨o,k b o (λz=>hc (by simp[z])) e⟩) (λ_ _ e=>e) (λ_ _ _ e=>e) (λb ps e=>⟨#[],by rw[e];simp⟩) (λm hm=> ?_) (λb u e=> ?_) I.bare
 ·have e:b=it:=by simpa using hb
  subst e
  exact⟨h1,hL,h2,h3⟩
 ·obtain⟨o,es,ep,ho,r⟩:=hm
  exact⟨o,es,ep,k _ o (aG hL) ho,r⟩
 ·refine(I.hok b u e).stay (λc v hc q=>k c v ?_ q) (λ_ q=>q) λ_ _ q=>q
  rcases hc with z|z
  ·rw[z];exact nit b u e
  ·exact nit c _ z
theorem Inv.tok(I:Inv X pins σ H s)(t:Nat):Inv X pins σ H {s with toks:=t}:=I.un (h':=s.heap) (t':=t) Un.refl I.hok
theorem Inv.kept{t':Nat}(I:Inv X pins σ H s)(k:∀b u,s.heap.get? b=some u->h'.get? b=some u):Inv X pins σ H {s with heap:=h',toks:=t'}:=I.un (Un.kept k) (I.hok.kept k)
theorem Inv.laid{a:Addr}{o:HO}{t':Nat}(I:Inv X pins σ H s)(k:∀b u,s.heap.get? b=some u->h'.get? b=some u)(hp:s.heap.objs.size<=a)(new:ObjOk X.prog X.w (upd H a o) h' a o):
  Inv X pins σ (upd H a o) {s with heap:=h',toks:=t'}:=I.un (Un.laid k hp (I.hok.fresh hp)) (I.hok.laid k hp new)
theorem Inv.write{x e:Addr}{o:HO}{t':Nat}(I:Inv X pins σ H s)(mu:L8 (H x))(he:e=x\/H e=some (.own x))(k:∀b u,b≠e->s.heap.get? b=some u->h'.get? b=some u)(heo:∃u,h'.get? e=some u)
  (new:ObjOk X.prog X.w (upd H x o) h' x o):Inv X pins σ (upd H x o) {s with heap:=h',toks:=t'}:=I.un (Un.write mu he k heo) (I.hok.write mu he k heo new)
theorem Inv.weak{σ':List (Option V)}(I:Inv X pins σ H s)(hl:σ'.length=σ.length)(w:∀(i:Nat) v,σ'[i]? =some (some v)->σ[i]? =some (some v)):Inv X pins σ' H s:=
 ⟨I.ok,I.os,I.bare,I.base,let⟨m,hn,hl'⟩:=I.loc;⟨m,hn,λi x v e1 e2 e3=>hl' i x v e1 (w i v e2) e3⟩,I.cell,I.free,I.freeC,I.pin,I.hok,hl.trans I.len⟩
theorem Inv.pins_of{pins':List (Addr×Obj)}(I:Inv X pins σ H s)(h:∀p∈pins',s.heap.get? p.1=some p.2/\H p.1=none/\p.1≠X.env.locals/\p.1∉X.fs/\∀v,p.2.data≠ .cell v):Inv X pins' σ H s:=
 ⟨I.ok,I.os,I.bare,I.base,I.loc,I.cell,I.free,I.freeC,λp hp=>(bj.mp hp).elim (λz=>I.pin p (List.mem_append_left _ z)) (h p),I.hok,I.len⟩
theorem pJ{N:List Str}(hN:N.Nodup){i j:Nat}{x:Str}(a:N[i]? =some x)(b:N[j]? =some x):i=j:=by
 obtain⟨h1,e1⟩:=aj.mp a
 obtain⟨h2,e2⟩:=aj.mp b
 exact(List.getElem_inj hN).mp (e1.trans e2.symm)
theorem yT{M:Model}{A:Around}{E:ae->af->Prop}{i:Nat}{x:Str}{v:V}{u:ae}{Q:Unit->af->Prop}(I:Inv X pins σ H s)(hN:X.N.Nodup)(hi:X.N[i]? =some x)(hx:Df X.env.scope x)(r:RelV v u)
  (h:∀s',Inv X pins (σ.set i (some v)) H s'->(∃a,dJ a s.heap s'.heap/\(a=X.env.locals\/X.env.cells.lookup x=some a))->Q () s') (hf:X.fn x=true\/X.env.scope.names.lookup x=some .local:=by first|exact .inl rfl|exact .inr rfl|assumption):wpAny M A (storeName X.env x u) Q E s:=by
 obtain⟨m,hn,hl⟩:=id I.loc
 have hcls:(X.env.scope.kind== .class||(X.env.scope.kind== .module&&X.env.locals !=X.env.globals))=false:=by rw[I.ok.kind];rfl
 have hiσ:i<σ.length:=by rw[I.len];exact(aj.mp hi).1
 have cne:=I.cne
 have tracked:∀{a:Addr} {h':Heap},(∃o,s.heap.get? a=some o/\H a=none)->dJ a s.heap h'->HOk X.prog X.w H h':=fun{a h'} ha hs b ob e=>by
  obtain⟨_,_,hfree⟩:=ha
  refine(I.hok b ob e).stay (λc w' hc q=>(hs.2 c ?_).trans q) (λ_ q=>q) λ_ _ q=>q
  rintro rfl
  rcases hc with rfl|hc
  ·rw[hfree]at e;cases e
  ·rw[hfree]at hc;cases hc
 rcases hx with hk|hk
 ·refine wpAny_storeName_local hk hn (λh' hn' hs=> ?_) hcls
  obtain⟨oL,_,_,hoL,_⟩:=id hn
  refine h _ ⟨I.ok,I.os,I.bare,⟨λb o e n hb hx=> ?_,λb o e n hb hx=> ?_,I.base.free,λb o e hx=> ?_,I.base.tups,I.base.frzs,I.base.tbls⟩,⟨_,hn',λj y v' e1 e2 e3=> ?_⟩,λy c e=> ?_,I.free,I.freeC,λp hp=> ?_,tracked ⟨oL,hoL,I.free⟩ hs,by simpa using I.len⟩ ⟨_,hs,.inl rfl⟩
  ·exact(hs.2 b (aQ (aU (aw e) I.ok.above))).trans (I.base.keep b o e n hb hx)
  ·obtain⟨sl,e1⟩:=I.base.slot b o e n hb hx
   exact⟨sl,(hs.2 b (aQ (aU (aw e) I.ok.above))).trans e1⟩
  ·obtain⟨o',e1⟩:=I.base.there b o e hx
   exact⟨o',(hs.2 b (aQ (aU (aw e) I.ok.above))).trans e1⟩
  ·by_cases hj:j=i
   ·subst hj
    rw[hi]at e1;cases e1
    rw[cw hiσ]at e2
    cases e2
    exact⟨u,r,.inl ⟨hk,by simp⟩⟩
   ·rw[bW (aG hj)]at e2
    obtain⟨u',r',q⟩:=hl j y v' e1 e2 e3
    refine⟨u',r',?_⟩
    rcases q with⟨k,e⟩|⟨k,c,e,z⟩
    ·refine .inl ⟨k,?_⟩
     have:y≠x:=λe=>hj (pJ hN e1 (e▸hi))
     simp[this,e]
    ·exact .inr ⟨k,c,e,z.sameBut hs (cne y c e)⟩
  ·obtain⟨w',z⟩:=I.cell y c e
   exact⟨w',z.sameBut hs (cne y c e)⟩
  ·obtain⟨e,n,ne,nf,d⟩:=I.pin p hp
   exact⟨(hs.2 p.1 ne).trans e,n,ne,nf,d⟩
 ·have hfn:X.fn x=true:=by
   rcases hf with z|z
   ·exact z
   ·rw[z]at hk;cases hk
  obtain⟨c,hc⟩:=I.ok.has x (.inl hk)
  obtain⟨w',z⟩:=I.cell x c hc
  refine wpAny_storeName_cell I.ok.kind hk hc z (λh' hc' hs=> ?_)
  obtain⟨oc,hoc,hocd⟩:=id z
  refine h {s with heap:=h'} ⟨I.ok,I.os,I.bare,⟨λb o e n hb hx=> ?_,λb o e n hb hx=> ?_,I.base.free,λb o e hx=> ?_,I.base.tups,I.base.frzs,I.base.tbls⟩,⟨m,hn.sameBut hs (aG (cne x c hc)),λj y v' e1 e2 e3=> ?_⟩,λy c' e=> ?_,I.free,I.freeC,λp hp=> ?_,tracked ⟨oc,hoc,I.freeC x c hc⟩ hs,by simpa using I.len⟩ ⟨c,hs,.inr hc⟩
  ·exact(hs.2 b (aQ (aU (aw e) (I.ok.cab x c hfn hc)))).trans (I.base.keep b o e n hb hx)
  ·obtain⟨sl,e1⟩:=I.base.slot b o e n hb hx
   exact⟨sl,(hs.2 b (aQ (aU (aw e) (I.ok.cab x c hfn hc)))).trans e1⟩
  ·obtain⟨o',e1⟩:=I.base.there b o e hx
   exact⟨o',(hs.2 b (aQ (aU (aw e) (I.ok.cab x c hfn hc)))).trans e1⟩
  ·by_cases hj:j=i
   ·subst hj
    rw[hi]at e1;cases e1
    rw[cw hiσ]at e2
    cases e2
    exact⟨u,r,.inr ⟨.inl hk,c,hc,hc'⟩⟩
   ·rw[bW (aG hj)]at e2
    obtain⟨u',r',q⟩:=hl j y v' e1 e2 e3
    refine⟨u',r',?_⟩
    rcases q with q|⟨k,c',e,z'⟩
    ·exact .inl q
    ·refine .inr ⟨k,c',e,z'.sameBut hs ?_⟩
     rintro rfl
     exact hj (pJ hN e1 (I.ok.inj _ _ _ e hc▸hi))
  ·by_cases hcc:c'=c
   ·subst hcc;exact⟨_,hc'⟩
   ·obtain⟨w2,z2⟩:=I.cell y c' e
    exact⟨w2,z2.sameBut hs hcc⟩
  ·obtain⟨e,n,ne,nf,d⟩:=I.pin p hp
   refine⟨(hs.2 p.1 ?_).trans e,n,ne,nf,d⟩
   intro q
   rw[q,hoc]at e
   have q':oc=p.2:=a8 e
   exact d w' (by rw[<-q'];exact hocd)
theorem jQ{M:Model}{A:Around}{E:ae->af->Prop}{i:Nat}{x:Str}{v:V}{u:ae}{Q:Unit->af->Prop}(I:Inv X pins σ H s)(hN:X.N.Nodup)(hi:X.N[i]? =some x)(hx:Df X.env.scope x)(r:RelV v u)
  (h:∀s',Inv X pins (σ.set i (some v)) H s'->Q () s') (hf:X.fn x=true\/X.env.scope.names.lookup x=some .local:=by first|exact .inl rfl|exact .inr rfl|assumption):wpAny M A (storeName X.env x u) Q E s:=
 yT I hN hi hx r (λs' I' _=>h s' I') hf
theorem Inv.call'{s':af}{ch:List Addr}(I:Inv X pins σ H s)(ho:s'.os=s.os)(u:Un (km X.stack) ch H H' s.heap s'.heap)(hok:HOk X.prog X.w H' s'.heap)(hg:kB s'.gens)
  (hch:∀b∈ch,(b∈X.ex\/X.s₀.heap.objs.size<=b)/\b≠X.env.locals/\(∀x c,X.env.cells.lookup x=some c->c≠b)/\∀p∈X.pn++pins,p.1≠b):Inv X pins σ H' s':=by
 obtain⟨h',g',d',t',o'⟩:=s'
 have e:o'=s.os:=ho
 subst e
 exact I.call (g':=g') (t':=t') (d':=d') u hok hg hch
end
noncomputable abbrev XK:=ae->Option Addr->Hp->Prop
noncomputable abbrev St:=List (Option V)
noncomputable abbrev VK:=V->Hp->Prop
noncomputable abbrev TE:=St->Hp->VK->Prop
noncomputable abbrev TT:=St->Hp->(Bool->Hp->Prop)->Prop
noncomputable abbrev TA:=St->Hp->(List V->Hp->Prop)->Prop
structure Ends where
 nx:St->Hp->Prop
 rt:VK
 bk:St->Hp->Prop:=λ_ _=>False
 ct:St->Hp->Prop:=λ_ _=>False
noncomputable abbrev TS:=Ends->St->Hp->Prop
noncomputable def EP(X:Cx)(pins:List (Addr×Obj))(σ:St)(Q:VK)(u:ae)(s':af):Prop:=∃v H',Inv X pins σ H' s'/\RelV v u/\Q v H'
noncomputable def TP(X:Cx)(pins:List (Addr×Obj))(σ:St)(Q:Bool->Hp->Prop)(b:Bool)(s':af):Prop:=∃H',Inv X pins σ H' s'/\Q b H'
noncomputable def AP(X:Cx)(pins:List (Addr×Obj))(σ:St)(Q:List V->Hp->Prop)(us:List ae)(s':af):Prop:=∃vs H',Inv X pins σ H' s'/\Vals vs us/\Q vs H'
noncomputable def SP(X:Cx)(pins:List (Addr×Obj))(D:Ends)(f:Flow)(s':af):Prop:=
 match f with
 | .next=>∃σ' H',Inv X pins σ' H' s'/\D.nx σ' H'
 | .brk=>∃σ' H',Inv X pins σ' H' s'/\D.bk σ' H'
 | .cont=>∃σ' H',Inv X pins σ' H' s'/\D.ct σ' H'
 | .ret u=>∃v σ' H',Inv X pins σ' H' s'/\RelV v u/\D.rt v H'
noncomputable def PE(X:Cx)(e:Expr)(t:TE):Prop:=
 ∀(pins:List (Addr×Obj)) (s:af) (σ:St) (H:Hp) (Q:VK),Inv X pins σ H s->t σ H Q->wpAny (aN X.prog X.w) X.A (eval e X.env) (EP X pins σ Q) X.xe s
noncomputable def PT(X:Cx)(e:Expr)(t:TT):Prop:=
 ∀(pins:List (Addr×Obj)) (s:af) (σ:St) (H:Hp) (Q:Bool->Hp->Prop),Inv X pins σ H s->t σ H Q->wpAny (aN X.prog X.w) X.A (isTrue e X.env (eval e X.env)) (TP X pins σ Q) X.xe s
noncomputable def PW(X:Cx)(e:Expr)(t:TT):Prop:=
 ∀(whole:Sem ae) (pins:List (Addr×Obj)) (s:af) (σ:St) (H:Hp) (Q:Bool->Hp->Prop),Inv X pins σ H s->t σ H Q->wpAny (aN X.prog X.w) X.A (isTrue e X.env whole) (TP X pins σ Q) X.xe s
theorem PW.pt{X:Cx}{e:Expr}{t:TT}(h:PW X e t):PT X e t:=h _
noncomputable def PA(X:Cx)(es:List Expr)(t:TA):Prop:=
 ∀(pos:Pos) (pins:List (Addr×Obj)) (s:af) (σ:St) (H:Hp) (Q:List V->Hp->Prop),Inv X pins σ H s->t σ H Q->wpAny (aN X.prog X.w) X.A (spliced (bC pos (al es X.env))) (AP X pins σ Q) X.xe s
noncomputable def PS(X:Cx)(st:Stmt)(t:TS):Prop:=
 ∀(pins:List (Addr×Obj)) (s:af) (σ:St) (H:Hp) (D:Ends),Inv X pins σ H s->t D σ H->wpAny (aN X.prog X.w) X.A (exec st X.env) (SP X pins D) X.xe s
noncomputable def PSs(X:Cx)(st:List Stmt)(t:TS):Prop:=
 ∀(pins:List (Addr×Obj)) (s:af) (σ:St) (H:Hp) (D:Ends),Inv X pins σ H s->t D σ H->wpAny (aN X.prog X.w) X.A (execs st X.env) (SP X pins D) X.xe s
theorem eB{α:Type}{t:Sem α}{Q Q':α->af->Prop}{M:Model}{A:Around}{E:ae->af->Prop}{s:af}(h:wpAny M A t Q E s)(hQ:∀a s,Q a s->Q' a s):wpAny M A t Q' E s:=aW h hQ λ_ _ x=>x
section
variable{X:Cx}
noncomputable def Mt(i:Nat):TE:=λσ H Q=>∃v,σ[i]? =some (some v)/\Q v H
noncomputable def tC(v:V):TE:=λ_ H Q=>Q v H
theorem Hm{i:Nat}{x:Str}{pos:Pos}(hN:X.N[i]? =some x)(hv:Mj X.env.scope x)(hd:(x==("__debug__" :Str))=false:=by decide)(hcd:(x==("__classdict__" :Str))=false:=by decide):PE X (.Name x pos) (Mt i):=by
 intro pins s σ H Q I h
 obtain⟨v,e,h⟩:=h
 obtain⟨m,hn,hl⟩:=I.loc
 obtain⟨u,r,l⟩:=hl i x v hN e hv
 have fin:EP X pins σ Q u s:=⟨v,H,I,r,h⟩
 rcases l with⟨hk,hm⟩|⟨hk,c,hc,hcell⟩
 ·exact wpAny_Name (wpAny_loadName_local I.ok.kind hk hn hm fin) hd
 ·rcases hk with hk|hk
  ·exact wpAny_Name (wpAny_loadName_cell I.ok.kind hk hc hcell fin) hd
  ·exact wpAny_Name (wpAny_loadName_free I.ok.kind hk hc hcell fin hcd) hd
theorem A7{i j pos}:PE X (.Constant (.int i) j pos) (tC (.int i)):=λ_ _ _ H _ I h=>wpAny_Constant_int ⟨.int i,H,I.tok _,⟨_,rfl⟩,h⟩
theorem Kt{b j pos}:PE X (.Constant (.bool b) j pos) (tC (.bl b)):=λ_ _ _ H _ I h=>Constant_bool ⟨.bl b,H,I,rfl,h⟩
theorem Hr{j pos}:PE X (.Constant .none j pos) (tC .non):=λ_ _ _ H _ I h=>Constant_none ⟨.non,H,I,rfl,h⟩
theorem Ho{x j pos}:PE X (.Constant (.str x) j pos) (tC (.str x)):=λ_ _ _ H _ I h=>Calls.Constant_str ⟨.str x,H,I.tok _,⟨_,rfl⟩,h⟩
noncomputable def Gl(X:Cx)(x:Str):Prop:=X.env.kindOf x=some .globalImplicit
theorem mq{E:ae->af->Prop}{pins:List (Addr×Obj)}{s:af}{σ:St}{H:Hp}{x:Str}{u:ae}{pos:Pos}{Q:ae->af->Prop}(I:Inv X pins σ H s)(hg:Gl X x)(hm:X.mg x=some u)(h:Q u s)
  (hd:(x==("__debug__" :Str))=false:=by decide):wpAny (aN X.prog X.w) X.A (eval (.Name x pos) X.env) Q E s:=
 iU I.ok.kind hg (vv (by rw[I.ok.glob];exact I.mod.glob.keeps I.bk) hm h) hd
theorem nz{E:ae->af->Prop}{pins:List (Addr×Obj)}{s:af}{σ:St}{H:Hp}{x:Str}{u:ae}{pos:Pos}{Q:ae->af->Prop}(I:Inv X pins σ H s)(hg:Gl X x)(hm:X.mg x=none)(hv:cj x=some u)(h:Q u s)
  (hn:x≠ "__name__" :=by decide) (hd:(x==("__debug__" :Str))=false:=by decide):wpAny (aN X.prog X.w) X.A (eval (.Name x pos) X.env) Q E s:=by
 obtain⟨mb,h1,h2⟩:=I.mod.blt
 exact iU I.ok.kind hg (Calls.loadGlobal_builtin (by rw[I.ok.glob];exact I.mod.glob.keeps I.bk) hm (by rw[I.ok.blt];exact h1.keeps I.bk) ((h2 x hn).trans hv) h) hd
theorem Eb{x:Str}{v:V}{u:ae}{pos:Pos}(hg:Gl X x)(hm:X.mg x=some u)(r:RelV v u)(hd:(x==("__debug__" :Str))=false:=by decide):PE X (.Name x pos) (tC v):=
 λ_ _ _ H _ I h=>mq I hg hm ⟨v,H,I,r,h⟩ hd
theorem Eh{x:Str}{v:V}{u:ae}{pos:Pos}(hg:Gl X x)(hm:X.mg x=none)(hv:cj x=some u)(r:RelV v u)(hn:x≠ "__name__" :=by decide)(hd:(x==("__debug__" :Str))=false:=by decide):PE X (.Name x pos) (tC v):=
 λ_ _ _ H _ I h=>nz I hg hm hv ⟨v,H,I,r,h⟩ hn hd
variable{a b:Expr}{ta tb:TE}{pos:Pos}
noncomputable def tB(t:TE):TT:=λσ H Q=>t σ H λx H1=>∃c,x= .bl c/\Q c H1
theorem Ha{e:Expr}{t:TE}(h:PE X e t)(he:∀whole,isTrue e X.env whole=(do let v <-whole;standAt e.pos;holding [v] (truthy v)):=by intro _;rfl):PT X e (tB t):=by
 intro pins s σ H Q I hw
 refine isTrue_plain (eB (h pins s σ H _ I hw) λv s1 hPl=> ?_) (he _)
 obtain⟨x,H1,I1,r1,q1⟩:=hPl
 obtain⟨d,rfl,q⟩:=q1
 cases r1
 exact ke ⟨H1,I1,q⟩
variable{tA tB':TT}{rest:List Expr}
noncomputable def MN(t u:TT):TT:=λσ H Q=>t σ H λc H1=>if c=true then u σ H1 Q else Q false H1
noncomputable def tOr(t u:TT):TT:=λσ H Q=>t σ H λc H1=>if c=true then Q true H1 else u σ H1 Q
noncomputable def Mz(t:TT):TT:=λσ H Q=>t σ H λc H1=>Q (!c) H1
theorem DM(ha:PT X a tA):PW X (.BoolOp .And [a] pos) tA:=by
 intro wh pins s σ H Q I h
 refine isTrue_and (eB (ha pins s σ H Q I h) λc s1 e=> ?_)
 cases c with
 |true=>exact isTrue_and_nil e
 |false=>exact e
theorem GY(ha:PT X a tA):PW X (.BoolOp .Or [a] pos) tA:=by
 intro wh pins s σ H Q I h
 refine isTrue_or (eB (ha pins s σ H Q I h) λc s1 e=> ?_)
 cases c with
 |false=>exact isTrue_or_nil e
 |true=>exact e
theorem GZ(ha:PT X a tA)(hb:PW X (.BoolOp .And (b::rest) pos) tB'):PW X (.BoolOp .And (a::b::rest) pos) (MN tA tB'):=by
 intro wh pins s σ H Q I h
 refine isTrue_and (eB (ha pins s σ H _ I h) λc s1 hPl=> ?_)
 obtain⟨H1,I1,q1⟩:=hPl
 cases c with
 |true=>exact hb wh pins s1 σ H1 Q I1 q1
 |false=>exact⟨H1,I1,q1⟩
theorem Kn(ha:PT X a tA)(hb:PW X (.BoolOp .Or (b::rest) pos) tB'):PW X (.BoolOp .Or (a::b::rest) pos) (tOr tA tB'):=by
 intro wh pins s σ H Q I h
 refine isTrue_or (eB (ha pins s σ H _ I h) λc s1 hPl=> ?_)
 obtain⟨H1,I1,q1⟩:=hPl
 cases c with
 |true=>exact⟨H1,I1,q1⟩
 |false=>exact hb wh pins s1 σ H1 Q I1 q1
theorem Hb(ha:PT X a tA):PT X (.UnaryOp .Not a pos) (Mz tA):=by
 intro pins s σ H Q I h
 exact isTrue_not (ha pins s σ H (λc H1=>Q (!c) H1) I h)
noncomputable def Kb(ta tb:TE):TE:=λσ H Q=>ta σ H λx H1=>∃c,x= .bl c/\if c=true then tb σ H1 Q else Q (.bl false) H1
theorem Hq{op}{t:TE}(h:PE X a t):PE X (.BoolOp op [a] pos) t:=λpins s σ H Q I hw=>BoolOp_one (h pins s σ H Q I hw)
theorem Hu(ha:PE X a ta)(hb:PE X (.BoolOp .And (b::rest) pos) tb):PE X (.BoolOp .And (a::b::rest) pos) (Kb ta tb):=by
 intro pins s σ H Q I h
 refine BoolOp_and (eB (ha pins s σ H _ I h) λv s1 hPl=> ?_)
 obtain⟨x,H1,I1,r1,q1⟩:=hPl
 obtain⟨c,rfl,q1⟩:=q1
 cases r1
 refine ke ?_
 cases c with
 |true=>exact hb pins s1 σ H1 Q I1 q1
 |false=>exact⟨.bl false,H1,I1,rfl,q1⟩
noncomputable def tIf(t:TT)(ta tb:TE):TE:=λσ H Q=>t σ H λc H1=>if c=true then ta σ H1 Q else tb σ H1 Q
theorem A8{c:Expr}(hc:PT X c tA)(ha:PE X a ta)(hb:PE X b tb):PE X (.IfExp c a b pos) (tIf tA ta tb):=by
 intro pins s σ H Q I h
 refine wpAny_IfExp (eB (hc pins s σ H _ I h) λd s1 hPl=> ?_)
 obtain⟨H1,I1,q1⟩:=hPl
 cases d with
 |true=>exact ha pins s1 σ H1 Q I1 q1
 |false=>exact hb pins s1 σ H1 Q I1 q1
end
noncomputable def SqL(K:PySem.W.Frag)(H:Hp)(a:Addr)(xs:List V):Prop:=
 Rd H a (.lst xs)\/
  ∃(o:Obj) (its:Array ae) (n:Nat),K.lookup a=some o/\o.cls= .type "list" /\o.dict=none/\o.data= .seq its n/\its.size<=aJ/\Vals xs its.toList
noncomputable def SqT(K:PySem.W.Frag)(H:Hp)(a:Addr)(xs:List V):Prop:=
 Rd H a (.tup xs)\/
  ∃(o:Obj) (its:Array ae) (n:Nat),K.lookup a=some o/\o.cls= .type "tuple" /\o.data= .seq its n/\its.size<=aJ/\Vals xs its.toList
noncomputable def NO:ae->Option V
 | .none=>some .non
 | .bool b=>some (.bl b)
 | .int i _=>some (.int i)
 | .str x _=>some (.str x)
 | .bytes b _=>some (.byt b)
 | .float b _=>some (.flt b)
 | .ref a=>some (.ref a)
 | .type n=>some (.ty n)
 |_=>none
theorem RelV.abs{x:V}{u:ae}(r:RelV x u):NO u=some x:=by
 cases x with
 |non=>cases r;rfl
 |bl _=>cases r;rfl
 |int _=>obtain⟨t,rfl⟩:=r;rfl
 |str _=>obtain⟨t,rfl⟩:=r;rfl
 |byt _=>obtain⟨t,rfl⟩:=r;rfl
 |flt _=>obtain⟨t,rfl⟩:=r;rfl
 |ref _=>cases r;rfl
 |ty _=>cases r;rfl
theorem RelV.inj{x y:V}{u:ae}(r:RelV x u)(q:RelV y u):x=y:=a8 (r.abs.symm.trans q.abs)
theorem Vals.inj:∀{xs ys:List V} {us:List ae},Vals xs us->Vals ys us->xs=ys
 |_,_,_,.nil,.nil=>rfl
 |_,_,_,.cons r t,.cons r' t'=>by rw[r.inj r',Vals.inj t t']
section
variable{X:Cx}{pins:List (Addr×Obj)}{σ:St}{H:Hp}{s:af}{a:Addr}{xs ys:List V}
theorem SqL.of{K:PySem.W.Frag}(h:H a=some (.lst xs)):SqL K H a xs:= .inl (.inl h)
theorem SqT.of{K:PySem.W.Frag}(h:H a=some (.tup xs)):SqT K H a xs:= .inl (.inl h)
theorem Inv.list(I:Inv X pins σ H s)(h:SqL X.K H a xs):∃its:List ae,Vals xs its/\PlainL s.heap a its.toArray/\xs.length<=aJ:=by
 rcases h with h|⟨o,its,n,hk,hc,hd,hs,hz,r⟩
 ·obtain⟨z,its,n,r,e⟩:=h.ok I.hok
  exact⟨its,r,⟨_,n,e,rfl,rfl,rfl⟩,z⟩
 ·refine⟨its.toList,r,⟨o,n,I.kIn a o hk,hc,hd,by simpa using hs⟩,?_⟩
  have e:=r.length
  simp only[cS]at e
  ac_nf
theorem Inv.tuple(I:Inv X pins σ H s)(h:SqT X.K H a xs):∃its:List ae,Vals xs its/\IsTup s.heap a its.toArray/\xs.length<=aJ:=by
 rcases h with h|⟨o,its,n,hk,hc,hs,hz,r⟩
 ·obtain⟨z,its,r,p⟩:=h.ok I.hok
  exact⟨its,r,p,z⟩
 ·refine⟨its.toList,r,⟨o,I.kIn a o hk,hc,n,by simpa using hs⟩,?_⟩
  have e:=r.length
  simp only[cS]at e
  ac_nf
theorem Inv.list_inj(I:Inv X pins σ H s)(h:SqL X.K H a xs)(h':SqL X.K H a ys):xs=ys:=by
 obtain⟨its,r,⟨o,n,e,_,_,d⟩,_⟩:=I.list h
 obtain⟨its',r',⟨o',n',e',_,_,d'⟩,_⟩:=I.list h'
 rw[e]at e';cases e'
 rw[d]at d'
 injection d' with d1 _
 have:its=its':=by simpa using congrArg Array.toList d1
 subst this
 exact r.inj r'
theorem Inv.tuple_inj(I:Inv X pins σ H s)(h:SqT X.K H a xs)(h':SqT X.K H a ys):xs=ys:=by
 obtain⟨its,r,⟨o,e,_,n,d⟩,_⟩:=I.tuple h
 obtain⟨its',r',⟨o',e',_,n',d'⟩,_⟩:=I.tuple h'
 rw[e]at e';cases e'
 rw[d]at d'
 injection d' with d1 _
 have:its=its':=by simpa using congrArg Array.toList d1
 subst this
 exact r.inj r'
end
noncomputable abbrev Cx.wish(X:Cx)(E:ae->af->Prop):Cx:={X with xe:=E}
noncomputable abbrev Cx.nox(X:Cx):Cx:=X.wish λ_ _=>False
theorem Cx.Ok.wish{X:Cx}(ok:X.Ok)(E:ae->af->Prop):(X.wish E).Ok:=
 ⟨ok.mod,ok.kind,ok.glob,ok.blt,ok.above,ok.inj,ok.has,ok.cab,ok.hd,ok.frames,ok.stk,ok.exf,ok.bs,ok.bsz,ok.noex,ok.exfs,ok.funs,ok.frf⟩
theorem Cx.Ok.unwish{X:Cx}{E:ae->af->Prop}(ok:(X.wish E).Ok):X.Ok:=
 ⟨ok.mod,ok.kind,ok.glob,ok.blt,ok.above,ok.inj,ok.has,ok.cab,ok.hd,ok.frames,ok.stk,ok.exf,ok.bs,ok.bsz,ok.noex,ok.exfs,ok.funs,ok.frf⟩
section
variable{X:Cx}{pins:List (Addr×Obj)}{σ:St}{H:Hp}{s:af}{E:ae->af->Prop}
theorem Inv.wish(I:Inv X pins σ H s)(E:ae->af->Prop):Inv (X.wish E) pins σ H s:=⟨I.ok.wish E,I.os,I.bare,I.base,I.loc,I.cell,I.free,I.freeC,I.pin,I.hok,I.len⟩
theorem Inv.unwish(I:Inv (X.wish E) pins σ H s):Inv X pins σ H s:=⟨I.ok.unwish,I.os,I.bare,I.base,I.loc,I.cell,I.free,I.freeC,I.pin,I.hok,I.len⟩
theorem SP.unwish{D:Ends}{f:Flow}{s':af}(h:SP (X.wish E) pins D f s'):SP X pins D f s':=by
 cases f with
 |next=>obtain⟨σ',H',I,q⟩:=h;exact⟨σ',H',I.unwish,q⟩
 |brk=>obtain⟨σ',H',I,q⟩:=h;exact⟨σ',H',I.unwish,q⟩
 |cont=>obtain⟨σ',H',I,q⟩:=h;exact⟨σ',H',I.unwish,q⟩
 |ret u=>obtain⟨v,σ',H',I,r,q⟩:=h;exact⟨v,σ',H',I.unwish,r,q⟩
theorem PSs.nox{st:List Stmt}{t:TS}(h:PSs X.nox st t):PSs X st t:=λpins s σ H D I hw=>
 aW (h pins s σ H D (I.wish _) hw) (λ_ _ q=>q.unwish) λ_ _ z=>bG z
end
section
variable{X:Cx}{st:Stmt}{rest:List Stmt}{t u:TS}{e:Expr}{te:TE}{pos:Pos}
noncomputable def FG:TS:=λD σ H=>D.nx σ H
noncomputable def Mv(t u:TS):TS:=λD σ H=>t {D with nx:=u D} σ H
theorem DP:PSs X [] FG:=λ_ _ σ H _ I h=>dL ⟨σ,H,I,h⟩
theorem AW(h1:PS X st t)(h2:PSs X rest u):PSs X (st::rest) (Mv t u):=by
 intro pins s σ H D I h
 refine lh (eB (h1 pins s σ H {D with nx:=u D} I h) λf s1 q=> ?_)
 cases f with
 |next=>
  obtain⟨σ',H',I',q⟩:=q
  exact h2 pins s1 σ' H' D I' q
 |ret v=>exact q
 |brk=>exact q
 |cont=>exact q
theorem DO(h1:PS X st t):PSs X [st] t:=by
 intro pins s σ H D I h
 refine lh (eB (h1 pins s σ H D I h) λf s1 q=> ?_)
 cases f with
 |next=>exact dL q
 |ret v=>exact q
 |brk=>exact q
 |cont=>exact q
theorem DQ:PS X (.Pass pos) FG:=λ_ _ σ H _ I h=>wpAny_Pass ⟨σ,H,I,h⟩
theorem Inv.quiet{pins:List (Addr×Obj)}{σ:St}{H:Hp}{s:af}(I:Inv X pins σ H s):interactive X.env=false:=by simp[interactive,I.ok.kind]
noncomputable def J0(te:TE):TS:=λD σ H=>te σ H λ_ H1=>D.nx σ H1
theorem DR(he:PE X e te)(hs:eN e none pos.line X.env=pure false:=by rfl):PS X (.Expr e pos) (J0 te):=by
 intro pins s σ H D I h
 exact wpAny_Expr_any (eB (he pins s σ H _ I h) λv s1 ⟨x,H1,I1,r1,q1⟩=>⟨σ,H1,I1,q1⟩) I.quiet hs
noncomputable def Mw(te:TE):TS:=λD σ H=>te σ H D.rt
theorem Hd(he:PE X e te):PS X (.Return (some e) pos) (Mw te):=by
 intro pins s σ H D I h
 exact wpAny_Return_some (eB (he pins s σ H _ I h) λv s1 ⟨x,H1,I1,r1,q1⟩=>⟨x,σ,H1,I1,r1,q1⟩)
noncomputable def MH(c:TT)(t u:TS):TS:=λD σ H=>c σ H λb H1=>if b=true then t D σ H1 else u D σ H1
theorem Ko{c:Expr}{a b:List Stmt}{tc:TT}(hc:PT X c tc)(ha:PSs X a t)(hb:PSs X b u):PS X (.If c a b pos) (MH tc t u):=by
 intro pins s σ H D I h
 refine wpAny_If (eB (hc pins s σ H _ I h) λd s1 hPl=> ?_)
 obtain⟨H1,I1,q1⟩:=hPl
 cases d with
 |true=>exact ha pins s1 σ H1 D I1 q1
 |false=>exact hb pins s1 σ H1 D I1 q1
end
noncomputable abbrev TG:=V->St->Hp->(St->Hp->Prop)->Prop
noncomputable abbrev Jq:=List V->St->Hp->(St->Hp->Prop)->Prop
noncomputable def PG(X:Cx)(target:Expr)(t:TG):Prop:=
 ∀(pins:List (Addr×Obj)) (s:af) (σ:St) (H:Hp) (v:V) (u:ae) (Q:St->Hp->Prop),Inv X pins σ H s->RelV v u->t v σ H Q->
  wpAny (aN X.prog X.w) X.A (assign target X.env u) (λ_ s'=>∃σ' H',Inv X pins σ' H' s'/\Q σ' H') X.xe s
noncomputable def Mm(X:Cx)(ts:List Expr)(t:Jq):Prop:=
 ∀(pins:List (Addr×Obj)) (s:af) (σ:St) (H:Hp) (vs:List V) (us:List ae) (Q:St->Hp->Prop),Inv X pins σ H s->Vals vs us->t vs σ H Q->
  wpAny (aN X.prog X.w) X.A (assignInOrder ((jA ts X.env).map (·.2)) us) (λ_ s'=>∃σ' H',Inv X pins σ' H' s'/\Q σ' H') X.xe s
noncomputable abbrev wT:=V->V->V->Hp->(Hp->Prop)->Prop
noncomputable def PSet(X:Cx)(t:wT):Prop:=
 ∀(pins:List (Addr×Obj)) (s:af) (σ:St) (H:Hp) (o i v:V) (ov iv u:ae) (Q:Hp->Prop),Inv X pins σ H s->RelV o ov->RelV i iv->RelV v u->t o i v H Q->
  wpAny (aN X.prog X.w) X.A (setItem ov iv u) (λ_ s'=>∃H',Inv X pins σ H' s'/\Q H') X.xe s
noncomputable abbrev JH:=V->V->Hp->VK->Prop
noncomputable def JJ(X:Cx)(op:jB)(t:JH):Prop:=
 ∀(pins:List (Addr×Obj)) (s:af) (σ:St) (H:Hp) (x y:V) (v u:ae) (Q:VK),Inv X pins σ H s->RelV x v->RelV y u->t x y H Q->
  wpAny (aN X.prog X.w) X.A (inplaceOp op v u) (EP X pins σ Q) X.xe s
section
variable{X:Cx}{pos:Pos}
noncomputable def pZ(i:Nat):TG:=λv σ H Q=>Q (σ.set i (some v)) H
theorem oR{i:Nat}{x:Str}(hN:X.N.Nodup)(hi:X.N[i]? =some x)(hx:Df X.env.scope x)(hf:X.fn x=true\/X.env.scope.names.lookup x=some .local:=by first|exact .inl rfl|exact .inr rfl|assumption):PG X (.Name x pos) (pZ i):=by
 intro pins s σ H v u Q I r h
 exact wpAny_assign_Name (jQ I hN hi hx r (λs' I'=>⟨_,H,I',h⟩) hf)
noncomputable def LA:Jq:=λvs σ H Q=>vs=[]/\Q σ H
noncomputable def Cg(t:TG)(u:Jq):Jq:=λvs σ H Q=>∃v r,vs=v::r/\t v σ H λσ' H'=>u r σ' H' Q
theorem D8:Mm X [] LA:=by
 intro pins s σ H vs us Q I r h
 obtain⟨e,h⟩:=h
 subst e
 cases r
 exact assignInOrder_nil ⟨σ,H,I,h⟩
theorem uv{e:Expr}{es:List Expr}{t:TG}{u:Jq}(h1:PG X e t)(h2:Mm X es u)
  (hs:(jA (e::es) X.env).map (·.2)=assign e X.env::(jA es X.env).map (·.2):=by rfl):Mm X (e::es) (Cg t u):=by
 intro pins s σ H vs us Q I r h
 obtain⟨v,vr,e1,h⟩:=h
 subst e1
 cases r with
 |cons r rr=>
  rw[hs]
  refine assignInOrder_cons (eB (h1 pins s σ H _ _ _ I r h) λ_ s1 hPl=> ?_)
  obtain⟨σ1,H1,I1,q1⟩:=hPl
  exact h2 pins s1 σ1 H1 _ _ Q I1 rr q1
noncomputable def Ly(K:PySem.W.Frag)(n:Nat)(t:Jq):TG:=λv σ H Q=>∃a xs,v= .ref a/\SqT K H a xs/\xs.length=n/\t xs σ H Q
theorem Hi{es:List Expr}{k:Nat}{t:Jq}{n:Nat}(hc:X.calm=true)(h:Mm X es t)
  (hn:(jA es X.env).length=n:=by rfl) (hst:(jA es X.env).findIdx? (·.1)=none:=by rfl):PG X (.Tuple es k pos) (Ly X.K n t):=by
 intro pins s σ H v u Q I r hw
 obtain⟨a,xs,e1,hq,hl,hw⟩:=hw
 subst e1
 cases r
 obtain⟨its,rv,ht,hz⟩:=I.tuple hq
 refine assign_Tuple_tuple (I.ok.hd hc) ht (by simp[hn,<-hl,rv.length]) hst λh' hx=> ?_
 have I1:Inv X pins σ H {s with heap:=h'}:=I.kept (t':=s.toks) λb o e=>hx b o (aQ (aw e)) e
 exact h pins _ σ H xs _ Q I1 (by simpa using rv) hw
noncomputable def NE(to ti:TE)(t:wT):TG:=λv σ H Q=>to σ H λo H1=>ti σ H1 λi H2=>t o i v H2 λH3=>Q σ H3
theorem Hj{o i:Expr}{to ti:TE}{t:wT}(ho:PE X o to)(hi:PE X i ti)(hs:PSet X t)
  (ha:∀v,assign (.Subscript o i pos) X.env v=(do
   let ov <-holding [v] (eval o X.env)
   let iv <-holding [v,ov] (eval i X.env)
   standAt pos
   holding [v,ov,iv] (setItem ov iv v)
   release [v,ov,iv] []):=by intro _;rfl):PG X (.Subscript o i pos) (NE to ti t):=by
 intro pins s σ H v u Q I r h
 rw[ha]
 refine aa (cH (eB (ho pins s σ H _ I h) λov s1 hPl=> ?_))
 obtain⟨x,H1,I1,r1,q1⟩:=hPl
 refine aa (cH (eB (hi pins s1 σ H1 _ I1 q1) λiv s2 hPl=> ?_))
 obtain⟨y,H2,I2,r2,q2⟩:=hPl
 refine aa (wpAny_standAt (aa (cH (eB (hs pins s2 σ H2 x y v ov iv u _ I2 r1 r2 r q2) λ_ s3 hPl=> ?_))))
 obtain⟨H3,I3,q3⟩:=hPl
 exact wpAny_release ⟨σ,H3,I3,q3⟩
noncomputable def GG(te:TE)(g:TG):TS:=λD σ H=>te σ H λx H1=>g x σ H1 D.nx
theorem Hh{tg e:Expr}{te:TE}{g:TG}(he:PE X e te)(hg:PG X tg g)(hs:swapsWithSole [tg] e pos.line X.env=pure false:=by rfl)(hw:swappedStores [tg] e X.env=pure none:=by rfl)
  (h1:(jA [tg] X.env).map (·.2)=[assign tg X.env]:=by rfl):PS X (.Assign [tg] e pos) (GG te g):=by
 intro pins s σ H D I h
 refine wpAny_Assign_stores (eB (he pins s σ H _ I h) λv s1 hPl=> ?_) hs hw
 obtain⟨x,H1,I1,r1,q1⟩:=hPl
 rw[h1]
 exact eB (hg pins s1 σ H1 x v _ I1 r1 q1) λ_ s2 q=>q
theorem Hc{i:Nat}{x:Str}{e:Expr}{te:TE}{pos':Pos}(hN:X.N.Nodup)(hi:X.N[i]? =some x)(hx:Df X.env.scope x)(he:PE X e te)(hs:eN e (some (.Name x pos')) pos.line X.env=pure false:=by rfl)(hf:X.fn x=true\/X.env.scope.names.lookup x=some .local:=by first|exact .inl rfl|exact .inr rfl|assumption):
  PS X (.Assign [.Name x pos'] e pos) (GG te (pZ i)):=by
 intro pins s σ H D I h
 refine wpAny_Assign_Name (eB (he pins s σ H _ I h) λv s1 hPl=> ?_) hs
 obtain⟨y,H1,I1,r1,q1⟩:=hPl
 exact jQ I1 hN hi hx r1 (λs2 I2=>⟨_,H1,I2,q1⟩) hf
noncomputable def MM(i:Nat)(te:TE)(ti:JH):TS:=λD σ H=>∃x,σ[i]? =some (some x)/\te σ H λy H1=>ti x y H1 λz H2=>D.nx (σ.set i (some z)) H2
theorem Hg{i:Nat}{x:Str}{e:Expr}{te:TE}{op:jB}{ti:JH}{pos':Pos}(hN:X.N.Nodup)(hi:X.N[i]? =some x)(hx:Df X.env.scope x)(he:PE X e te)(ho:JJ X op ti)(hf:X.fn x=true\/X.env.scope.names.lookup x=some .local:=by first|exact .inl rfl|exact .inr rfl|assumption):
  PS X (.AugAssign (.Name x pos') op e pos) (MM i te ti):=by
 intro pins s σ H D I h
 obtain⟨v,e1,h⟩:=h
 obtain⟨m,hn,hl⟩:=I.loc
 have vis:Mj X.env.scope x:=by rcases hx with k|k;exact .inl k;exact .inr (.inl k)
 obtain⟨u,r,l⟩:=hl i x v hi e1 vis
 refine wpAny_AugAssign_Name ?_
 have go:wpAny (aN X.prog X.w) X.A (eval e X.env) (λw s₂=>wpAny (aN X.prog X.w) X.A (inplaceOp op u w) (λr s₃=>wpAny (aN X.prog X.w) X.A (storeName X.env x r) (λ_=>SP X pins D .next) X.xe s₃) X.xe s₂) X.xe s:=by
  refine eB (he pins s σ H _ I h) λw s1 hPl=> ?_
  obtain⟨y,H1,I1,r1,q1⟩:=hPl
  refine eB (ho pins s1 σ H1 v y u w _ I1 r r1 q1) λz s2 hPl=> ?_
  obtain⟨zv,H2,I2,r2,q2⟩:=hPl
  exact jQ I2 hN hi hx r2 (λs3 I3=>⟨_,H2,I3,q2⟩) hf
 rcases l with⟨hk,hm⟩|⟨hk,c,hc,hcell⟩
 ·exact wpAny_loadName_local I.ok.kind hk hn hm go
 ·rcases hk with hk|hk
  ·exact wpAny_loadName_cell I.ok.kind hk hc hcell go
  ·rcases hx with k|k
   ·have:X.env.scope.names.lookup x=some .free:=hk
    rw[k]at this;cases this
   ·have:X.env.scope.names.lookup x=some .free:=hk
    rw[k]at this;cases this
noncomputable def Ka(to ti te:TE)(tget:V->V->Hp->VK->Prop)(tip:JH)(tset:wT):TS:=λD σ H=>to σ H λo H1=>ti σ H1 λi H2=>tget o i H2 λx H3=>te σ H3 λy H4=>tip x y H4 λz H5=>tset o i z H5 λH6=>D.nx σ H6
noncomputable def Js(X:Cx)(t:V->V->Hp->VK->Prop):Prop:=
 ∀(pins:List (Addr×Obj)) (s:af) (σ:St) (H:Hp) (o i:V) (ov iv:ae) (Q:VK),Inv X pins σ H s->RelV o ov->RelV i iv->t o i H Q->
  wpAny (aN X.prog X.w) X.A (ii ov iv) (EP X pins σ Q) X.xe s
theorem DT{o i e:Expr}{to ti te:TE}{tget:V->V->Hp->VK->Prop}{tip:JH}{tset:wT}{op:jB}{tpos:Pos}(ho:PE X o to)(hi:PE X i ti)(hg:Js X tget)(he:PE X e te)(hp:JJ X op tip)(hs:PSet X tset)
  (ha:∀ov iv new,augStore i ov iv new=(do holding [new,ov,iv] (setItem ov iv new);release [new,ov,iv] [];pure .next):=by intros;rfl):PS X (.AugAssign (.Subscript o i tpos) op e pos) (Ka to ti te tget tip tset):=by
 intro pins s σ H D I h
 refine wpAny_AugAssign_SubscriptAny (eB (ho pins s σ H _ I h) λov s1 hPl=> ?_) ha
 obtain⟨x1,H1,I1,r1,q1⟩:=hPl
 refine eB (hi pins s1 σ H1 _ I1 q1) λiv s2 hPl=> ?_
 obtain⟨x2,H2,I2,r2,q2⟩:=hPl
 refine eB (hg pins s2 σ H2 x1 x2 ov iv _ I2 r1 r2 q2) λold s3 hPl=> ?_
 obtain⟨x3,H3,I3,r3,q3⟩:=hPl
 refine eB (he pins s3 σ H3 _ I3 q3) λv s4 hPl=> ?_
 obtain⟨x4,H4,I4,r4,q4⟩:=hPl
 refine eB (hp pins s4 σ H4 x3 x4 old v _ I4 r3 r4 q4) λnew s5 hPl=> ?_
 obtain⟨x5,H5,I5,r5,q5⟩:=hPl
 exact eB (hs pins s5 σ H5 x1 x2 x5 ov iv new _ I5 r1 r2 r5 q5) λ_ s6 hPl=>by obtain⟨H6,I6,q6⟩:=hPl;exact⟨σ,H6,I6,q6⟩
noncomputable def ipI(f:Int->Int->Int):JH:=λx y H Q=>∃i j,x= .int i/\y= .int j/\Q (.int (f i j)) H
theorem IU:JJ X .Add (ipI λi j=>i+j):=by
 intro pins s σ H x y v u Q I r1 r2 h
 obtain⟨i,j,e1,e2,q⟩:=h
 subst e1;subst e2
 obtain⟨t,rfl⟩:=r1
 obtain⟨t',rfl⟩:=r2
 exact iadd_int ⟨.int _,H,I.tok _,⟨_,rfl⟩,q⟩
end
section
variable{X:Cx}{pos:Pos}
noncomputable def GB(c:TT)(tb:TS):TS:=λD σ H=>∃W:Nat->St->Hp->Prop,(∃m,W m σ H)/\∀m σ H,W m σ H->
 c σ H λb H1=>if b=true then∃N:St->Hp->Prop,(∀σ' H',N σ' H'->∃m',m'<m/\W m' σ' H')/\tb {D with nx:=N,ct:=N,bk:=D.nx} σ H1 else D.nx σ H1
theorem AX{c:Expr}{body:List Stmt}{tc:TT}{tb:TS}(hp:PassesOwn (aN X.prog X.w) X.A X.env X.xe)(hc:PT X c tc)(hb:PSs X body tb):PS X (.While c body [] pos) (GB tc tb):=by
 intro pins s σ H D I h
 obtain⟨W,⟨m0,w0⟩,turn⟩:=h
 refine wpAny_While (codeAny_whileLoop (λn s'=>∃σ' H',Inv X pins σ' H' s'/\W n σ' H') ?_ m0 ⟨σ,H,I,w0⟩)
 rintro n s1 ⟨σ1,H1,I1,w1⟩
 refine fK hp (eB (hc pins s1 σ1 H1 _ I1 (turn n σ1 H1 w1)) λb s2 hPl=> ?_)
 obtain⟨H2,I2,q2⟩:=hPl
 cases b with
 |true=>
  obtain⟨N,hN,q2⟩:=q2
  rw[if_pos rfl]
  refine fK hp (eB (hb pins s2 σ1 H2 _ I2 q2) λf s3 q3=> ?_)
  cases f with
  |next=>
   obtain⟨σ3,H3,I3,n3⟩:=q3
   obtain⟨m',hm,w3⟩:=hN σ3 H3 n3
   exact⟨m',hm,σ3,H3,I3,w3⟩
  |cont=>
   obtain⟨σ3,H3,I3,n3⟩:=q3
   obtain⟨m',hm,w3⟩:=hN σ3 H3 n3
   exact⟨m',hm,σ3,H3,I3,w3⟩
  |brk=>exact q3
  |ret v=>exact q3
 |false=>
  rw[if_neg bi]
  exact dL ⟨σ1,H2,I2,q2⟩
end
structure It where
 go:Nat->Hp->Prop
 yld:Nat->Hp->V->Hp->Prop
 stop:Nat->Hp->Prop
noncomputable def oA(X:Cx)(pins:List (Addr×Obj))(H:Hp)(b:Addr):Prop:=
 H b=none/\b≠X.env.locals/\b∉X.fs/\(b∈X.ex\/X.s₀.heap.objs.size<=b)/\(∀x c,X.env.cells.lookup x=some c->c≠b)/\∀p∈X.pn++pins,p.1≠b
theorem Inv.fpOk{X:Cx}{pins:List (Addr×Obj)}{σ:St}{H H':Hp}{s:af}{b:Addr}(I:Inv X pins σ H s)(hb:s.heap.objs.size<=b)(hn:H' b=none):oA X pins H' b:=by
 refine⟨hn,iS (aU I.lt hb),I.nofs hb,.inr (aZ I.sz hb),λx c e z=> ?_,λp hp z=> ?_⟩
 ·obtain⟨v,q⟩:=I.cell x c e
  exact absurd (aU q.lt (by rw[z];exact hb)) (cL _)
 ·exact absurd (aU (aw (I.pin p hp).1) (by rw[z];exact hb)) (cL _)
structure qG(P:aF)(w:aS)(K:PySem.W.Frag)(tg:Expr)(J:It)(fp:List Addr)(it:Addr)(tn:Nat->Heap->Prop):Prop where
 mem:it∈fp
 obj:∀i h,tn i h->∀b∈fp,∃o,h.get? b=some o/\∀v,o.data≠ .cell v
 keep:∀i h h',tn i h->(∀b∈fp,∀o,h.get? b=some o->h'.get? b=some o)->tn i h'
 item:∀(X:Cx),X.prog=P->X.w=w->X.K=K->X.calm=true->∀(i:Nat) (pins:List (Addr×Obj)) (s:af) (σ:St) (H:Hp) (E:ae->af->Prop),Inv X pins σ H s->(∀b∈fp,oA X pins H b)->tn i s.heap->J.go i H->
  wpAny (aN P w) X.A (pyNext (.ref it)) (λr s1=>∃u,r=some u/\
   wpAny (aN P w) X.A (i0 tg (.ref it) u) (λ_ s2=>∃x H',Inv X pins σ H' s2/\RelV x u/\J.yld i H x H'/\tn (i+1) s2.heap/\∀b∈fp,H' b=none) E s1) E s
 done:∀(X:Cx),X.prog=P->X.w=w->X.K=K->X.calm=true->∀(i:Nat) (pins:List (Addr×Obj)) (s:af) (σ:St) (H:Hp) (E:ae->af->Prop),Inv X pins σ H s->(∀b∈fp,oA X pins H b)->tn i s.heap->J.stop i H->
  wpAny (aN P w) X.A (pyNext (.ref it)) (λr s1=>r=none/\Inv X pins σ H s1) E s
 self:∀(A:Around) (i:Nat) (s:af) (Q:ae->af->Prop) (E:ae->af->Prop),tn i s.heap->Q (.ref it) s->wpAny (aN P w) A (pyIter (.ref it)) Q E s
noncomputable abbrev TI:=St->Hp->(It->Hp->Prop)->Prop
noncomputable def NQ(X:Cx)(pins:List (Addr×Obj))(σ:St)(tg:Expr)(R:It->Hp->Prop)(itv:ae)(s2:af):Prop:=
 ∃(it:Addr) (fp:List Addr) (tn:Nat->Heap->Prop) (J:It) (H':Hp),itv= .ref it/\Inv X pins σ H' s2/\qG X.prog X.w X.K tg J fp it tn/\tn 0 s2.heap/\(∀b∈fp,oA X pins H' b)/\R J H'
noncomputable def PI(X:Cx)(tg iter:Expr)(wi:TI):Prop:=
 ∀(pins:List (Addr×Obj)) (s:af) (σ:St) (H:Hp) (R:It->Hp->Prop),Inv X pins σ H s->wi σ H R->
  wpAny (aN X.prog X.w) X.A (eval iter X.env) (λv s1=>wpAny (aN X.prog X.w) X.A (pyIter v) (NQ X pins σ tg R) X.xe s1) X.xe s
theorem uU{M:Model}{A:Around}{E:ae->af->Prop}{s:af}{tg:Expr}{it:Addr}{u:ae}{o:Obj}{n:String}{vs:Array ae}{Q:Unit->af->Prop}(ho:s.heap.get? it=some o)(hc:o.cls= .type n)(hd:o.data= .fields vs)
  (hn:["enumerate", "zip", "dict_itemiterator", "dict_reverseitemiterator", "odict_iterator", "itertools.zip_longest", "itertools.pairwise"].contains n=false) (hQ:Q () s):wpAny M A (i0 tg (.ref it) u) Q E s:=by
 unfold i0
 cases tg<;>first
  |exact am hQ
  |(cases u<;>first
    |exact am hQ
    |(refine aa (wpAny_load ho ?_)
      rw[hc,hd]
      show wpAny M A (if(["enumerate", "zip", "dict_itemiterator", "dict_reverseitemiterator", "odict_iterator", "itertools.zip_longest", "itertools.pairwise"].contains n&&vs[0]? ==some (rawInt _))=true then _ else _) Q E s
      rw[if_neg (by intro h;rw[hn,Bool.false_and]at h;cases h)]
      exact am hQ))
noncomputable def Itl(K:PySem.W.Frag)(a:Addr):It:=
 ⟨λi H=>∃xs x,SqL K H a xs/\xs[i]? =some x,λi H x H'=>H'=H/\∀xs,SqL K H a xs->xs[i]? =some x,λi H=>∃xs,SqL K H a xs/\xs.length<=i⟩
noncomputable def Itt(K:PySem.W.Frag)(a:Addr):It:=
 ⟨λi H=>∃xs x,SqT K H a xs/\xs[i]? =some x,λi H x H'=>H'=H/\∀xs,SqT K H a xs->xs[i]? =some x,λi H=>∃xs,SqT K H a xs/\xs.length<=i⟩
noncomputable def Mq(lo:Int)(n:Nat):It:=⟨λi _=>i<n,λi H x H'=>H'=H/\x= .int (lo+i),λi _=>n<=i⟩
theorem yQ{P:aF}{w:aS}{K:PySem.W.Frag}{tg:Expr}(a it:Addr):qG P w K tg (Itl K a) [it] it (λi h=>h.IsListIter it a i) where
 mem:=by simp
 obj:=λi h st b hb=>by
  have e:b=it:=by simpa using hb
  subst e
  obtain⟨o,e,c,d⟩:=st
  exact⟨o,e,λv z=>by rw[d]at z;cases z⟩
 keep:=λi h h' st k=>st.at λo e=>k it (by simp) o e
 item:=by
  intro X hP hw hK hc i pins s σ H E I hf st hg
  subst hP hw hK
  obtain⟨xs,x,hq,hx⟩:=hg
  obtain⟨its,rv,p,hz⟩:=I.list hq
  obtain⟨u,hu,ru⟩:=rv.get hx
  obtain⟨f0,f1,f2,f3,f4,f5⟩:=hf it (by simp)
  refine wpAny_pyNext_list_item st p.isList (x:=u) (by simpa using hu) λh' st' sb=> ?_
  have I1:Inv X pins σ H {s with heap:=h'}:=I.turned (t':=s.toks) (λb o hb e=>(sb.2 b hb).trans e) f0 f1 f3 f4 f5
  obtain⟨o,e,c,d⟩:=id st'
  exact⟨u,rfl,uU (s:={s with heap:=h'}) e c d (by decide) ⟨x,H,I1,ru,⟨rfl,λys hy=>by rw[I.list_inj hy hq];exact hx⟩,st',λb hb=>(hf b hb).1⟩⟩
 done:=by
  intro X hP hw hK hc i pins s σ H E I hf st hg
  subst hP hw hK
  obtain⟨xs,hq,hx⟩:=hg
  obtain⟨its,rv,p,hz⟩:=I.list hq
  obtain⟨f0,f1,f2,f3,f4,f5⟩:=hf it (by simp)
  have hl:=rv.length
  exact wpAny_pyNext_list_end (I.ok.hd hc) st p.isList (by simp;ac_nf) λh' eb=>⟨rfl,I.turned (t':=s.toks) (λb o hb e=>eb b o hb e) f0 f1 f3 f4 f5⟩
 self:=λ_ _ _ _ _ st h=>wpAny_pyIter_listiter st h
theorem vK{P:aF}{w:aS}{K:PySem.W.Frag}{tg:Expr}(a it:Addr):qG P w K tg (Itt K a) [it] it (λi h=>h.IsTupleIter it a i) where
 mem:=by simp
 obj:=λi h st b hb=>by
  have e:b=it:=by simpa using hb
  subst e
  obtain⟨o,e,c,d⟩:=st
  exact⟨o,e,λv z=>by rw[d]at z;cases z⟩
 keep:=λi h h' st k=>st.at λo e=>k it (by simp) o e
 item:=by
  intro X hP hw hK hc i pins s σ H E I hf st hg
  subst hP hw hK
  obtain⟨xs,x,hq,hx⟩:=hg
  obtain⟨its,rv,p,hz⟩:=I.tuple hq
  obtain⟨u,hu,ru⟩:=rv.get hx
  obtain⟨f0,f1,f2,f3,f4,f5⟩:=hf it (by simp)
  refine wpAny_pyNext_tuple_item st (show s.heap.IsTuple a its.toArray from p) (x:=u) (by simpa using hu) λh' st' sb=> ?_
  have I1:Inv X pins σ H {s with heap:=h'}:=I.turned (t':=s.toks) (λb o hb e=>(sb.2 b hb).trans e) f0 f1 f3 f4 f5
  obtain⟨o,e,c,d⟩:=id st'
  exact⟨u,rfl,uU (s:={s with heap:=h'}) e c d (by decide) ⟨x,H,I1,ru,⟨rfl,λys hy=>by rw[I.tuple_inj hy hq];exact hx⟩,st',λb hb=>(hf b hb).1⟩⟩
 done:=by
  intro X hP hw hK hc i pins s σ H E I hf st hg
  subst hP hw hK
  obtain⟨xs,hq,hx⟩:=hg
  obtain⟨its,rv,p,hz⟩:=I.tuple hq
  obtain⟨f0,f1,f2,f3,f4,f5⟩:=hf it (by simp)
  have hl:=rv.length
  exact wpAny_pyNext_tuple_end (I.ok.hd hc) st (show s.heap.IsTuple a its.toArray from p) (by simp;ac_nf) λh' eb=>⟨rfl,I.turned (t':=s.toks) (λb o hb e=>eb b o hb e) f0 f1 f3 f4 f5⟩
 self:=λ_ _ _ _ _ st h=>wpAny_pyIter_tupleiter st h
theorem vL{P:aF}{w:aS}{K:PySem.W.Frag}{tg:Expr}(it:Addr)(lo:Int)(n:Nat):qG P w K tg (Mq lo n) [it] it (λi h=>IsRangeIter h it (lo+(i:Nat)*1) ((n:Int)-(i:Nat)) 1) where
 mem:=by simp
 obj:=λi h st b hb=>by
  have e:b=it:=by simpa using hb
  subst e
  exact⟨_,st,λv z=>by
   have z':cZ _=Data.cell v:=z
   cases z'⟩
 keep:=λi h h' st k=>k it (by simp) _ st
 item:=by
  intro X hP hw hK hc i pins s σ H E I hf st hg
  subst hP hw hK
  obtain⟨f0,f1,f2,f3,f4,f5⟩:=hf it (by simp)
  have W:=Walks.range (prog:=X.prog) (w:=X.w) (I.ok.hd hc) it lo 1 n
  refine W.item i s _ _ hg st λv h' tk hv st' kk=> ?_
  obtain⟨t,rfl⟩:=hv
  have I1:Inv X pins σ H {s with heap:=h',toks:=tk}:=I.turned (λb o hb e=>kk b o (by simpa using hb) e) f0 f1 f3 f4 f5
  refine⟨_,rfl,uU (s:={s with heap:=h',toks:=tk}) (n:= "range_iterator") st' rfl rfl (by decide) ⟨.int (lo+i),H,I1,⟨t,?_⟩,⟨rfl,rfl⟩,st',λb hb=>(hf b hb).1⟩⟩
  rw[Int.mul_one]
 done:=by
  intro X hP hw hK hc i pins s σ H E I hf st hg
  subst hP hw hK
  obtain⟨f0,f1,f2,f3,f4,f5⟩:=hf it (by simp)
  exact wpAny_pyNext_range_end (I.ok.hd hc) st (by have:n<=i:=hg;ac_nf) λh' eb=>⟨rfl,I.turned (t':=s.toks) (λb o hb e=>eb b o hb e) f0 f1 f3 f4 f5⟩
 self:=λ_ _ _ _ _ st h=>wpAny_pyIter_rangeiter st h
section
variable{X:Cx}{tg:Expr}
theorem AT{pins:List (Addr×Obj)}{σ:St}{H:Hp}{s:af}{R:It->Hp->Prop}{E:ae->af->Prop}{lo hi:Int}{t u v:Tok}{tk:Nat}(I:Inv X pins σ H s)(h1: -(2^62)<=lo)(h2:lo<2^62)(h3: -(2^62)<=hi)(h4:hi<2^62)
  (q:R (Mq lo (hi-lo).toNat) H):wpAny (aN X.prog X.w) X.A (pyIter (.ref s.heap.objs.size)) (NQ X pins σ tg R) E {s with heap:=s.heap.push {cls:= .type "range",data:= .fields #[.int lo t,.int hi u,.int 1 v]},toks:=tk}:=by
 refine wpAny_pyIter_range (IsRange.new ..) (small_one h1 h2 h3 h4) ?_
 have I1:Inv X pins σ H {s with heap:=s.heap.push {cls:= .type "range",data:= .fields #[.int lo t,.int hi u,.int 1 v]},toks:=tk}:=I.kept λb o e=>ai _ e
 refine⟨(s.heap.push {cls:= .type "range",data:= .fields #[.int lo t,.int hi u,.int 1 v]}).objs.size,[(s.heap.push {cls:= .type "range",data:= .fields #[.int lo t,.int hi u,.int 1 v]}).objs.size],_,_,H,rfl,
  I1.kept (t':=tk) λb o e=>ai _ e,vL _ lo (hi-lo).toNat,?_,λb hb=> ?_,q⟩
 ·have e1:lo+((0:Nat):Int)*1=lo:=by simp
  have e2:(((hi-lo).toNat:Nat):Int)-((0:Nat):Int)=fM lo hi 1:=by rw[rangeSize_one];split<;>ac_nf
  show IsRangeIter _ _ (lo+((0:Nat):Int)*1) ((((hi-lo).toNat:Nat):Int)-((0:Nat):Int)) 1
  rw[e1,e2]
  exact aH _ rfl
 ·have e:b=(s.heap.push {cls:= .type "range",data:= .fields #[.int lo t,.int hi u,.int 1 v]}).objs.size:=by simpa using hb
  subst e
  exact I1.fpOk (aq _) (I1.hok.fresh (aq _))
noncomputable def Lw(ta:TA):TI:=λσ H R=>ta σ H λvs H1=>∃j:Int,vs=[.int j]/\-(2^62)<=j/\j<2^62/\R (Mq 0 j.toNat) H1
theorem y0{a:Expr}{ta:TA}{p pos:Pos}(hg:Gl X "range")(hm:X.mg "range" =none)(ha:PA X [a] ta)(hs:al [a] X.env=[(false,eval a X.env)]:=by rfl):PI X tg (.Call (.Name "range" p) [a] [] pos) (Lw ta):=by
 intro pins s σ H R I h
 refine Call_ (nz I hg hm boot_range (eX (eB (ha pos pins s σ H _ I h) λus s1 hPl=> ?_) hs rfl))
 obtain⟨vs,H1,I1,r1,q1⟩:=hPl
 obtain⟨j,e,q1,q2,q⟩:=q1
 subst e
 cases r1 with
 |cons r rr=>
  cases rr
  obtain⟨t,rfl⟩:=r
  exact call_range_1 (AT I1 (by ac_nf) (by ac_nf) q1 q2 (by simpa using q))
noncomputable def MI(wi:TI)(g:TG)(tb:TS):TS:=λD σ H=>wi σ H λJ H1=>∃W:Nat->Nat->St->Hp->Prop,(∃m,W 0 m σ H1)/\∀i m σ H,W i m σ H->
 (J.stop i H/\D.nx σ H)\/(J.go i H/\∃N:St->Hp->Prop,(∀σ' H',N σ' H'->∃m',m'<m/\W (i+1) m' σ' H')/\∀x H',J.yld i H x H'->g x σ H' λσ2 H2=>tb {D with nx:=N,ct:=N,bk:=D.nx} σ2 H2)
noncomputable def nq(fp:List Addr)(h:Heap):List (Addr×Obj):=fp.filterMap λb=>(h.get? b).map λo=>(b,o)
theorem gI{fp:List Addr}{h:Heap}{b:Addr}{o:Obj}(hb:b∈fp)(e:h.get? b=some o):(b,o)∈nq fp h:=List.mem_filterMap.mpr ⟨b,hb,by rw[e];rfl⟩
theorem zh{fp:List Addr}{h:Heap}{p:Addr×Obj}(hp:p∈nq fp h):p.1∈fp/\h.get? p.1=some p.2:=by
 obtain⟨b,hb,e⟩:=List.mem_filterMap.mp hp
 cases q:h.get? b with
 |none=>rw[q]at e;cases e
 |some o=>
  rw[q]at e
  have e':(b,o)=p:=a8 e
  subst e'
  exact⟨hb,q⟩
theorem Inv.pinned{pins:List (Addr×Obj)}{σ:St}{H:Hp}{s:af}{fp:List Addr}(I:Inv X pins σ H s)(hf:∀b∈fp,oA X pins H b)(ho:∀b∈fp,∃o,s.heap.get? b=some o/\∀v,o.data≠ .cell v):Inv X (pins++nq fp s.heap) σ H s:=
 I.pins_of λp hp=>(bj.mp hp).elim (λz=>I.pin p (aT _ z)) λz=>by
  obtain⟨hb,e⟩:=zh z
  obtain⟨f0,f1,f2,_⟩:=hf p.1 hb
  obtain⟨o,e',d⟩:=ho p.1 hb
  rw[e]at e';cases e'
  exact⟨e,f0,f1,f2,d⟩
theorem Inv.unpinned{pins pl:List (Addr×Obj)}{σ:St}{H:Hp}{s:af}(I:Inv X (pins++pl) σ H s):Inv X pins σ H s:=I.pins_of λp hp=>I.pin p (aT _ (List.mem_append_left _ hp))
theorem He{iter:Expr}{body:List Stmt}{wi:TI}{g:TG}{tb:TS}{pos:Pos}(hp:PassesOwn (aN X.prog X.w) X.A X.env X.xe)(hc:X.calm=true)(hi:PI X tg iter wi)(hg:PG X tg g)(hb:PSs X body tb)
  (hs:∀x,dI iter X.env x=pure x:=by intro _;rfl):PS X (.For tg iter body [] pos) (MI wi g tb):=by
 intro pins s σ H D I h
 refine wpAny_For (eB (hi pins s σ H _ I h) λv s1 h1=>eB h1 λitv s2 h2=> ?_) hs
 obtain⟨it,fp,tn,J,H2,e,I2,T,st2,f2,W,⟨m0,w0⟩,turn⟩:=h2
 subst e
 -- what stays true of the iterator's objects through the loop
 have stat:∀{H':Hp},(∀b∈fp,H' b=none)->∀b∈fp,oA X pins H' b:=λhn b hb=>⟨hn b hb,(f2 b hb).2⟩
 refine codeAny_forLoop_any (λn s'=>∃i σ' H',Inv X pins σ' H' s'/\tn i s'.heap/\(∀b∈fp,H' b=none)/\W i n σ' H') ?_ m0 ⟨0,σ,H2,I2,st2,λb hb=>(f2 b hb).1,w0⟩
 rintro n s3 ⟨i,σ3,H3,I3,st3,fr3,w3⟩
 rcases turn i n σ3 H3 w3 with⟨stop,qn⟩|⟨go,N,hN,step⟩
 ·refine fK hp (eB (T.done X rfl rfl rfl hc i pins s3 σ3 H3 X.xe I3 (stat fr3) st3 stop) λr s4 hPl=> ?_)
  obtain⟨hr,I4⟩:=hPl
  subst hr
  exact dL ⟨σ3,H3,I4,qn⟩
 ·refine fK hp (eB (T.item X rfl rfl rfl hc i pins s3 σ3 H3 X.xe I3 (stat fr3) st3 go) λr s4 hPl=> ?_)
  obtain⟨u,hr,h4⟩:=hPl
  subst hr
  refine fK hp (eB h4 λ_ s5 hPl=> ?_)
  obtain⟨x,H5,I5,r5,y5,st5,fr5⟩:=hPl
  have I5':=I5.pinned (stat fr5) (T.obj _ _ st5)
  refine fK hp (eB (hg _ s5 σ3 H5 x u _ I5' r5 (step x H5 y5)) λ_ s6 hPl=> ?_)
  obtain⟨σ6,H6,I6,q6⟩:=hPl
  refine fK hp (eB (hb _ s6 σ6 H6 _ I6 q6) λf s7 q7=> ?_)
  have again:∀{σ7:St} {H7:Hp},Inv X (pins++nq fp s5.heap) σ7 H7 s7->N σ7 H7->∃m,m<n/\∃i σ' H',Inv X pins σ' H' s7/\tn i s7.heap/\(∀b∈fp,H' b=none)/\W i m σ' H':=fun{σ7 H7} I7 n7=>by
   obtain⟨m',hm,w7⟩:=hN σ7 H7 n7
   refine⟨m',hm,i+1,σ7,H7,I7.unpinned,T.keep _ _ _ st5 λb hb o e=>(I7.pin (b,o) (aT _ (aT _ (gI hb e)))).1,λb hb=> ?_,w7⟩
   obtain⟨o,e,d⟩:=T.obj _ _ st5 b hb
   exact(I7.pin (b,o) (aT _ (aT _ (gI hb e)))).2.1
  cases f with
  |next=>obtain⟨σ7,H7,I7,n7⟩:=q7;exact again I7 n7
  |cont=>obtain⟨σ7,H7,I7,n7⟩:=q7;exact again I7 n7
  |brk=>obtain⟨σ7,H7,I7,q7⟩:=q7;exact⟨σ7,H7,I7.unpinned,q7⟩
  |ret v=>obtain⟨x7,σ7,H7,I7,r7,q7⟩:=q7;exact⟨x7,σ7,H7,I7.unpinned,r7,q7⟩
end
noncomputable abbrev R2:=V->V->Hp->VK->Prop
noncomputable def gW(X:Cx)(f:ae->ae->Sem ae)(r:R2):Prop:=
 ∀(pins:List (Addr×Obj)) (s:af) (σ:St) (H:Hp) (x y:V) (v u:ae) (Q:VK),Inv X pins σ H s->RelV x v->RelV y u->r x y H Q->
  wpAny (aN X.prog X.w) X.A (f v u) (EP X pins σ Q) X.xe s
noncomputable def L7(X:Cx)(f:ae->Sem ae)(r:V->Hp->VK->Prop):Prop:=
 ∀(pins:List (Addr×Obj)) (s:af) (σ:St) (H:Hp) (x:V) (v:ae) (Q:VK),Inv X pins σ H s->RelV x v->r x H Q->
  wpAny (aN X.prog X.w) X.A (f v) (EP X pins σ Q) X.xe s
noncomputable def gE(X:Cx)(f:ae)(r:List V->Hp->VK->Prop):Prop:=
 ∀(pins:List (Addr×Obj)) (s:af) (σ:St) (H:Hp) (xs:List V) (us:List ae) (Q:VK),Inv X pins σ H s->Vals xs us->r xs H Q->
  wpAny (aN X.prog X.w) X.A (call f us) (EP X pins σ Q) X.xe s
noncomputable def JX(r:R2)(ta tb:TE):TE:=λσ H Q=>ta σ H λx H1=>tb σ H1 λy H2=>r x y H2 Q
noncomputable def tUn(r:V->Hp->VK->Prop)(ta:TE):TE:=λσ H Q=>ta σ H λx H1=>r x H1 Q
noncomputable def rI(C:Int->Int->Prop)(g:Int->Int->V):R2:=λx y H Q=>∃i j,x= .int i/\y= .int j/\C i j/\Q (g i j) H
noncomputable def FT(g:Int->Int->V):R2:=λx y H Q=>∃i j,x= .int i/\y= .int j/\Q (g i j) H
noncomputable def rU(g:Int->V):V->Hp->VK->Prop:=λx H Q=>∃i,x= .int i/\Q (g i) H
section
variable{X:Cx}{a b:Expr}{ta tb:TE}{pos:Pos}
theorem Jm(ha:PE X a ta)(hb:PE X b tb){pins:List (Addr×Obj)}{s:af}{σ:St}{H:Hp}{R:V->V->Hp->Prop}(I:Inv X pins σ H s)
  (h:ta σ H λx H1=>tb σ H1 λy H2=>R x y H2) {Q:ae->af->Prop} {f:ae->ae->Sem ae}
  (hf:∀v u s2 x y H2,Inv X pins σ H2 s2->RelV x v->RelV y u->R x y H2->wpAny (aN X.prog X.w) X.A (f v u) Q X.xe s2):
  wpAny (aN X.prog X.w) X.A (eval a X.env) (λv s₁=>wpAny (aN X.prog X.w) X.A (eval b X.env) (λu s₂=>wpAny (aN X.prog X.w) X.A (f v u) Q X.xe s₂) X.xe s₁) X.xe s:=by
 refine eB (ha pins s σ H _ I h) λv s1 hPl=> ?_
 obtain⟨x,H1,I1,r1,q1⟩:=hPl
 refine eB (hb pins s1 σ H1 _ I1 q1) λu s2 hPl=> ?_
 obtain⟨y,H2,I2,r2,q2⟩:=hPl
 exact hf v u s2 x y H2 I2 r1 r2 q2
theorem Kr{op:jB}{r:R2}(ho:gW X (cx op) r)(ha:PE X a ta)(hb:PE X b tb):PE X (.BinOp a op b pos) (JX r ta tb):=by
 intro pins s σ H Q I h
 exact wpAny_BinOp (Jm ha hb I h λv u s2 x y H2 I2 rx ry q=>ho pins s2 σ H2 x y v u Q I2 rx ry q)
theorem FY{op:UnaryOp}{r:V->Hp->VK->Prop}(ho:L7 X (unaryOp op) r)(ha:PE X a ta):PE X (.UnaryOp op a pos) (tUn r ta):=by
 intro pins s σ H Q I h
 exact UnaryOp_ (eB (ha pins s σ H _ I h) λv s1 ⟨x,H1,I1,r1,q1⟩=>ho pins s1 σ H1 x v Q I1 r1 q1)
theorem Me{f:ae->ae->Sem ae}{C:Int->Int->Prop}{g:Int->Int->Int}
  (rule:∀(i j:Int) (t u:Tok) (s:af) (Q:ae->af->Prop) (E:ae->af->Prop),C i j->Q (.int (g i j) s.toks) {s with toks:=s.toks+1}->wpAny (aN X.prog X.w) X.A (f (.int i t) (.int j u)) Q E s):
  gW X f (rI C λi j=> .int (g i j)):=by
 intro pins s σ H x y v u Q I rx ry h
 obtain⟨i,j,rfl,rfl,hc,q⟩:=h
 obtain⟨t,rfl⟩:=rx
 obtain⟨t',rfl⟩:=ry
 exact rule i j t t' s _ _ hc ⟨.int (g i j),H,I.tok _,⟨_,rfl⟩,q⟩
theorem Kx{f:ae->ae->Sem ae}{g:Int->Int->Int}
  (rule:∀(i j:Int) (t u:Tok) (s:af) (Q:ae->af->Prop) (E:ae->af->Prop),Q (.int (g i j) s.toks) {s with toks:=s.toks+1}->wpAny (aN X.prog X.w) X.A (f (.int i t) (.int j u)) Q E s):
  gW X f (FT λi j=> .int (g i j)):=by
 intro pins s σ H x y v u Q I rx ry h
 obtain⟨i,j,rfl,rfl,q⟩:=h
 obtain⟨t,rfl⟩:=rx
 obtain⟨t',rfl⟩:=ry
 exact rule i j t t' s _ _ ⟨.int (g i j),H,I.tok _,⟨_,rfl⟩,q⟩
theorem HE{f:ae->ae->Sem ae}{g:Int->Int->Bool}
  (rule:∀(i j:Int) (t u:Tok) (s:af) (Q:ae->af->Prop) (E:ae->af->Prop),Q (.bool (g i j)) s->wpAny (aN X.prog X.w) X.A (f (.int i t) (.int j u)) Q E s):
  gW X f (FT λi j=> .bl (g i j)):=by
 intro pins s σ H x y v u Q I rx ry h
 obtain⟨i,j,rfl,rfl,q⟩:=h
 obtain⟨t,rfl⟩:=rx
 obtain⟨t',rfl⟩:=ry
 exact rule i j t t' s _ _ ⟨.bl (g i j),H,I,rfl,q⟩
noncomputable def Jx(i j:Int):Prop:=0<=j/\j<=1000000/\i.natAbs<2^64
noncomputable def CMul(i j:Int):Prop:=(-(2^64)<i/\i<2^64)\/(-(2^64)<j/\j<2^64)
theorem CMul.ok{i j:Int}(h:CMul i j):IntMulOk i j:=by
 rcases h with⟨h1,h2⟩|⟨h1,h2⟩
 ·exact .of_left (intBits_le_64 h1 h2)
 ·exact .of_right (intBits_le_64 h1 h2)
theorem HD:gW X (cx .Add) (FT λi j=> .int (i+j)):=Kx λ_ _ _ _ _ _ _ q=>add_int q
theorem Hw:gW X (cx .Sub) (FT λi j=> .int (i-j)):=Kx λ_ _ _ _ _ _ _ q=>sub_int q
theorem Hz:gW X (cx .Mult) (rI CMul λi j=> .int (i*j)):=Me λ_ _ _ _ _ _ _ hc q=>mul_int q hc.ok
theorem HA:gW X (cx .Mod) (rI (λ_ j=>0<j) λi j=> .int (i%j)):=Me λi j _ _ _ _ _ hc q=>by
 have h1:(0:Int)<j:=hc
 exact mod_int' (by ac_nf) (by rw[Int.fmod_eq_emod_of_nonneg i (by ac_nf)];exact q)
theorem Hy:gW X (cx .Pow) (rI Jx λi j=> .int (i^j.toNat)):=Me λ_ _ _ _ _ _ _ hc q=>pow_int_small hc.1 hc.2.1 hc.2.2 q
theorem unI{f:ae->Sem ae}{g:Int->Int}
  (rule:∀(i:Int) (t:Tok) (s:af) (Q:ae->af->Prop) (E:ae->af->Prop),Q (.int (g i) s.toks) {s with toks:=s.toks+1}->wpAny (aN X.prog X.w) X.A (f (.int i t)) Q E s):
  L7 X f (rU λi=> .int (g i)):=by
 intro pins s σ H x v Q I rx h
 obtain⟨i,rfl,q⟩:=h
 obtain⟨t,rfl⟩:=rx
 exact rule i t s _ _ ⟨.int (g i),H,I.tok _,⟨_,rfl⟩,q⟩
theorem Ai:L7 X (unaryOp .USub) (rU λi=> .int (-i)):=unI λ_ _ _ _ _ q=>neg_int q
end
section
variable{X:Cx}{a b c:Expr}{ta tb:TE}{pos:Pos}
theorem wH{pins:List (Addr×Obj)}{σ:St}{H:Hp}{s:af}{Q:VK}{k k':Bool}(I:Inv X pins σ H s)(q:Q (.bl k) H)(e:k=k'):EP X pins σ Q (.bool k') s:=by
 subst e
 exact⟨.bl k,H,I,rfl,q⟩
theorem Ku:gW X (cr .Lt) (FT λi j=> .bl (decide (i<j))):=HE λ_ _ _ _ _ _ _ q=>lt_int q
theorem Kv:gW X (cr .Gt) (FT λi j=> .bl (decide (j<i))):=HE λ_ _ _ _ _ _ _ q=>gt_int q
theorem Kw:gW X (cr .GtE) (FT λi j=> .bl (decide (j<=i))):=HE λ_ _ _ _ _ _ _ q=>ge_int q
theorem y4:gW X (cr .Lt) (λx y H Q=>∃i j,x= .str i/\y= .str j/\Q (.bl (decide (i.cps.toList<j.cps.toList))) H):=by
 intro pins s σ H x y v u Q I rx ry h
 obtain⟨i,j,rfl,rfl,q⟩:=h
 obtain⟨t,rfl⟩:=rx
 obtain⟨t',rfl⟩:=ry
 exact lt_str (wH I q rfl)
theorem y6:gW X (cr .In) (λx y H Q=>∃i j,x= .str i/\y= .str j/\Q (.bl (!(fV j i 0 j.length 1).isEmpty)) H):=by
 intro pins s σ H x y v u Q I rx ry h
 obtain⟨i,j,rfl,rfl,q⟩:=h
 obtain⟨t,rfl⟩:=rx
 obtain⟨t',rfl⟩:=ry
 exact in_str (wH I q rfl)
theorem HB:gW X (cr .Is) (λx y H Q=>y= .non/\Q (.bl (decide (x= .non))) H):=by
 intro pins s σ H x y v u Q I rx ry h
 obtain⟨rfl,q⟩:=h
 cases ry
 refine is_none_gen (wH I q ?_)
 cases x<;>first
  |(cases rx;rfl)
  |(obtain⟨t,rfl⟩:=rx;rfl)
theorem jV(b:Expr){op:CmpOp}(h:op≠ .In:=by decide)(h2:op≠ .NotIn:=by decide):eW op b=false:=by
 have e1:(op==CmpOp.In)=false:=by cases op<;>first|rfl|exact absurd rfl h
 have e2:(op==CmpOp.NotIn)=false:=by cases op<;>first|rfl|exact absurd rfl h2
 cases b<;>simp[eW,e1,e2]
theorem Eg{op:CmpOp}{r:R2}(ho:gW X (cr op) r)(ha:PE X a ta)(hb:PE X b tb)(hm:eW op b=false):PE X (.Compare a [op] [b] pos) (JX r ta tb):=by
 intro pins s σ H Q I h
 exact wpAny_Compare1 (Jm ha hb I h λv u s2 x y H2 I2 rx ry q=>ho pins s2 σ H2 x y v u Q I2 rx ry q) hm
noncomputable def FE(t:TE):TT:=λσ H Q=>t σ H λx H'=>∃k,x= .bl k/\Q k H'
theorem DN{op:CmpOp}{r:R2}(ho:gW X (cr op) r)(ha:PE X a ta)(hb:PE X b tb)(hm:eW op b=false):PT X (.Compare a [op] [b] pos) (FE (JX r ta tb)):=by
 intro pins s σ H Q I h
 refine wpAny_isTrue_Compare1 (eB (ha pins s σ H _ I h) λv s1 ⟨x,H1,I1,r1,q1⟩=>eB (hb pins s1 σ H1 _ I1 q1) λu s2 ⟨y,H2,I2,r2,q2⟩=>
  eB (ho pins s2 σ H2 x y v u _ I2 r1 r2 q2) λc s3 ⟨z,H3,I3,r3,k,e,q3⟩=> ?_) hm
 subst e
 cases r3
 exact ke ⟨H3,I3,q3⟩
theorem lu:(aJ:Nat)<2^63:=by rw[fC];decide
theorem wc:gW X (cx .Add) (λx y H Q=>∃i j,x= .str i/\y= .str j/\i.length+j.length<=aJ/\Q (.str (i++j)) H):=by
 intro pins s σ H x y v u Q I rx ry h
 obtain⟨i,j,rfl,rfl,hz,q⟩:=h
 obtain⟨t,rfl⟩:=rx
 obtain⟨t',rfl⟩:=ry
 exact add_str (λt' tk=>⟨.str (i++j),H,I.tok _,⟨_,rfl⟩,q⟩) hz
theorem tI{x:V}{us:List ae}(r:Vals [x] us):∃u,us=[u]/\RelV x u:=by
 cases r with
 |cons r1 r2=>cases r2;exact⟨_,rfl,r1⟩
theorem JN{x y:V}{us:List ae}(r:Vals [x,y] us):∃u w',us=[u,w']/\RelV x u/\RelV y w':=by
 cases r with
 |cons r1 r2=>
  cases r2 with
  |cons r3 r4=>cases r4;exact⟨_,_,rfl,r1,r3⟩
theorem zP(hc:X.calm=true):gE X (.builtin "max") (λxs H Q=>∃i j,xs=[.int i,.int j]/\Q (.int (if j>i then j else i)) H):=by
 intro pins s σ H xs us Q I r h
 obtain⟨i,j,rfl,q⟩:=h
 obtain⟨u,w',rfl,⟨t,rfl⟩,⟨t',rfl⟩⟩:=JN r
 refine max_two_ints (I.ok.hd hc) λh' tk k=>⟨_,H,I.kept k,?_,q⟩
 by_cases hj:j>i
 ·rw[if_pos hj,if_pos hj];exact⟨_,rfl⟩
 ·rw[if_neg hj,if_neg hj];exact⟨_,rfl⟩
theorem zQ:gE X (.type "int") (λxs H Q=>(∃i,xs=[.int i]/\Q (.int i) H)\/∃k,xs=[.bl k]/\Q (.int (if k then 1 else 0)) H):=by
 intro pins s σ H xs us Q I r h
 rcases h with⟨i,rfl,q⟩|⟨k,rfl,q⟩
 ·obtain⟨u,rfl,t,rfl⟩:=tI r
  exact call_int_int ⟨.int i,H,I,⟨_,rfl⟩,q⟩
 ·obtain⟨u,rfl,r1⟩:=tI r
  cases r1
  exact call_int_bool ⟨.int (if k then 1 else 0),H,I.tok _,⟨_,rfl⟩,q⟩
end
structure ObjM(h:Heap)(x dx C:Addr)(mA:Str->Option ae):Prop where
 obj:h.get? x=some (PySem.W.instObj C dx)
 ns:h.Ns1 dx mA
 ne:dx≠x
theorem zo{h:Heap}{dx:Addr}{mA:Str->Option ae}(n:h.Ns1 dx mA):∃od,h.get? dx=some od/\∀name,PySem.W.lookIn name od=some (mA name):=by
 obtain⟨o,es,ep,ho,hd,hk,_,hm⟩:=n
 refine⟨o,ho,λname=> ?_⟩
 have e:=hm name
 unfold nsFind findBy at e
 rw[<-Array.find?_toList]at e
 unfold PySem.W.lookIn
 rw[hd]
 dsimp only
 split
 ·rename_i y q
  rw[q]at e
  exact congrArg some e
 ·rename_i q
  rw[q]at e
  have a:es.toList.any (·.refKey)=false:=by
   rw[List.any_eq_false]
   intro y hy
   obtain⟨z,t,hkey⟩:=hk y (Array.mem_toList_iff.mp hy)
   simp[ju.refKey,hkey]
  have a':¬es.toList.any (·.refKey)=true:=by rw[a];exact bi
  rw[if_neg a']
  exact congrArg some e
theorem ObjM.look{h:Heap}{x dx C:Addr}{mA:Str->Option ae}(I:ObjM h x dx C mA):∃od,PySem.W.InstAt h x (PySem.W.instObj C dx) C (some od)/\∀name,PySem.W.lookIn name od=some (mA name):=
 let⟨od,ho,hl⟩:=zo I.ns
 ⟨od,⟨I.obj,rfl,rfl,ho⟩,hl⟩
section
variable{prog:aF}{w:aS}{A:Around}{E:ae->af->Prop}{s:af}{K:PySem.W.Frag}{x dx C f:Addr}{mA:Str->Option ae}{name:Str}{v:ae}
theorem Fb{expr:Bool}{Q:ae->af->Prop}(X:K.In s.heap)(I:ObjM s.heap x dx C mA)(hg:PySem.W.plainGet K C name=true)(hh:PySem.W.hasDictIn K C=true)
  (ha:PySem.W.findIn K (.ref C) name=some none) (hv:mA name=some v) (hv':PySem.W.handedIn v=true) (h:Q v {s with toks:=s.toks+1}):
  wpAny (aN prog w) A (getAttr (.ref x) name expr) Q E s:=by
 obtain⟨od,J,hl⟩:=I.look
 exact PySem.W.get_value X J (PySem.W.plainGet_of hg).1 (PySem.W.findObj_own hh ha rfl (by rw[hl,hv])) hv' h
theorem Cf{pl:Sem Bool}{Q:ae×List ae->af->Prop}(X:K.In s.heap)(I:ObjM s.heap x dx C mA)(hg:PySem.W.plainGet K C name=true)
  (hf:PySem.W.findIn K (.ref C) name=some (some (.ref f))) (ht:PySem.W.isFn K (.ref f)=true) (hv:mA name=none) (h:Q (.ref f,[.ref x]) s):
  wpAny (aN prog w) A (getMethod (.ref x) name pl) Q E s:=by
 obtain⟨od,J,hl⟩:=I.look
 exact PySem.W.method_fn X J (PySem.W.plainGet_of hg).1 (PySem.W.plainGet_of hg).2 hf (beq_iff_eq.mp ht) (by show(PySem.W.lookIn name od).map (·.isSome)=some false;rw[hl,hv];rfl) h
theorem DB{ns:List Str}{Q:Unit->af->Prop}(X:K.In s.heap)(I:ObjM s.heap x dx C mA)
  (hs:PySem.W.findIn K (.ref C) "__setattr__" =some (some (.builtin "object.__setattr__"))) (hp:PySem.W.plainOver K C=true) (ht:PySem.W.takerIn K C name=some none) (hh:PySem.W.hasDictIn K C=true)
  (hw:PySem.Within mA ns) (hsz:ns.length<=aJ)
  (h:∀h',ObjM h' x dx C (λy=>if y=name then some v else mA y)->dJ dx s.heap h'->Q () {s with heap:=h',toks:=s.toks+2}):
  wpAny (aN prog w) A (setAttr (.ref x) name v) Q E s:=by
 obtain⟨od,J,hl⟩:=I.look
 refine PySem.W.set_plain X J hs (PySem.W.osa_open (s:={s with toks:=s.toks+1}) (r:=none) X J hp ht λb=> ?_)
 obtain⟨cd,hc,hd'⟩:=PySem.W.any_some hh
 have hx:s.heap.get? x=some ⟨.ref C,some dx,.plain,#[]⟩:=I.obj
 refine aa (am (aa (aa (wpAny_loadPart hx (aa (PySem.W.Looks.here (s:={s with toks:=s.toks+1}) (PySem.W.looks_clsIn X hc) ?_))))))
 rw[hd']
 refine am (a:=some dx) (aa (am (aa ?_)))
 refine wpAny_nsSet1 (s:={s with toks:=s.toks+1}) I.ns λh' hn2 hs2=> ?_
 obtain⟨oD,esD,epD,hoD,hdD,hcD⟩:=hn2.count (PySem.Within.cons name v hw)
 refine aa (wpAny_lookBehind hoD (by rw[hdD];exact pastItsLine_dict (aZ hcD (by rw[aX];ac_nf))) ?_)
 exact am (h _ ⟨(hs2.2 _ (aG I.ne)).trans I.obj,hn2,I.ne⟩ hs2)
theorem BJ{R:Result->af->Prop}{vs:List ae}{kw:List (Str×ae)}(X:K.In s.heap)(hm:PySem.W.makesIn K C=true)
  (hi:PySem.W.findIn K (.ref C) "__init__" =some (some (.ref f))) (hf:PySem.W.typeIn K (.ref f)=some (.type "function"))
  (h:codeAny (aN prog w) (A.under (.builtin "type.__call__" ⟨.ref C::vs,kw⟩)) (.call (.ref f) ⟨.ref (s.heap.objs.size+1)::vs,kw⟩) (PySem.W.InitBack (s.heap.objs.size+1) R)
   {s with heap:=(s.heap.push PySem.W.emptyDict).push (PySem.W.instObj C s.heap.objs.size)}):
  codeAny (aN prog w) A (.call (.ref C) ⟨vs,kw⟩) R s:=by
 obtain⟨hh,g,d,t,os⟩:=s
 exact PySem.W.make_core (PySem.W.makes_of X hm) (PySem.W.looks_findIn X hi) (λself=>PySem.W.bind_fn X self hf) (.inl rfl) h
end
noncomputable def iA(f:Str)(v:V):List (Str×V)->List (Str×V)
 |[]=>[(f,v)]
 |(g,x)::r=>if g=f then(g,v)::r else(g,x)::iA f v r
theorem nW(f g:Str)(v:V):∀fs:List (Str×V),(iA f v fs).lookup g=if g=f then some v else fs.lookup g
 |[]=>by
  show il g [(f,v)]=_
  by_cases h:g=f
  ·have hb:(g==f)=true:=beq_iff_eq.mpr h
   simp only[il,hb,if_pos h]
  ·have hb:(g==f)=false:=beq_eq_false_iff_ne.mpr h
   simp only[il,hb,if_neg h]
 |(k,x)::r=>by
  have ih:=nW f g v r
  rw[show iA f v ((k,x)::r)=(if k=f then(k,v)::r else(k,x)::iA f v r)from rfl]
  by_cases hk:k=f
  ·rw[if_pos hk]
   by_cases h:g=k
   ·have hb:(g==k)=true:=beq_iff_eq.mpr h
    simp only[il,hb,if_pos (h.trans hk)]
   ·have hb:(g==k)=false:=beq_eq_false_iff_ne.mpr h
    simp only[il,hb,if_neg (λe:g=f=>h (e.trans hk.symm))]
  ·rw[if_neg hk]
   by_cases h:g=k
   ·have hb:(g==k)=true:=beq_iff_eq.mpr h
    simp only[il,hb,if_neg (λe:g=f=>hk (h.symm.trans e))]
   ·have hb:(g==k)=false:=beq_eq_false_iff_ne.mpr h
    simp only[il,hb]
    exact ih
theorem nA(f:Str)(v:V):∀fs:List (Str×V),f∈(iA f v fs).map (·.1)/\∀g,g∈fs.map (·.1)->g∈(iA f v fs).map (·.1)
 |[]=>⟨by simp[iA],λg h=>by simp at h⟩
 |(k,x)::r=>by
  obtain⟨i1,i2⟩:=nA f v r
  rw[show iA f v ((k,x)::r)=(if k=f then(k,v)::r else(k,x)::iA f v r)from rfl]
  by_cases hk:k=f
  ·rw[if_pos hk]
   subst hk
   exact⟨by simp,λg h=>by simpa using h⟩
  ·rw[if_neg hk]
   refine⟨?_,λg h=> ?_⟩
   ·rw[aD]
    exact cI _ i1
   ·rw[aD]at h⊢
    rcases aA.mp h with e|e
    ·exact aA.mpr (.inl e)
    ·exact cI _ (i2 g e)
theorem nX(f:Str)(v:V):∀fs:List (Str×V),(iA f v fs).length<=fs.length+1
 |[]=>by simp[iA]
 |(k,x)::r=>by
  have ih:=nX f v r
  rw[show iA f v ((k,x)::r)=(if k=f then(k,v)::r else(k,x)::iA f v r)from rfl]
  by_cases hk:k=f
  ·rw[if_pos hk,aX,aX];ac_nf
  ·rw[if_neg hk,aX,aX];ac_nf
theorem RelO.some_of{v:V}{o:Option ae}(r:RelO (some v) o):∃u,o=some u/\RelV v u:=by
 cases o with
 |none=>exact(show False from r).elim
 |some u=>exact⟨u,rfl,r⟩
theorem RelO.none_of{o:Option ae}(r:RelO none o):o=none:=by
 cases o with
 |none=>rfl
 |some u=>exact(show False from r).elim
theorem zG{v:V}{u:ae}(r:RelV v u):PySem.W.handedIn u=true:=by
 cases v with
 |non=>cases (show u=bc from r);rfl
 |bl b=>cases (show u=c7 b from r);rfl
 |int i=>obtain⟨t,e⟩:=(show∃t,u=dz i t from r);cases e;rfl
 |str x=>obtain⟨t,e⟩:=(show∃t,u=iI x t from r);cases e;rfl
 |byt b=>obtain⟨t,e⟩:=(show∃t,u=ae.bytes b t from r);cases e;rfl
 |flt b=>obtain⟨t,e⟩:=(show∃t,u=ae.float b t from r);cases e;rfl
 |ref a=>cases (show u=au a from r);rfl
 |ty n=>cases (show u=br n from r);rfl
section
variable{P:aF}{w:aS}{H:Hp}{h:Heap}{a C dx:Addr}{fs:List (Str×V)}
theorem oV(hok:HOk P w H h)(e:H a=some (.ins C dx fs)):∃mA,ObjM h a dx C mA/\(∀f,RelO (fs.lookup f) (mA f))/\PySem.Within mA (fs.map (·.1))/\fs.length<=1000/\H dx=some (.own a):=by
 obtain⟨d,z,ne,ob,mA,n,r,q⟩:=(show ObjOk P w H h a (.ins C dx fs)from hok a _ e)
 exact⟨mA,⟨ob,n,ne⟩,r,q,z,d⟩
end
structure Cls(K:PySem.W.Frag)(C:Addr):Prop where
 pg:PySem.W.plainGet K C Str.empty=true
 hd:PySem.W.hasDictIn K C=true
 po:PySem.W.plainOver K C=true
 sa:PySem.W.findIn K (.ref C) "__setattr__" =some (some (.builtin "object.__setattr__"))
theorem Cls.get{K:PySem.W.Frag}{C:Addr}(c:Cls K C)(f:Str):PySem.W.plainGet K C f=true:=c.pg
noncomputable def NoAttr(K:PySem.W.Frag)(C:Addr)(f:Str):Prop:=PySem.W.findIn K (.ref C) f=some none
theorem NoAttr.taker{K:PySem.W.Frag}{C:Addr}{f:Str}(n:NoAttr K C f):PySem.W.takerIn K C f=some none:=by
 unfold PySem.W.takerIn
 rw[show PySem.W.findIn K (.ref C) f=some none from n]
 rfl
structure ir(K:PySem.W.Frag)(C:Addr)(m:Str)(f:Addr):Prop where
 at_:PySem.W.findIn K (.ref C) m=some (some (.ref f))
 fn:PySem.W.isFn K (.ref f)=true
 kp:PySem.W.keepIn K (.ref f)=true
section
variable{X:Cx}{pins:List (Addr×Obj)}{σ:St}{H:Hp}{s:af}{a C dx:Addr}{fs:List (Str×V)}{f:Str}{v:V}{A:Around}{E:ae->af->Prop}
theorem pY{b:Bool}{Q:ae->af->Prop}(I:Inv X pins σ H s)(e:H a=some (.ins C dx fs))(c:Cls X.K C)(n:NoAttr X.K C f)(l:fs.lookup f=some v)
  (h:∀u s',Inv X pins σ H s'->RelV v u->Q u s'):wpAny (aN X.prog X.w) A (getAttr (.ref a) f b) Q E s:=by
 obtain⟨mA,O,r,_,_,_⟩:=oV I.hok e
 obtain⟨u,hu,ru⟩:=RelO.some_of (v:=v) (o:=mA f) (by rw[<-l];exact r f)
 exact Fb I.kIn O (c.get f) c.hd n hu (zG ru) (h u _ (I.tok _) ru)
theorem pW{m:Str}{g:Addr}{pl:Sem Bool}{Q:ae×List ae->af->Prop}(I:Inv X pins σ H s)(e:H a=some (.ins C dx fs))(c:Cls X.K C)(k:ir X.K C m g)(l:fs.lookup m=none)
  (h:Q (.ref g,[.ref a]) s):wpAny (aN X.prog X.w) A (getMethod (.ref a) m pl) Q E s:=by
 obtain⟨mA,O,r,_,_,_⟩:=oV I.hok e
 have hn:mA m=none:=RelO.none_of (by rw[<-l];exact r m)
 exact Cf I.kIn O (c.get m) k.at_ k.fn hn h
theorem pC{y:V}{u:ae}{Q:Unit->af->Prop}(I:Inv X pins σ H s)(e:H a=some (.ins C dx fs))(c:Cls X.K C)(n:NoAttr X.K C f)(hl:fs.length<1000)(ry:RelV y u)
  (h:∀s',Inv X pins σ (upd H a (.ins C dx (iA f y fs))) s'->Q () s'):wpAny (aN X.prog X.w) A (setAttr (.ref a) f u) Q E s:=by
 obtain⟨mA,O,r,wi,_,ho⟩:=oV I.hok e
 have hz:(fs.map (·.1)).length<=aJ:=by rw[aB,fC];ac_nf
 refine DB I.kIn O c.sa c.po n.taker c.hd wi hz λh' O' sb=>h _ ?_
 have hd:∃o,h'.get? dx=some o:=let⟨o,_,_,e',_⟩:=O'.ns;⟨o,e'⟩
 refine I.write (x:=a) (e:=dx) (by rw[e];exact ck) (.inr ho) (λb q hb z=>(sb.2 b hb).trans z) hd ?_
 refine⟨by rw[bo O.ne];exact ho,?_,O.ne,O'.obj,_,O'.ns,λg=> ?_,λg hg=> ?_⟩
 ·have:=nX f y fs;ac_nf
 ·show RelO ((iA f y fs).lookup g) (if g=f then some u else mA g)
  rw[nW]
  by_cases q:g=f
  ·rw[if_pos q,if_pos q];exact ry
  ·rw[if_neg q,if_neg q];exact r g
 ·by_cases q:g=f
  ·rw[q];exact(nA f y fs).1
  ·refine(nA f y fs).2 g (wi g λz=>hg ?_)
   show(if g=f then some u else mA g)=none
   rw[if_neg q];exact z
theorem Inv.made(I:Inv X pins σ H s):Inv X pins σ (upd (upd H s.heap.objs.size (.own (s.heap.objs.size+1))) (s.heap.objs.size+1) (.ins C s.heap.objs.size []))
  {s with heap:=(s.heap.push PySem.W.emptyDict).push (PySem.W.instObj C s.heap.objs.size)}:=by
 have e1:(s.heap.push PySem.W.emptyDict).get? s.heap.objs.size=some PySem.W.emptyDict:=aH s.heap rfl
 have e2:((s.heap.push PySem.W.emptyDict).push (PySem.W.instObj C s.heap.objs.size)).get? (s.heap.objs.size+1)=some (PySem.W.instObj C s.heap.objs.size):=by
  have:=aH (s.heap.push PySem.W.emptyDict) (o:=PySem.W.instObj C s.heap.objs.size) rfl
  rwa [cQ]at this
 have e3:(s.heap.push PySem.W.emptyDict).Ns s.heap.objs.size (λ_=>none):=⟨PySem.W.emptyDict,#[],_,e1,rfl,(λe he=>absurd he (by simp)),λ_=>rfl⟩
 have I1:=I.laid (a:=s.heap.objs.size) (o:= .own (s.heap.objs.size+1)) (h':=s.heap.push PySem.W.emptyDict) (t':=s.toks) (λb u q=>ai _ q) (aq _) ⟨_,e1⟩
 refine I1.laid (a:=s.heap.objs.size+1) (o:= .ins C s.heap.objs.size []) (t':=s.toks) (λb u q=>ai _ q) (Nat.le_of_eq (cQ _ _)) ?_
 have ne:s.heap.objs.size≠s.heap.objs.size+1:=aQ (fZ _)
 refine⟨by rw[bo ne,cb],cg _,ne,e2,λ_=>none,(Heap.Ns1.of_empty e3).at λo q=>ai _ q,λ_=>ck,λy hy=>absurd rfl hy⟩
theorem Fx{prog:aF}{w:aS}{env:Env}{e:Expr}{f:Str}{pos:Pos}{s:af}{Q:ae->af->Prop}(hb:bL e f env (eval e env)=eval e env)
  (h:wpAny (aN prog w) A (eval e env) (λo s₁=>wpAny (aN prog w) A (getAttr o f true) Q E s₁) E s):wpAny (aN prog w) A (eval (.Attribute e f pos) env) Q E s:=
 Attribute_any_ h (by rw[arm_eval_Attribute,hb])
end
noncomputable def MJ(K:PySem.W.Frag)(ta:TE)(f:Str):TE:=λσ H Q=>ta σ H λx H1=>∃a C dx fs v,x= .ref a/\H1 a=some (.ins C dx fs)/\Cls K C/\NoAttr K C f/\fs.lookup f=some v/\Q v H1
noncomputable def M0(K:PySem.W.Frag)(ta tv:TE)(f:Str):TS:=λD σ H=>tv σ H λy H1=>ta σ H1 λx H2=>∃a C dx fs,x= .ref a/\H2 a=some (.ins C dx fs)/\Cls K C/\NoAttr K C f/\fs.length<1000/\
 D.nx σ (upd H2 a (.ins C dx (iA f y fs)))
noncomputable def Jv(X:Cx)(op:jB)(rd:V->V->Hp->VK->Prop):Prop:=
 ∀(pins:List (Addr×Obj)) (s:af) (σ:St) (H:Hp) (x y:V) (u v:ae) (Q:VK),Inv X pins σ H s->RelV x u->RelV y v->rd x y H Q->wpAny (aN X.prog X.w) X.A (inplaceOp op u v) (EP X pins σ Q) X.xe s
noncomputable def DF(K:PySem.W.Frag)(ta tv:TE)(rd:V->V->Hp->VK->Prop)(f:Str):TS:=λD σ H=>ta σ H λx H1=>∃a C dx fs v,x= .ref a/\H1 a=some (.ins C dx fs)/\Cls K C/\NoAttr K C f/\fs.lookup f=some v/\
 tv σ H1 λy H2=>rd v y H2 λz H3=>∃dx' fs',H3 a=some (.ins C dx' fs')/\fs'.length<1000/\D.nx σ (upd H3 a (.ins C dx' (iA f z fs')))
section
variable{X:Cx}{o e value:Expr}{f:Str}{pos pos' tpos:Pos}{ta tv:TE}
theorem Ht(he:PE X e ta)(hb:bL e f X.env (eval e X.env)=eval e X.env):PE X (.Attribute e f pos) (MJ X.K ta f):=by
 intro pins s σ H Q I h
 refine Fx hb (eB (he pins s σ H _ I h) λu s1 hPl=> ?_)
 obtain⟨x,H1,I1,rx,a,C,dx,fs,v,ex,ea,c,n,l,q⟩:=hPl
 subst ex
 obtain rfl:u=au a:=rx
 exact pY I1 ea c n l λu' s2 I2 ru=>⟨v,H1,I2,ru,q⟩
theorem Hf(ha:PE X o ta)(hv:PE X value tv)(hs:eN value (some (.Attribute o f pos')) pos.line X.env=pure false):PS X (.Assign [.Attribute o f pos'] value pos) (M0 X.K ta tv f):=by
 intro pins s σ H D I h
 refine plainObj_wpAny_Assign_Attribute (eB (hv pins s σ H _ I h) λu s1 ⟨y,H1,I1,ry,q⟩=>eB (ha pins s1 σ H1 _ I1 q) λov s2 ⟨x,H2,I2,rx,a,C,dx,fs,ex,ea,c,n,l,q2⟩=> ?_) hs
 subst ex
 obtain rfl:ov=au a:=rx
 exact pC I2 ea c n l ry λs3 I3=>⟨σ,_,I3,q2⟩
theorem qZ{op:jB}{rd:V->V->Hp->VK->Prop}(ha:PE X o ta)(hv:PE X value tv)(hop:Jv X op rd):PS X (.AugAssign (.Attribute o f tpos) op value pos) (DF X.K ta tv rd f):=by
 intro pins s σ H D I h
 refine wpAny_AugAssign_AttributeAny (eB (ha pins s σ H _ I h) λov s1 hPl=> ?_)
 obtain⟨x,H1,I1,rx,a,C,dx,fs,v,ex,ea,c,n,l,q⟩:=hPl
 subst ex
 obtain rfl:ov=au a:=rx
 refine pY I1 ea c n l λu s2 I2 ru=>eB (hv pins s2 σ H1 _ I2 q) λw3 s3 ⟨y,H2,I3,ry,q3⟩=>eB (hop pins s3 σ H2 v y u w3 _ I3 ru ry q3) λw4 s4 ⟨z,H3,I4,rz,dx',fs',ea',l',q4⟩=> ?_
 exact pC I4 ea' c n l' rz λs5 I5=>⟨σ,_,I5,q4⟩
noncomputable def Nj:V->V->Hp->VK->Prop:=λx y H Q=>∃i j,x= .int i/\y= .int j/\Q (.int (i+j)) H
noncomputable def M4:V->V->Hp->VK->Prop:=λx y H Q=>∃i j,x= .int i/\y= .int j/\Q (.int (i-j)) H
theorem IW:Jv X .Add Nj:=by
 rintro pins s σ H x y u v Q I rx ry ⟨i,j,rfl,rfl,q⟩
 obtain⟨t,rfl⟩:=(show∃t,u=dz i t from rx)
 obtain⟨t',rfl⟩:=(show∃t',v=dz j t' from ry)
 exact PyProof.Rows.iadd_int ⟨.int (i+j),H,I.tok _,⟨_,rfl⟩,q⟩
theorem IV:Jv X .Sub M4:=by
 rintro pins s σ H x y u v Q I rx ry ⟨i,j,rfl,rfl,q⟩
 obtain⟨t,rfl⟩:=(show∃t,u=dz i t from rx)
 obtain⟨t',rfl⟩:=(show∃t',v=dz j t' from ry)
 exact PyProof.Rows.isub_int ⟨.int (i-j),H,I.tok _,⟨_,rfl⟩,q⟩
end
section
variable{X:Cx}{pins:List (Addr×Obj)}{σ:St}{H:Hp}{s:af}{A:Around}{E:ae->af->Prop}{Q:ae->af->Prop}{c:ae}{b:Bool}
inductive oz (K:PySem.W.Frag) (H:Hp):V->ae->Prop where
 |non:oz K H .non (.type "NoneType")
 |bl (x:Bool):oz K H (.bl x) (.type "bool")
 |int (i:Int):oz K H (.int i) (.type "int")
 |str (x:Str):oz K H (.str x) (.type "str")
 |flt (x:UInt64):oz K H (.flt x) (.type "float")
 |lst {a:Addr} {xs:List V} (e:H a=some (.lst xs)):oz K H (.ref a) (.type "list")
 |frz {a:Addr} {o:Obj} {xs:List V} (e:H a=some (.frz o (.lst xs))):oz K H (.ref a) (.type "list")
 |tup {a:Addr} {xs:List V} (e:H a=some (.tup xs)):oz K H (.ref a) (.type "tuple")
 |dK {a:Addr} {kvs:List (Key×V)} (e:H a=some (.dK kvs)):oz K H (.ref a) (.type "dict")
 |dT {a:Addr} {kvs:List (List Key×V)} (e:H a=some (.dT kvs)):oz K H (.ref a) (.type "dict")
 |ins {a C dx:Addr} {fs:List (Str×V)} (e:H a=some (.ins C dx fs)) (cl:Cls K C) (ha:PySem.W.findIn K (.ref C) "__class__" =some (some (.builtin "object.__class__")))
   (hn:PySem.W.specialIn K (.builtin "object.__class__") "__get__" =some (some (.builtin "getset_descriptor.__get__"))) (htk:PySem.W.takesIn K (.builtin "object.__class__")=some true)
   (hm:PySem.W.mroIn K C (.type "object")=some true):oz K H (.ref a) (.ref C)
theorem zD{x:V}{u t:ae}(I:Inv X pins σ H s)(rx:RelV x u)(ty:oz X.K H x t)(e:PySem.W.kitOne X.K t c=some b)(h:∀tk,Q (.bool b) {s with toks:=tk}):
  wpAny (aN X.prog X.w) A (call (.builtin "isinstance") [u,c]) Q E s:=by
 cases ty with
 |non=>cases (show u=bc from rx);exact PySem.W.kia_one PySem.W.kitx_none I.kIn ck e (λz=>nomatch z) h
 |bl y=>cases (show u=c7 y from rx);exact PySem.W.kia_one PySem.W.kitx_bool I.kIn ck e (λz=>nomatch z) h
 |int i=>obtain⟨t,q⟩:=(show∃t,u=dz i t from rx);cases q;exact PySem.W.kia_one PySem.W.kitx_int I.kIn ck e (λz=>nomatch z) h
 |str y=>obtain⟨t,q⟩:=(show∃t,u=iI y t from rx);cases q;exact PySem.W.kia_one PySem.W.kitx_str I.kIn ck e (λz=>nomatch z) h
 |flt y=>obtain⟨t,q⟩:=(show∃t,u=ae.float y t from rx);cases q;exact PySem.W.kia_one PySem.W.kitx_float I.kIn ck e (λz=>nomatch z) h
 | @lst a xs ea=>
  cases (show u=au a from rx)
  obtain⟨_,_,n,_,h1⟩:=(show ObjOk X.prog X.w H s.heap a (.lst xs)from I.hok a _ ea)
  exact PySem.W.kia_one PySem.W.kitx_list I.kIn ⟨_,h1,rfl⟩ e (λz=>nomatch z) h
 | @frz a ob xs ea=>
  cases (show u=au a from rx)
  obtain⟨_,_,_,n,_,h1⟩:=(show ObjOk X.prog X.w H s.heap a (.frz ob (.lst xs))from I.hok a _ ea)
  exact PySem.W.kia_one PySem.W.kitx_list I.kIn ⟨_,h1,rfl⟩ e (λz=>nomatch z) h
 | @tup a xs ea=>
  cases (show u=au a from rx)
  obtain⟨_,_,_,p⟩:=(show ObjOk X.prog X.w H s.heap a (.tup xs)from I.hok a _ ea)
  obtain⟨o,h1,h2,_⟩:=p
  exact PySem.W.kia_one PySem.W.kitx_tuple I.kIn ⟨o,h1,h2⟩ e (λz=>nomatch z) h
 | @dK a kvs ea=>
  cases (show u=au a from rx)
  obtain⟨_,_,vs,_,p⟩:=(show ObjOk X.prog X.w H s.heap a (.dK kvs)from I.hok a _ ea)
  obtain⟨o,es,ep,h1,h2,_⟩:=p
  exact PySem.W.kia_one PySem.W.kitx_dict I.kIn ⟨o,h1,h2.1⟩ e (λz=>nomatch z) h
 | @dT a kvs ea=>
  cases (show u=au a from rx)
  obtain⟨_,_,xs,_,o,es,ep,h1,h2,_⟩:=(show ObjOk X.prog X.w H s.heap a (.dT kvs)from I.hok a _ ea)
  exact PySem.W.kia_one PySem.W.kitx_dict I.kIn ⟨o,h1,h2.1⟩ e (λz=>nomatch z) h
 | @ins a C dx fs ea cl ha hn htk hm=>
  cases (show u=au a from rx)
  obtain⟨mA,O,_⟩:=oV I.hok ea
  obtain⟨od,J,_⟩:=O.look
  exact PySem.W.kia_one (PySem.W.kitx_own (cl.get _) cl.hd ha hn htk hm) I.kIn J e (λz=>nomatch z) h
end
structure Room(k:Nat)(A:Around):Prop where
 hd:A.handled=none
 dp:A.depth+3*k+5<recursionLimit
 un:A.units+16*k+200<fS
theorem Room.mono{j k:Nat}{A:Around}(r:Room k A)(h:j<=k):Room j A:=⟨r.hd,by have:=r.dp;ac_nf,by have:=r.un;ac_nf⟩
theorem Room.deeper{k:Nat}{A:Around}(r:Room (k+1) A)(env:Env):Room k (A.deeper env):=
 ⟨r.hd,by have:=r.dp;show A.depth+1+3*k+5<_;ac_nf,by have:=r.un;show A.units+3+16*k+200<_;ac_nf⟩
theorem wq{A:Around}{C:Addr}{us:List ae}{kw:List (Str×ae)}:(A.under (.builtin "type.__call__" ⟨.ref C::us,kw⟩)).depth=A.depth+1:=by
 first|rfl|simp[Around.under,Code.weight,Code.isCreation,Code.isGuard,Code.isCaller,Code.frames,Code.isFrame,guardIds]
theorem wo{A:Around}{C:Addr}{us:List ae}{kw:List (Str×ae)}:(A.under (.builtin "type.__call__" ⟨.ref C::us,kw⟩)).units=A.units+1:=by
 first|rfl|simp[Around.under,Code.cUnits,Code.frames,Code.isFrame]
theorem Room.make{k:Nat}{A:Around}(r:Room (k+1) A)(C:Addr)(us:List ae)(kw:List (Str×ae)):Room k (A.under (.builtin "type.__call__" ⟨.ref C::us,kw⟩)):=
 ⟨r.hd,by have:=r.dp;rw[wq];ac_nf,by have:=r.un;rw[wo];ac_nf⟩
theorem Room.depth{k:Nat}{A:Around}(r:Room k A):A.depth<recursionLimit:=by have:=r.dp;ac_nf
noncomputable def JY:TA:=λ_ H Q=>Q [] H
noncomputable def J9(ta:TE)(tr:TA):TA:=λσ H Q=>ta σ H λx H1=>tr σ H1 λxs H2=>Q (x::xs) H2
section
variable{X:Cx}{e:Expr}{es:List Expr}{te:TE}{t:TA}{pos:Pos}
theorem Hv:PA X [] JY:=λ_ _ _ _ H Q I h=>oB ⟨[],H,I,.nil,h⟩
theorem Ek(ha:PE X e te)(hr:PA X es t)(hs:al (e::es) X.env=(false,eval e X.env)::al es X.env:=by rfl):PA X (e::es) (J9 te t):=by
 intro pos pins s σ H Q I h
 rw[hs]
 show wpAny _ _ (spliced ((false,eval e X.env)::bC pos (al es X.env))) _ _ s
 refine iT (eB (ha pins s σ H _ I h) λu s1 hPl=> ?_)
 obtain⟨x,H1,I1,r1,q1⟩:=hPl
 exact eB (hr pos pins s1 σ H1 _ I1 q1) λus s2 hPl=>by obtain⟨xs,H2,I2,r2,q2⟩:=hPl;exact⟨x::xs,H2,I2,.cons r1 r2,q2⟩
noncomputable def Mu(t:TA):TE:=λσ H Q=>t σ H λxs H1=>xs.length<=aJ/\∀p,H1 p=none->Q (.ref p) (upd H1 p (.tup xs))
noncomputable def MG(t:TA):TE:=λσ H Q=>t σ H λxs H1=>xs.length<=aJ/\∀p,H1 p=none->Q (.ref p) (upd H1 p (.lst xs))
theorem Hn{x1}(h:PA X es t):PE X (.Tuple es x1 pos) (Mu t):=by
 intro pins s σ H Q I hq
 refine wpAny_Tuple_spliced (eB (h pos pins s σ H _ I hq) λus s1 ⟨xs,H1,I1,r,z,q⟩=>⟨by rw[<-r.length];exact z,?_⟩)
 have hf:H1 s1.heap.objs.size=none:=I1.hok.fresh (aq _)
 refine⟨.ref s1.heap.objs.size,upd H1 s1.heap.objs.size (.tup xs),I1.laid (t':=s1.toks) (λb u e=>ai _ e) (aq _) ?_,rfl,q _ hf⟩
 exact⟨z,us,r,⟨_,aH _ rfl,rfl,_,rfl⟩⟩
theorem Hs(h:PA X es t):PE X (.List es pos) (MG t):=by
 intro pins s σ H Q I hq
 refine wpAny_List_spliced (eB (h pos pins s σ H _ I hq) λus s1 ⟨xs,H1,I1,r,z,q⟩=>⟨by rw[<-r.length];exact z,?_⟩)
 have hf:H1 s1.heap.objs.size=none:=I1.hok.fresh (aq _)
 refine⟨.ref s1.heap.objs.size,upd H1 s1.heap.objs.size (.lst xs),I1.laid (t':=s1.toks) (λb u e=>ai _ e) (aq _) ?_,rfl,q _ hf⟩
 exact⟨z,us,0,r,aH _ rfl⟩
end
noncomputable abbrev Sp:=List V->Hp->VK->XK->Prop
noncomputable abbrev zY:=List Env->Hp->af->XK->ae->af->Prop
structure Env0(P:aF)(w:aS)(K:PySem.W.Frag)(mg:Str->Option ae)(base:Heap)(A:Around)(outer:List Env)(s:af)(H:Hp):Prop where
 frames:A.frames=some outer
 mod:Mod K mg base
 bs:∀b o,base.get? b=some o->s.heap.get? b=some o/\H b=none
 bsz:base.objs.size<=s.heap.objs.size
 funs:s.heap.FunFrames base outer
 frf:∀b∈km outer,H b=none
 hok:HOk P w H s.heap
 bare:kB s.gens
noncomputable def CE(outer:List Env)(P:aF)(w:aS)(H:Hp)(s:af)(Q:VK)(u:ae)(s':af):Prop:=
 ∃v H',s'.os=s.os/\kB s'.gens/\Un (km outer) [] H H' s.heap s'.heap/\HOk P w H' s'.heap/\RelV v u/\Q v H'
noncomputable def CR(CX:zY)(outer:List Env)(P:aF)(w:aS)(H:Hp)(s:af)(Q:VK)(E:XK)(r:Result)(s':af):Prop:=
 match r with
 | .ok (.ret u)=>CE outer P w H s Q u s'
 | .ok _=>False
 | .error e=>CX outer H s E e s'
structure FnOk(P:aF)(w:aS)(K:PySem.W.Frag)(mg:Str->Option ae)(base:Heap)(CX:zY)(k:Nat)(f:Addr)(fd:aR)(ps:List Str)(sp:Sp):Prop where
 len:∀vs H Q E,sp vs H Q E->vs.length=ps.length
 run:∀(A:Around) (outer:List Env) (s:af) (H:Hp) (args:Args) (us:List ae) (vs:List V) (Q:VK) (E:XK),Room k A->Env0 P w K mg base A outer s H->BindsTo s fd args (ps.zip us)->Vals vs us->sp vs H Q E->
  codeAny (aN P w) A (.call (.ref f) args) (CR CX outer P w H s Q E) s
theorem FnOk.mono{P:aF}{w:aS}{K:PySem.W.Frag}{mg:Str->Option ae}{base:Heap}{CX:zY}{j k:Nat}{f:Addr}{fd:aR}{ps:List Str}{sp:Sp}(F:FnOk P w K mg base CX j f fd ps sp)(h:j<=k):
  FnOk P w K mg base CX k f fd ps sp:=⟨F.len,λA outer s H args us vs Q E hr=>F.run A outer s H args us vs Q E (hr.mono h)⟩
theorem Env0.make{P:aF}{w:aS}{K:PySem.W.Frag}{mg:Str->Option ae}{base:Heap}{A:Around}{outer:List Env}{s:af}{H:Hp}(e:Env0 P w K mg base A outer s H)(C:Addr)(us:List ae)(kw:List (Str×ae)):
  Env0 P w K mg base (A.under (.builtin "type.__call__" ⟨.ref C::us,kw⟩)) outer s H:=⟨by first|exact e.frames|(simpa [Around.under,Code.envs,Code.isFrame,pushEnvs]using e.frames),e.mod,e.bs,e.bsz,e.funs,e.frf,e.hok,e.bare⟩
section
variable{X:Cx}{pins:List (Addr×Obj)}{σ:St}{H:Hp}{s s':af}
theorem Inv.env0(I:Inv X pins σ H s):Env0 X.prog X.w X.K X.mg X.base X.A X.stack s H:=
 ⟨I.ok.frames,I.ok.mod,I.bs,aZ I.ok.bsz I.sz,I.stack,I.stkFree,I.hok,I.bare⟩
theorem Inv.after{Q:VK}{u:ae}(I:Inv X pins σ H s)(h:CE X.stack X.prog X.w H s Q u s'):EP X pins σ Q u s':=by
 obtain⟨v,H',os,bare,un,hok,r,q⟩:=h
 obtain⟨hh,g,d,t,os'⟩:=s'
 obtain rfl:os'=s.os:=os
 exact⟨v,H',I.call (h':=hh) (g':=g) (d':=d) (t':=t) (ch:=[]) un hok bare (λb z=>absurd z (by simp)),r,q⟩
end
noncomputable def FI(sp:Sp)(dvs:List V)(E:XK)(t:TA):TE:=λσ H Q=>t σ H λvs H1=>sp (vs++dvs) H1 Q E
noncomputable def FH(C:Addr)(m:Str)(sp:Sp)(dvs:List V)(E:XK)(ta:TE)(t:TA):TE:=λσ H Q=>ta σ H λx H1=>∃a dx fs,x= .ref a/\H1 a=some (.ins C dx fs)/\fs.lookup m=none/\
 t σ H1 λvs H2=>sp (x::(vs++dvs)) H2 Q E
noncomputable def JZ(C:Addr)(sp:Sp)(dvs:List V)(E:XK)(t:TA):TE:=λσ H Q=>t σ H λvs H1=>∀x dx,H1 x=none->H1 dx=none->dx≠x->
 sp (.ref x::(vs++dvs)) (upd (upd H1 dx (.own x)) x (.ins C dx [])) (λv H2=>v= .non/\Q (.ref x) H2) E
noncomputable def Binds(K:PySem.W.Frag)(fd:aR)(ps:List Str)(ds:List ae):Prop:=
 ∀(s:af) (us:List ae),K.In s.heap->(us++ds).length=ps.length->BindsTo s fd ⟨us,[]⟩ (ps.zip (us++ds))
theorem Binds.all{K:PySem.W.Frag}{fd:aR}{ps:List Str}(h:∀us:List ae,us.length=ps.length->bindArgs fd ⟨us,[]⟩=pure (ps.zip us)):Binds K fd ps []:=λs us _ hl=>by
 rw[bI]at hl⊢
 exact .of_eq (h us hl)
noncomputable def jq(CX:zY)(X:Cx)(E:XK):Prop:=∀(pins:List (Addr×Obj)) (σ:St) (H:Hp) (s:af) (e:ae) (s':af),Inv X pins σ H s->CX X.stack H s E e s'->X.xe e s'
section
variable{X:Cx}{CX:zY}{k:Nat}{f C:Addr}{fd:aR}{ps:List Str}{sp:Sp}{dvs:List V}{ds:List ae}{E:XK}{x m:Str}{p pos apos:Pos}{e o:Expr}{es:List Expr}{ta:TE}{t:TA}
theorem vX{pins:List (Addr×Obj)}{σ:St}{H:Hp}{s:af}{Q:VK}{us:List ae}{vs:List V}(F:FnOk X.prog X.w X.K X.mg X.base CX k f fd ps sp)(hr:Room k X.A)(hb:Binds X.K fd ps ds)(hd:Vals dvs ds)(hx:jq CX X E)
  (I:Inv X pins σ H s) (r:Vals vs us) (h:sp (vs++dvs) H Q E):wpAny (aN X.prog X.w) X.A (call (.ref f) us) (EP X pins σ Q) X.xe s:=by
 have r2:Vals (vs++dvs) (us++ds):=r.append hd
 have hl:(us++ds).length=ps.length:=by rw[<-r2.length];exact F.len _ _ _ _ h
 refine wpAny_call (mG (F.run X.A X.stack s H ⟨us,[]⟩ (us++ds) (vs++dvs) Q E hr I.env0 (hb s us I.kIn hl) r2 h) λr s' hq=> ?_)
 cases r with
 |error e=>exact hx pins σ H s e s' I hq
 |ok fl=>
  cases fl with
  |ret u=>exact I.after hq
  |next=>exact bG hq
  |brk=>exact bG hq
  |cont=>exact bG hq
theorem yg(F:FnOk X.prog X.w X.K X.mg X.base CX k f fd ps sp)(hr:Room k X.A)(hg:Gl X x)(hm:X.mg x=some (.ref f))(hk:PySem.W.keepIn X.K (.ref f)=true)(hb:Binds X.K fd ps ds)(hd:Vals dvs ds)(hx:jq CX X E)
  (ha:PA X (e::es) t) (hdb:(x==("__debug__" :Str))=false:=by decide) (he:al (e::es) X.env=(false,eval e X.env)::al es X.env:=by rfl) (hpl:(bC pos (al es X.env)).any (·.1)=false:=by rfl):
  PE X (.Call (.Name x p) (e::es) [] pos) (FI sp dvs E t):=by
 intro pins s σ H Q I h
 refine fF (mq I hg hm ?_ hdb)
 refine PySem.W.callWith_K (h₀:=X.base) I.ok.mod.kin hk (eB (ha pos pins s σ H _ I h) λus s1 ⟨vs,H1,I1,r,q⟩=>⟨I1.kIn,?_⟩) he hpl
 exact vX F hr hb hd hx I1 r q
theorem D9{pl:Sem Bool}(he:PE X o ta)(c:Cls X.K C)(hm:ir X.K C m f)(F:FnOk X.prog X.w X.K X.mg X.base CX k f fd ps sp)(hr:Room k X.A)(hb:Binds X.K fd ps ds)(hd:Vals dvs ds)(hx:jq CX X E)(ha:PA X (e::es) t)
  (hst:al (e::es) X.env=(false,eval e X.env)::al es X.env:=by rfl) (hpl:(bC pos (al es X.env)).any (·.1)=false:=by rfl)
  (ht:eval (.Call (.Attribute o m apos) (e::es) [] pos) X.env=(do
   let ov <-eval o X.env
   standAt apos.atName
   let(f,first) <-holding [ov] (getMethod ov m pl)
   callWith pos f first (bC pos (al (e::es) X.env)) (gJ pos (dW [] X.env))):=by rfl):
  PE X (.Call (.Attribute o m apos) (e::es) [] pos) (FH C m sp dvs E ta t):=by
 intro pins s σ H Q I h
 refine PySem.W.methodCall_KW (pl:=pl) (eB (he pins s σ H _ I h) λu s1 hPl=> ?_) ht
 obtain⟨x,H1,I1,rx,a,dx,fs,ex,ea,l,q⟩:=hPl
 subst ex
 obtain rfl:u=au a:=rx
 refine pW I1 ea c hm l ?_
 refine PySem.W.callWith_K (first:=[.ref a]) (h₀:=X.base) I.ok.mod.kin hm.kp (eB (ha pos pins s1 σ H1 _ I1 q) λus s2 ⟨vs,H2,I2,r,q2⟩=>⟨I2.kIn,?_⟩) hst hpl
 exact vX (us:= .ref a::us) (vs:= .ref a::vs) F hr hb hd hx I2 (.cons rfl r) q2
theorem A6{pl:Sem Bool}(he:PE X o ta)(c:Cls X.K C)(hm:ir X.K C m f)(F:FnOk X.prog X.w X.K X.mg X.base CX k f fd ps sp)(hr:Room k X.A)(hb:Binds X.K fd ps ds)(hd:Vals dvs ds)(hx:jq CX X E)
  (ht:eval (.Call (.Attribute o m apos) [] [] pos) X.env=(do
   let ov <-eval o X.env
   standAt apos.atName
   let(f,first) <-holding [ov] (getMethod ov m pl)
   callWith pos f first (bC pos (al [] X.env)) (gJ pos (dW [] X.env))):=by rfl):
  PE X (.Call (.Attribute o m apos) [] [] pos) (FH C m sp dvs E ta JY):=by
 intro pins s σ H Q I h
 refine PySem.W.methodCall_KW (pl:=pl) (eB (he pins s σ H _ I h) λu s1 hPl=> ?_) ht
 obtain⟨x,H1,I1,rx,a,dx,fs,ex,ea,l,q⟩:=hPl
 subst ex
 obtain rfl:u=au a:=rx
 refine pW I1 ea c hm l ?_
 exact PySem.W.callWith_K0 (first:=[.ref a]) I1.kIn hm.kp (vX (us:=[.ref a]) (vs:=[.ref a]) F hr hb hd hx I1 (.cons rfl .nil) q)
structure Mk(K:PySem.W.Frag)(C f:Addr):Prop where
 makes:PySem.W.makesIn K C=true
 init:PySem.W.findIn K (.ref C) "__init__" =some (some (.ref f))
 fn:PySem.W.isFn K (.ref f)=true
 kp:PySem.W.keepIn K (.ref C)=true
theorem AQ{pins:List (Addr×Obj)}{σ:St}{H:Hp}{s:af}{Q:VK}{us:List ae}{vs:List V}(M:Mk X.K C f)(F:FnOk X.prog X.w X.K X.mg X.base CX k f fd ps sp)(hr:Room (k+1) X.A)(hb:Binds X.K fd ps ds)(hd:Vals dvs ds)
  (hx:jq CX X E) (I:Inv X pins σ H s) (r:Vals vs us)
  (h:∀x dx,H x=none->H dx=none->dx≠x->sp (.ref x::(vs++dvs)) (upd (upd H dx (.own x)) x (.ins C dx [])) (λv H2=>v= .non/\Q (.ref x) H2) E):
  wpAny (aN X.prog X.w) X.A (call (.ref C) us) (EP X pins σ Q) X.xe s:=by
 have hq:=h (s.heap.objs.size+1) s.heap.objs.size (I.hok.fresh (fP _)) (I.hok.fresh (aq _)) (aQ (fZ _))
 have I2:=Inv.made (C:=C) I
 have r2:Vals (V.ref (s.heap.objs.size+1)::(vs++dvs)) (au (s.heap.objs.size+1)::(us++ds)):= .cons rfl (r.append hd)
 have hl:(au (s.heap.objs.size+1)::us++ds).length=ps.length:=by
  have e:=r2.length
  rw[F.len _ _ _ _ hq]at e
  exact e.symm
 refine wpAny_call (BJ (f:=f) I.kIn M.makes M.init (beq_iff_eq.mp M.fn) (mG (F.run _ X.stack _ _ ⟨au (s.heap.objs.size+1)::us,[]⟩ (au (s.heap.objs.size+1)::(us++ds)) _ _ E (hr.make C us [])
  (I2.env0.make C us []) (hb _ (au (s.heap.objs.size+1)::us) I2.kIn hl) r2 hq) λr s' hq'=> ?_))
 cases r with
 |error e=>exact hx pins σ _ _ e s' I2 hq'
 |ok fl=>
  cases fl with
  |ret u=>
   obtain⟨v,H',I3,rv,ev,q3⟩:=I2.after hq'
   subst ev
   exact⟨rv,⟨V.ref (s.heap.objs.size+1),H',I3,rfl,q3⟩⟩
  |next=>exact bG hq'
  |brk=>exact bG hq'
  |cont=>exact bG hq'
theorem Ea(M:Mk X.K C f)(F:FnOk X.prog X.w X.K X.mg X.base CX k f fd ps sp)(hr:Room (k+1) X.A)(hg:Gl X x)(hm:X.mg x=some (.ref C))(hb:Binds X.K fd ps ds)(hd:Vals dvs ds)(hx:jq CX X E)
  (ha:PA X (e::es) t) (hdb:(x==("__debug__" :Str))=false:=by decide) (he:al (e::es) X.env=(false,eval e X.env)::al es X.env:=by rfl) (hpl:(bC pos (al es X.env)).any (·.1)=false:=by rfl):
  PE X (.Call (.Name x p) (e::es) [] pos) (JZ C sp dvs E t):=by
 intro pins s σ H Q I h
 refine fF (mq I hg hm ?_ hdb)
 refine PySem.W.callWith_K (h₀:=X.base) I.ok.mod.kin M.kp (eB (ha pos pins s σ H _ I h) λus s1 ⟨vs,H1,I1,r,q⟩=>⟨I1.kIn,?_⟩) he hpl
 exact AQ M F hr hb hd hx I1 r q
end
section
end
structure bn(N P:List Str)(sc:e8):Prop where
 kind:sc.kind= .function
 co:sc.isCoroutine=false
 gen:sc.isGenerator=false
 nd:N.Nodup
 pre:N.take P.length=P
 par:∀x∈P,sc.names.lookup x=some .local\/sc.names.lookup x=some .cell
 nofree:∀y∈sc.names,y.2≠ .free
theorem rE{kindOf:Str->Option dP}{x:Str}:∀{binds:List (Str×ae)} {m:Str->Option ae},(∀v,(x,v)∉binds)->bindL kindOf binds m x=m x
 |[],_,_=>rfl
 |(n,v)::r,m,h=>by
  unfold bindL
  rw[rE λw hw=>h w (cI _ hw)]
  split
  ·have:x≠n:=by rintro rfl;exact h v gA
   simp[this]
  ·rfl
theorem rG{kindOf:Str->Option dP}{x:Str}:∀{binds:List (Str×ae)} {m:Str->Option ae},(∀v,(x,v)∉binds)->bindC kindOf binds m x=m x
 |[],_,_=>rfl
 |(n,v)::r,m,h=>by
  unfold bindC
  rw[rG λw hw=>h w (cI _ hw)]
  split
  ·rfl
  ·have:x≠n:=by rintro rfl;exact h v gA
   simp[this]
theorem rF{kindOf:Str->Option dP}{x:Str}{v:ae}:∀{P:List Str} {vs:List ae} {i:Nat} {m:Str->Option ae},P.Nodup->P[i]? =some x->vs[i]? =some v->kindOf x=some .local->
  bindL kindOf (P.zip vs) m x=some v
 |[],_,_,_,_,h,_,_=>by simp at h
 |_::_,[],_,_,_,_,h,_=>by simp at h
 |p::P,w::vs,0,m,nd,h1,h2,hk=>by
  simp at h1 h2;subst h1;subst h2
  show bindL kindOf ((p,w)::P.zip vs) m p=_
  unfold bindL
  rw[rE λv hv=>(bp.mp nd).1 (List.of_mem_zip hv).1,if_pos hk]
  simp
 |p::P,w::vs,i+1,m,nd,h1,h2,hk=>by
  show bindL kindOf ((p,w)::P.zip vs) m x=_
  unfold bindL
  exact rF (i:=i) (bp.mp nd).2 (by simpa using h1) (by simpa using h2) hk
theorem rH{kindOf:Str->Option dP}{x:Str}{v:ae}:∀{P:List Str} {vs:List ae} {i:Nat} {m:Str->Option ae},P.Nodup->P[i]? =some x->vs[i]? =some v->kindOf x≠some .local->
  bindC kindOf (P.zip vs) m x=some v
 |[],_,_,_,_,h,_,_=>by simp at h
 |_::_,[],_,_,_,_,h,_=>by simp at h
 |p::P,w::vs,0,m,nd,h1,h2,hk=>by
  simp at h1 h2;subst h1;subst h2
  show bindC kindOf ((p,w)::P.zip vs) m p=_
  unfold bindC
  rw[rG λv hv=>(bp.mp nd).1 (List.of_mem_zip hv).1,if_neg hk]
  simp
 |p::P,w::vs,i+1,m,nd,h1,h2,hk=>by
  show bindC kindOf ((p,w)::P.zip vs) m x=_
  unfold bindC
  exact rH (i:=i) (bp.mp nd).2 (by simpa using h1) (by simpa using h2) hk
noncomputable def start(N:List Str)(vs:List V):St:=vs.map some++aE (N.length-vs.length) none
noncomputable def gB(CX:zY)(P:aF)(w:aS)(K:PySem.W.Frag)(mg:Str->Option ae)(base:Heap)(N:List Str)(qual:Str)(scope:e8)(f:Addr)(cd:ae)(A:Around)(outer:List Env)(s:af)(H:Hp)(E:XK):Cx where
 prog:=P
 w:=w
 K:=K
 mg:=mg
 base:=base
 A:=A.deeper (envOfC qual scope s.heap.objs.size f cd)
 N:=N
 s₀:=s
 H₀:=H
 env:=envOfC qual scope s.heap.objs.size f cd
 outer:=outer
 stack:=envOfC qual scope s.heap.objs.size f cd::outer
 ex:=[]
 calm:=true
 fn:=λ_=>true
 pn:=[]
 xe:=λe s'=>wpAny (aN P w) (A.deeper (envOfC qual scope s.heap.objs.size f cd)) (leaving (envOfC qual scope s.heap.objs.size f cd) e) (λ_ s''=>CX outer H s E e s'') (λe' s''=>CX outer H s E e' s'') s'
theorem ve{sc:e8}{n:Nat}{x:Str}(h:sc.names.lookup x=some .cell):∃c,(cellsFrom n sc.names []).lookup x=some c:=by
 have q:=PySem.W.cellsFrom_some sc.names n [] (.inl h)
 exact jd.mp q
theorem zE{CX:zY}{P:aF}{w:aS}{K:PySem.W.Frag}{mg:Str->Option ae}{base:Heap}{N ps:List Str}{qual:Str}{scope:e8}{f:Addr}{cd:ae}{A:Around}{outer:List Env}{s s1:af}{H:Hp}{E:XK}{us:List ae}{vs:List V}
  (S:bn N ps scope) (hd:A.handled=none) (e0:Env0 P w K mg base A outer s H) (hl:vs.length=ps.length) (r:Vals vs us)
  (x:InCallC s s.heap.objs.size (bindL (envOfC qual scope s.heap.objs.size f cd).kindOf (ps.zip us) λ_=>none) (cellsFrom (s.heap.objs.size+1) scope.names []) (bindC (envOfC qual scope s.heap.objs.size f cd).kindOf (ps.zip us) λ_=>none) s1):
  Inv (gB CX P w K mg base N qual scope f cd A outer s H E) [] (start N vs) H s1:=by
 have hpl:ps.length<=N.length:=by have:=congrArg lJ S.pre;rw[bz]at this;ac_nf
 obtain⟨h1,tk,rfl,hk⟩:=x.done
 have noA:∀b:Addr,b∉(gB CX P w K mg base N qual scope f cd A outer s H E).ex:=λb z=>absurd (show b∈([]:List Addr)from z) (by simp)
 refine⟨⟨e0.mod,S.kind,rfl,rfl,aq _,λy z c h1 h2=> ?_,λy hy=> ?_,λy c _ h=> ?_,λ_=>hd,Around.frames_deeper e0.frames,.inr ⟨rfl,rfl⟩,λb z=>absurd z (noA b),e0.bs,e0.bsz,λb _ _=>noA b,λb z=>absurd z (noA b),e0.funs,e0.frf⟩,
  rfl,e0.bare,Un.kept hk,⟨_,x.toInCall.ns,λi y v h1 h2 h3=> ?_⟩,λy c h=>⟨_,x.cell y c h⟩,e0.hok.fresh (aq _),λy c h=> ?_,λp hp=>absurd (show p∈([]:List (Addr×Obj))from hp) (by simp),e0.hok.kept hk,?_⟩
 ·exact name_of_addr x.apart (PySem.mem_of_lookup h1) (PySem.mem_of_lookup h2)
 ·have hy:scope.names.lookup y=some .cell\/scope.names.lookup y=some .free:=hy
  rcases hy with hy|hy
  ·exact ve hy
  ·exact absurd rfl (S.nofree _ (PySem.mem_of_lookup hy))
 ·exact gS (x.above y c (PySem.mem_of_lookup h))
 ·have hi:i<vs.length:=by
   unfold start at h2
   by_cases hi:i<vs.length
   ·exact hi
   ·rw[bS (by simpa using hi)]at h2
    rw[jG]at h2
    split at h2<;>cases h2
  have ha:vs[i]? =some v:=by
   unfold start at h2
   rw[c6 (by simpa using hi),aI]at h2
   cases e:vs[i]? with
   |none=>rw[e]at h2;cases h2
   |some a=>rw[e]at h2;cases h2;rfl
  obtain⟨u,hu,rv⟩:=r.get ha
  have hp:ps[i]? =some y:=by
   rw[<-S.pre,List.getElem?_take_of_lt (by ac_nf)];exact h1
  have ndP:ps.Nodup:=by rw[<-S.pre];exact S.nd.sublist (List.take_sublist _ _)
  refine⟨u,rv,?_⟩
  rcases S.par y (ax hp)with k|k
  ·exact .inl ⟨k,rF ndP hp hu k⟩
  ·obtain⟨c,e⟩:=ve (n:=s.heap.objs.size+1) k
   refine .inr ⟨.inl k,c,e,?_⟩
   have q:=x.cell y c e
   rw[rH ndP hp hu (by show scope.names.lookup y≠_;rw[k];decide)]at q
   exact q
 ·exact e0.hok.fresh (gS (x.above y c (PySem.mem_of_lookup h)))
 ·unfold start
  show _=N.length
  rw[aM,aB,List.length_replicate]
  ac_nf
theorem Gf{CX:zY}{P:aF}{w:aS}{K:PySem.W.Frag}{mg:Str->Option ae}{base:Heap}{k:Nat}{f:Addr}{name qual:Str}{params:Arguments}{body:List Stmt}{scope:e8}{dV kV doc pm cdv ct oc:ae}{an od:Option Addr}
  {osl:Array (Option ae)} {N ps:List Str} {sp:Sp} (lk:K.lookup f=some ⟨oc,od,.func (PySem.W.fnOf name qual params body scope dV kV doc pm an cdv ct),osl⟩) (hcd:PySem.W.codeIn K cdv qual=true) (S:bn N ps scope)
  (len:∀vs H Q E,sp vs H Q E->vs.length=ps.length)
  (hbody:∀(A:Around) (outer:List Env) (s:af) (H:Hp) (vs:List V) (Q:VK) (E:XK),Room k (A.deeper (envOfC qual scope s.heap.objs.size f cdv))->sp vs H Q E->
   ∃t,PSs (gB CX P w K mg base N qual scope f cdv A outer s H E) body t/\t {nx:=λ_ H'=>Q .non H',rt:=Q} (start N vs) H):
  FnOk P w K mg base CX (k+1) f (PySem.W.fnOf name qual params body scope dV kV doc pm an cdv ct) ps sp:=by
 refine⟨len,λA outer s H args us vs Q E hr e0 hb r hsp=> ?_⟩
 have hl:=len _ _ _ _ hsp
 have KX:K.In s.heap:=e0.mod.kin.keeps λb o e=>(e0.bs b o e).1
 have lim:s.heap.NoLimit:=e0.mod.nolimit.keeps λb o e=>(e0.bs b o e).1
 have hkind:∀y∈ps.zip us,scope.names.lookup y.1=some .local\/(scope.names.lookup y.1=some .cell/\((cellsFrom (s.heap.objs.size+1) scope.names []).lookup y.1).isSome=true):=λ⟨n,v⟩ hy=>by
  rcases S.par n (List.of_mem_zip hy).1 with q|q
  ·exact .inl q
  ·exact .inr ⟨q,PySem.W.cellsFrom_some _ _ _ (.inl q)⟩
 refine codeAny_call_function hr.depth (KX _ _ lk) rfl S.co S.gen rfl (PySem.W.codeRec_of KX hcd) (hb _ _ _ _ ?_)
 refine wpAny_newFunctionEnv_cells S.kind hkind λenv he s1 x=> ?_
 subst he
 refine⟨lim.keeps x.toInCall.keep,codeAny_func ?_⟩
 obtain⟨t,ht,hq⟩:=hbody A outer s H vs Q E (hr.deeper _) hsp
 have I:Inv (gB CX P w K mg base N qual scope f cdv A outer s H E) [] (start N vs) H s1:=zE S hr.hd e0 hl r x
 refine aW (ht [] s1 (start N vs) H _ I hq) (λfl s' hs=> ?_) λe s' hs=>hs
 have fin:∀{σ':St} {H':Hp} {v:V} {u:ae},Inv (gB CX P w K mg base N qual scope f cdv A outer s H E) [] σ' H' s'->RelV v u->Q v H'->CE outer P w H s Q u s':=
  fun{σ' H' v u} J rv q=>⟨v,H',J.os,J.bare,J.base,J.hok,rv,q⟩
 cases fl with
 |ret u=>
  obtain⟨v,σ',H',J,rv,q⟩:=hs
  exact fin J rv q
 |next=>
  obtain⟨σ',H',J,q⟩:=hs
  exact fin (v:=V.non) (u:=bc) J rfl q
 |brk=>
  obtain⟨_,_,_,q⟩:=hs
  exact bG q
 |cont=>
  obtain⟨_,_,_,q⟩:=hs
  exact bG q
section
variable{X:Cx}{x:Str}{p pos:Pos}{e:Expr}{es:List Expr}{t:TA}{id T:String}{r:List V->Hp->VK->Prop}
noncomputable def MK(r:List V->Hp->VK->Prop)(t:TA):TE:=λσ H Q=>t σ H λvs H1=>r vs H1 Q
theorem Bc(hc:gE X (.builtin id) r)(hg:Gl X x)(hm:X.mg x=none)(hv:cj x=some (.builtin id))(ha:PA X (e::es) t)(hn:x≠ "__name__" :=by decide)(hdb:(x==("__debug__" :Str))=false:=by decide)
  (he:al (e::es) X.env=(false,eval e X.env)::al es X.env:=by rfl) (hpl:(bC pos (al es X.env)).any (·.1)=false:=by rfl):PE X (.Call (.Name x p) (e::es) [] pos) (MK r t):=by
 intro pins s σ H Q I h
 refine fF (nz I hg hm hv ?_ hn hdb)
 exact PyProof.Rows.callWith_builtin1 (eB (ha pos pins s σ H _ I h) λus s1 ⟨vs,H1,I1,r1,q1⟩=>hc pins s1 σ H1 vs us Q I1 r1 q1) he hpl
theorem y3(hc:gE X (.type T) r)(hg:Gl X x)(hm:X.mg x=none)(hv:cj x=some (.type T))(ha:PA X (e::es) t)(hn:x≠ "__name__" :=by decide)(hdb:(x==("__debug__" :Str))=false:=by decide)
  (he:al (e::es) X.env=(false,eval e X.env)::al es X.env:=by rfl) (hpl:(bC pos (al es X.env)).any (·.1)=false:=by rfl):PE X (.Call (.Name x p) (e::es) [] pos) (MK r t):=by
 intro pins s σ H Q I h
 refine fF (nz I hg hm hv ?_ hn hdb)
 exact eX (eB (ha pos pins s σ H _ I h) λus s1 ⟨vs,H1,I1,r1,q1⟩=>hc pins s1 σ H1 vs us Q I1 r1 q1) he hpl
end
end L2
namespace HT
open PySem PyProof.Rows
section
open PySem.SeqAt
open PySem.AutoSeq1 (wpAny_loadPart')
open PySem.MeetsSeq PySem.MeetsSeq2 PySem.MeetsSeq3
end
section
variable{prog:aF}{w:aS}{A:Around}{E:ae->af->Prop}{s:af}
theorem cat_tup{t b:Addr}{vs ws:List ae}{Q:ae->af->Prop}(ht:IsTup s.heap t vs.toArray)(hb:IsTup s.heap b ws.toArray)(hv:vs≠[])
  (h1:ws=[]->Q (.ref t) s) (h2:ws≠[]->Q (.ref s.heap.objs.size) {s with heap:=s.heap.push {cls:= .type "tuple",data:= .seq (vs++ws).toArray}})
  (hsz:vs.length+ws.length<=aJ):wpAny (aN prog w) A (cx .Add (.ref t) (.ref b)) Q E s:=by
 obtain⟨⟨cls,dd,data,sl⟩,ho,hc,n,hd⟩:=id ht
 obtain⟨⟨cls2,dd2,data2,Dd⟩,ho2,hc2,n2,hd2⟩:=id hb
 simp only at hc hd hc2 hd2
 subst hc hd hc2 hd2
 have e:vs.toArray++ws.toArray=(vs++ws).toArray:=by simp
 by_cases hw:ws=[]
 ·exact concat_meets ⟨_,ho,rfl⟩ ⟨_,ho2,rfl⟩ noFill_tuple_add seq_tuple_add PySem.F.slot_tuple_add PySem.F.entry_tuple_add (PySem.F.args_tuple_add_2 _ _)
   (tuple_addW1 t b vs.toArray ws.toArray n n2 dd dd2 sl Dd (by simpa using hv) (by simp[hw])) ⟨ho,ho2,h1 hw⟩
 ·refine concat_meets ⟨_,ho,rfl⟩ ⟨_,ho2,rfl⟩ noFill_tuple_add seq_tuple_add PySem.F.slot_tuple_add PySem.F.entry_tuple_add (PySem.F.args_tuple_add_2 _ _)
   (tuple_addW2 t b vs.toArray ws.toArray n n2 dd dd2 sl Dd (by simpa using hv) (by simpa using hw) (by rw[ap,ap];exact hsz)) ⟨ho,ho2,?_⟩
  rw[e]
  exact h2 hw
noncomputable def sIx(n d:Nat):Option Int->Nat
 |none=>d
 |some v=>if v<0 then(v+(n:Int)).toNat else min v.toNat n
theorem sIx_none(n d:Nat):sIx n d none=d:=rfl
theorem GU(n d:Nat)(hd:d<=n)(o:Option Int):sIx n d o<=n:=by
 cases o with
 |none=>exact hd
 |some v=>
  show(if v<0 then(v+(n:Int)).toNat else min v.toNat n)<=n
  by_cases hv:v<0
  ·rw[if_pos hv];ac_nf
  ·rw[if_neg hv];exact Nat.min_le_right _ _
theorem yI(v:Int)(n d:Nat):(if v<0 then max (v+(n:Int)) 0 else min v (n:Int))=((sIx n d (some v):Nat):Int):=by
 show(if v<0 then max (v+(n:Int)) 0 else min v (n:Int))=(((if v<0 then(v+(n:Int)).toNat else min v.toNat n):Nat):Int)
 by_cases hv:v<0
 ·simp only[if_pos hv];ac_nf
 ·simp only[if_neg hv];ac_nf
theorem wR(lo hi:Option Int)(n:Nat):dG lo hi 1 (n:Int)=(((sIx n 0 lo:Nat):Int),((sIx n n hi:Nat):Int)):=by
 have h1:¬((1:Int)<0):=by ac_nf
 unfold dG
 simp only[h1,if_false]
 refine Prod.ext ?_ ?_
 ·cases lo with
  |none=>rfl
  |some v=>exact yI v n 0
 ·cases hi with
  |none=>rfl
  |some v=>exact yI v n n
theorem v7(i j:Nat):bN (i:Int) (j:Int) 1=j-i:=by
 unfold bN
 have h1:(1:Int)>0:=by ac_nf
 simp only[h1,if_true,Int.ediv_one]
 split<;>ac_nf
theorem ip{v:ae}{o:Option Int}{Q:Option Int->af->Prop}(p:IsPart v o)(h:Q o s):wpAny (aN prog w) A (bH.Slice.slicePartIndex v) Q E s:=by
 cases p with
 |none=>exact slicePart_none h
 |int i t=>exact slicePart_int h
theorem sliceApplied_gen{sl:Addr}{vl vu:ae}{lo hi:Option Int}{n:Nat}{Q:Int×Int×Nat->af->Prop}(hs:s.heap.IsSliceOf sl vl vu .none)(pl:IsPart vl lo)(pu:IsPart vu hi)
  (h:Q (((sIx n 0 lo:Nat):Int),1,sIx n n hi-sIx n 0 lo) s):wpAny (aN prog w) A (fj (.ref sl) (pure (n:Int))) Q E s:=by
 obtain⟨os,hos,hcs,hds⟩:=id hs
 unfold fj og
 refine aa (aa (bu hos hds (x:=vl) rfl (aa (bu hos hds (x:=vu) rfl (aa (bu hos hds (x:= .none) rfl (am ?_)))))))
 refine aa (slicePart_none ?_)
 show wpAny _ _ (if((1:Int)==0)=true then _ else _) _ _ s
 rw[if_neg (by decide)]
 refine aa (ip pl (aa (ip pu (aa (am ?_)))))
 show wpAny _ _ (match dG lo hi 1 (n:Int)with|(lo,hi)=>pure (lo,(1:Int),bN lo hi 1)) _ _ s
 rw[wR lo hi n]
 show wpAny _ _ (pure (((sIx n 0 lo:Nat):Int),(1:Int),bN ((sIx n 0 lo:Nat):Int) ((sIx n n hi:Nat):Int) 1)) _ _ s
 rw[v7]
 exact am h
theorem A5(xs:Array ae)(i k:Nat):((dC k).filterMap fun(m:Nat)=>xs[((i:Int)+(m:Int)*1).toNat]?).toArray=((xs.toList.drop i).take k).toArray:=by
 have e:(fun(m:Nat)=>xs[((i:Int)+(m:Int)*1).toNat]?)=λm=>xs[i+m]? :=by
  funext m
  have:((i:Int)+(m:Int)*1).toNat=i+m:=by ac_nf
  rw[this]
 rw[e]
 have:=pick_run xs i k
 rw[List.filterMap_map]at this
 have e2:((λx=>xs[x]?)∘λx=>i+x)=λm=>xs[i+m]? :=rfl
 rw[e2]at this
 rw[this]
theorem getItem_tuple_cut{t sl:Addr}{items:Array ae}{vl vu:ae}{lo hi:Option Int}{Q:ae->af->Prop}(ht:IsTup s.heap t items)(hs:s.heap.IsSliceOf sl vl vu .none)(pl:IsPart vl lo)(pu:IsPart vu hi)
  (hw:¬(sIx items.size 0 lo=0/\sIx items.size items.size hi=items.size))
  (h:Q (.ref s.heap.objs.size) {s with heap:=s.heap.push {cls:= .type "tuple",data:= .seq ((items.toList.drop (sIx items.size 0 lo)).take (sIx items.size items.size hi-sIx items.size 0 lo)).toArray}})
  (hsz:items.size<=aJ):wpAny (aN prog w) A (ii (.ref t) (.ref sl)) Q E s:=by
 have htake:sizeOk (.seq ((items.toList.drop (sIx items.size 0 lo)).take (sIx items.size items.size hi-sIx items.size 0 lo)).toArray):=by
  show((items.toList.drop (sIx items.size 0 lo)).take (sIx items.size items.size hi-sIx items.size 0 lo)).toArray.size<=aJ
  rw[ap,bz,List.length_drop,cS]
  ac_nf
 have hj:sIx items.size items.size hi<=items.size:=GU _ _ (aq _) hi
 obtain⟨os,hos,hcs,hds⟩:=id hs
 have hTs:s.TypeIs (.ref sl) "slice" :=⟨os,hos,hcs⟩
 unfold ii
 try with_reducible refine cH ?_
 first|refine aa (am ?_)|skip
 refine aa (rT ht.typeIs (by decide) ?_)
 refine aa (cq (name:=aY "__getitem__") ht.typeIs bf
  (c9 bf ht.typeIs qa ?_ (qF _ _)))
 show wpAny _ _ (hZ (.ref t)>>=_) _ _ s
 refine aa (tupleItemsOf_ ht ?_)
 refine aa (je hTs ?_)
 rw[if_pos (by decide)]
 refine aa (sliceApplied_gen hs pl pu ?_)
 have hno:¬((((sIx items.size 0 lo:Nat):Int)==0&&(1:Int)==1&&(sIx items.size items.size hi-sIx items.size 0 lo)==items.size)=true):=by
  intro q
  rw[av,av]at q
  have q1:((sIx items.size 0 lo:Nat):Int)=0:=eq_of_beq q.1.1
  have q2:sIx items.size items.size hi-sIx items.size 0 lo=items.size:=eq_of_beq q.2
  exact hw ⟨by ac_nf,by ac_nf⟩
 show wpAny _ _ (if(((sIx items.size 0 lo:Nat):Int)==0&&(1:Int)==1&&(sIx items.size items.size hi-sIx items.size 0 lo)==items.size)=true then _ else _) _ _ s
 rw[if_neg hno,A5]
 first
  |exact aa (m:=bV _) (bE (am ⟨_,rfl,am h⟩) htake)
  |exact aa (m:=bV _) (bE (aa (am (am ⟨_,rfl,am h⟩))) htake)
  |exact aa (aa (m:=bV _) (bE (am (am ⟨_,rfl,am h⟩)) htake))
  |exact aa (aa (m:=bV _) (bE (am ⟨_,rfl,am h⟩) htake))
end
end HT
namespace L2
open PySem PySem.Spec PyProof.Rows
noncomputable abbrev TO:=St->Hp->(Option Int->Hp->Prop)->Prop
noncomputable def PO(X:Cx)(e:Option Expr)(t:TO):Prop:=
 ∀(pins:List (Addr×Obj)) (s:af) (σ:St) (H:Hp) (Q:Option Int->Hp->Prop),Inv X pins σ H s->t σ H Q->
  wpAny (aN X.prog X.w) X.A (evalPart e X.env) (λu s'=>∃o H',Inv X pins σ H' s'/\IsPart u o/\Q o H') X.xe s
noncomputable def Dq:TO:=λ_ H Q=>Q none H
noncomputable def JV(t:TE):TO:=λσ H Q=>t σ H λx H1=>∃i,x= .int i/\Q (some i) H1
theorem wD{ns:List Int}:∀{us:List ae},Vals (ns.map V.int) us->IntsAre us ns:=by
 induction ns with
 |nil=>intro us r;rw[kz]at r;cases r;exact .nil
 |cons n ns ih=>
  intro us r
  rw[aD]at r
  cases r with
  |cons r1 r2=>
   obtain⟨t,e⟩:=r1
   subst e
   exact .cons n t (ih r2)
section
variable{X:Cx}{e:Expr}{te:TE}{lo hi:Option Expr}{tl th:TO}{pos p2:Pos}
theorem DW:PO X none Dq:=by
 intro pins s σ H Q I h
 rw[evalPart_none]
 exact am ⟨none,H,I,.none,h⟩
theorem DV(h:PE X e te):PO X (some e) (JV te):=by
 intro pins s σ H Q I hw
 rw[evalPart_some]
 refine eB (h pins s σ H _ I hw) λu s1 hPl=> ?_
 obtain⟨x,H1,I1,r1,q1⟩:=hPl
 obtain⟨i,rfl,q⟩:=q1
 obtain⟨t,rfl⟩:=r1
 exact⟨some i,H1,I1,.int i t,q⟩
noncomputable def Jr(X:Cx)(r:V->Option Int->Option Int->Hp->VK->Prop):Prop:=
 ∀(pins:List (Addr×Obj)) (s:af) (σ:St) (H:Hp) (x:V) (v vl vu:ae) (lo hi:Option Int) (sl:Addr) (Q:VK),Inv X pins σ H s->RelV x v->s.heap.IsSliceOf sl vl vu .none->IsPart vl lo->IsPart vu hi->r x lo hi H Q->
  ∃T id,typeLookup (.type T) "__getitem__" =pure (some (.builtin id))/\s.TypeIs v T/\wpAny (aN X.prog X.w) X.A (ii v (.ref sl)) (EP X pins σ Q) X.xe s
noncomputable def tSl(r:V->Option Int->Option Int->Hp->VK->Prop)(te:TE)(tl th:TO):TE:=λσ H Q=>te σ H λx H1=>tl σ H1 λl H2=>th σ H2 λu H3=>r x l u H3 Q
theorem uw{r:V->Option Int->Option Int->Hp->VK->Prop}(hr:Jr X r)(he:PE X e te)(hl:PO X lo tl)(hu:PO X hi th):PE X (.Subscript e (.Slice lo hi none p2) pos) (tSl r te tl th):=by
 intro pins s σ H Q I h
 refine Subscript_ (eB (he pins s σ H _ I h) λv s1 hPl=> ?_)
 obtain⟨x,H1,I1,r1,q1⟩:=hPl
 refine wpAny_Slice (eB (hl pins s1 σ H1 _ I1 q1) λvl s2 ⟨l,H2,I2,pl,q2⟩=>eB (hu pins s2 σ H2 _ I2 q2) λvu s3 ⟨u,H3,I3,pu,q3⟩=> ?_)
 rw[evalPart_none]
 refine am ?_
 have I4:Inv X pins σ H3 {s3 with heap:=s3.heap.push {cls:= .type "slice",data:= .fields #[vl,vu,.none]}}:=I3.kept (t':=s3.toks) λb ob q=>ai _ q
 obtain⟨T,id,hT,ht,hg⟩:=hr pins {s3 with heap:=s3.heap.push {cls:= .type "slice",data:= .fields #[vl,vu,.none]}} σ H3 x v vl vu l u s3.heap.objs.size Q I4 r1 (jK ..) pl pu q3
 show wpAny (aN X.prog X.w) X.A (subscriptTail e (.Slice lo hi none p2) v (.ref s3.heap.objs.size)) (EP X pins σ Q) X.xe {s3 with heap:=s3.heap.push {cls:= .type "slice",data:= .fields #[vl,vu,.none]}}
 exact tail_any (ops:=[.ref s3.heap.objs.size,v]) ht hT hg (by with_unfolding_all rfl)
noncomputable def sX(xs:List V)(lo hi:Option Int):List V:=(xs.drop (HT.sIx xs.length 0 lo)).take (HT.sIx xs.length xs.length hi-HT.sIx xs.length 0 lo)
theorem n8(xs:List V)(lo hi:Option Int):(sX xs lo hi).length<=xs.length:=by
 unfold sX
 rw[bz,List.length_drop]
 ac_nf
noncomputable def Na(K:PySem.W.Frag):V->Option Int->Option Int->Hp->VK->Prop:=λx lo hi H Q=>∃a xs,x= .ref a/\SqT K H a xs/\
 ¬(HT.sIx xs.length 0 lo=0/\HT.sIx xs.length xs.length hi=xs.length)/\∀p,H p=none->Q (.ref p) (upd H p (.tup (sX xs lo hi)))
theorem GL:Jr X (Na X.K):=by
 intro pins s σ H x v vl vu lo hi sl Q I rx hs pl pu h
 obtain⟨a,xs,rfl,hx,hw,q⟩:=h
 cases rx
 obtain⟨its,r,ht,hz⟩:=I.tuple hx
 have hlen:its.toArray.size=xs.length:=by rw[ap];exact r.length.symm
 refine⟨"tuple",_,bf.lookup,ht.typeIs,?_⟩
 refine HT.getItem_tuple_cut ht hs pl pu (by rw[hlen];exact hw) ?_ (by rw[hlen];exact hz)
 rw[hlen]
 refine⟨.ref s.heap.objs.size,_,I.laid (t':=s.toks) (o:= .tup (sX xs lo hi)) (λb ob q=>ai _ q) (aq _) ?_,rfl,q _ (I.hok.fresh (aq _))⟩
 exact⟨aZ (n8 xs lo hi) hz,_,(r.drop (HT.sIx xs.length 0 lo)).take (HT.sIx xs.length xs.length hi-HT.sIx xs.length 0 lo),IsTup.new _ _⟩
noncomputable def Kl(K:PySem.W.Frag):R2:=λx y H Q=>∃a b xs ys,x= .ref a/\y= .ref b/\SqT K H a xs/\SqT K H b ys/\xs≠[]/\xs.length+ys.length<=aJ/\
 (ys=[]->Q (.ref a) H)/\(ys≠[]->∀p,H p=none->Q (.ref p) (upd H p (.tup (xs++ys))))
theorem Vals.nil_iff{xs:List V}{us:List ae}(r:Vals xs us):us=[]↔xs=[]:=by
 cases r with
 |nil=>simp
 |cons _ _=>simp
theorem El:gW X (cx .Add) (Kl X.K):=by
 intro pins s σ H x y v u Q I rx ry h
 obtain⟨a,b,xs,ys,rfl,rfl,ha,hb,hx,hz,q1,q2⟩:=h
 cases rx
 cases ry
 obtain⟨its,r1,p1,_⟩:=I.tuple ha
 obtain⟨its2,r2,p2,_⟩:=I.tuple hb
 refine HT.cat_tup p1 p2 (λz=>hx (r1.nil_iff.mp z)) (λz=>⟨.ref a,H,I,rfl,q1 (r2.nil_iff.mp z)⟩) (λz=> ?_) (by rw[<-r1.length,<-r2.length];exact hz)
 refine⟨.ref s.heap.objs.size,_,I.laid (t':=s.toks) (o:= .tup (xs++ys)) (λb ob q=>ai _ q) (aq _) ?_,rfl,q2 (λw=>z (r2.nil_iff.mpr w)) _ (I.hok.fresh (aq _))⟩
 exact⟨by rw[aM];exact hz,_,r1.append r2,IsTup.new _ _⟩
end
noncomputable def zC(n:Nat)(i:Int):Option Nat:=if 0<=i then(if i<n then some i.toNat else none)else if-(n:Int)<=i then some (i+n).toNat else none
noncomputable def mW{α:Type}(xs:List α)(i:Int):Option α:=(zC xs.length i).bind λj=>xs[j]?
theorem yx{n:Nat}{i:Int}{j:Nat}(h:zC n i=some j):seqIndex? i n=some j/\j<n/\-(n:Int)<=i/\i<n:=by
 unfold zC at h
 by_cases h0:0<=i
 ·rw[if_pos h0]at h
  by_cases h1:i<n
  ·rw[if_pos h1]at h
   have e:i.toNat=j:=a8 h
   exact⟨by rw[seqIndex_of h0 h1,e],by ac_nf,by ac_nf,h1⟩
  ·rw[if_neg h1]at h;cases h
 ·rw[if_neg h0]at h
  by_cases h1: -(n:Int)<=i
  ·rw[if_pos h1]at h
   have e:(i+n).toNat=j:=a8 h
   exact⟨by rw[seqIndex_neg (by ac_nf) h1,e],by ac_nf,h1,by ac_nf⟩
  ·rw[if_neg h1]at h;cases h
theorem oY{α:Type}{xs:List α}{i:Int}{v:α}(h:mW xs i=some v):∃j,seqIndex? i xs.length=some j/\xs[j]? =some v/\j<xs.length/\-(xs.length:Int)<=i/\i<xs.length:=by
 unfold mW at h
 cases e:zC xs.length i with
 |none=>rw[e]at h;cases h
 |some j=>
  rw[e]at h
  obtain⟨h1,h2,h3,h4⟩:=yx e
  exact⟨j,h1,h,h2,h3,h4⟩
theorem bX{α:Type}{xs:List α}{j:Nat}{v:α}(h:xs[j]? =some v):mW xs (j:Int)=some v:=by
 have hj:j<xs.length:=(aj.mp h).1
 have e:zC xs.length (j:Int)=some j:=by
  unfold zC
  rw[if_pos (by ac_nf),if_pos (by ac_nf)];simp
 unfold mW;rw[e];exact h
noncomputable def tF(b:Expr):Prop:=∀o i,subscripted b false o i=operate [o,i] (ii o i)
noncomputable def JK(X:Cx)(r:R2):Prop:=
 ∀(value slice:Expr) (pins:List (Addr×Obj)) (s:af) (σ:St) (H:Hp) (x y:V) (v u:ae) (Q:VK),Inv X pins σ H s->RelV x v->RelV y u->r x y H Q->
  subscripted slice false v u=operate [v,u] (ii v u)->wpAny (aN X.prog X.w) X.A (subscriptTail value slice v u) (EP X pins σ Q) X.xe s
noncomputable def zT(X:Cx)(id:String)(r:V->List V->Hp->VK->Prop):Prop:=
 ∀(pins:List (Addr×Obj)) (s:af) (σ:St) (H:Hp) (x:V) (xs:List V) (v:ae) (us:List ae) (Q:VK),Inv X pins σ H s->RelV x v->Vals xs us->r x xs H Q->
  wpAny (aN X.prog X.w) X.A (call (.builtin id) (v::us)) (EP X pins σ Q) X.xe s
section
variable{X:Cx}{a b:Expr}{ta tb:TE}{pos:Pos}
theorem Ks{r:R2}(hr:JK X r)(ha:PE X a ta)(hb:PE X b tb)(hs:tF b):PE X (.Subscript a b pos) (JX r ta tb):=by
 intro pins s σ H Q I h
 exact Subscript_ (Jm ha hb I h λv u s2 x y H2 I2 rx ry q=>hr a b pins s2 σ H2 x y v u Q I2 rx ry q (hs _ _))
noncomputable def Ni(K:PySem.W.Frag):R2:=λx y H Q=>∃p xs i v,x= .ref p/\y= .int i/\SqL K H p xs/\mW xs i=some v/\Q v H
noncomputable def Ng(K:PySem.W.Frag):R2:=λx y H Q=>∃p xs i v,x= .ref p/\y= .int i/\SqT K H p xs/\mW xs i=some v/\Q v H
noncomputable def Nh:R2:=λx y H Q=>∃z i c,x= .str z/\y= .int i/\z.length<=aJ/\mW z.cps.toList i=some c/\Q (.str ⟨#[c]⟩) H
theorem E6:JK X (Ni X.K):=by
 intro value slice pins s σ H x y v u Q I rx ry h hs
 obtain⟨p,xs,i,z,rfl,rfl,hq,he,q⟩:=h
 cases rx
 obtain⟨t,rfl⟩:=ry
 obtain⟨its,r,pl,hz⟩:=I.list hq
 obtain⟨j,h1,h2,h3,h4,h5⟩:=oY he
 obtain⟨w,ew,rw'⟩:=r.get h2
 have hl:=r.length
 have hn:=lu
 have fin:EP X pins σ Q w s:=⟨z,H,I,rw',q⟩
 by_cases h0:0<=i
 ·have hj:i.toNat=j:=by
   rw[seqIndex_of h0 h5]at h1
   exact a8 h1
  exact item_listR pl.isList h0 (by ac_nf) (by rw[hj];simpa using ew) fin hs
 ·have hj:(i+(its.toArray.size:Int)).toNat=j:=by
   rw[seqIndex_neg (by ac_nf) h4]at h1
   rw[ap,<-hl]
   exact a8 h1
  exact subscriptTail_builtinR (x:=w) pl.isList.typeIs ss.lookup
   (wpAny_getItem_list_neg (Q:=λr s'=>r=w/\EP X pins σ Q r s') pl.isList (by ac_nf) (by rw[ap]<;>ac_nf) (by ac_nf) (by rw[hj];simpa using ew) ⟨rfl,fin⟩) hs
theorem IL:JK X (Ng X.K):=by
 intro value slice pins s σ H x y v u Q I rx ry h hs
 obtain⟨p,xs,i,z,rfl,rfl,hq,he,q⟩:=h
 cases rx
 obtain⟨t,rfl⟩:=ry
 obtain⟨its,r,pl,hz⟩:=I.tuple hq
 obtain⟨j,h1,h2,h3,h4,h5⟩:=oY he
 obtain⟨w,ew,rw'⟩:=r.get h2
 have hl:=r.length
 have hn:=lu
 have fin:EP X pins σ Q w s:=⟨z,H,I,rw',q⟩
 exact subscriptTail_builtinR (x:=w) pl.typeIs slot_tuple_getitem.lookup
  (getItem_tuple (j:=j) (Q:=λr s'=>r=w/\EP X pins σ Q r s') pl (by ac_nf) (by ac_nf) (by rw[ap,<-hl];exact h1) (by simpa using ew) ⟨rfl,fin⟩) hs
theorem IM:JK X Nh:=by
 intro value slice pins s σ H x y v u Q I rx ry h hs
 obtain⟨z,i,c,rfl,rfl,hz,he,q⟩:=h
 obtain⟨t,rfl⟩:=rx
 obtain⟨t',rfl⟩:=ry
 obtain⟨j,h1,h2,h3,h4,h5⟩:=oY he
 have hl:z.cps.toList.length=z.length:=by simp[Str.length]
 rw[hl]at h1 h4 h5
 have hn:=lu
 exact tail_any (typeIs_str s z t) slot_str_getitem.lookup (getItem_str (c:=c) (by
  have e1:decide (i< -(2^63:Int))=false:=decide_eq_false (by ac_nf)
  have e2:decide (i≥2^63)=false:=decide_eq_false (by ac_nf)
  rw[e1,e2,Bool.or_false]) (by rw[h1];simpa using h2) ⟨.str ⟨#[c]⟩,H,I.tok _,⟨_,rfl⟩,q⟩) hs
theorem wm(its:List ae)(n j:Nat)(u:ae):eM (·.setIfInBounds j u) {cls:= .type "list",data:= .seq its.toArray n}={cls:= .type "list",data:= .seq (its.set j u).toArray n}:=by
 simp[eM]
theorem Inv.lst{pins:List (Addr×Obj)}{σ:St}{H:Hp}{s:af}{p:Addr}{xs:List V}(I:Inv X pins σ H s)(h:H p=some (.lst xs)):
  ∃(its:List ae) (n:Nat),Vals xs its/\s.heap.get? p=some {cls:= .type "list",data:= .seq its.toArray n}/\xs.length<=aJ:=by
 obtain⟨z,its,n,r,e⟩:=I.hok p _ h
 exact⟨its,n,r,e,z⟩
theorem Inv.lstUpd{pins:List (Addr×Obj)}{σ:St}{H:Hp}{s:af}{p:Addr}{xs ys:List V}{its its':List ae}{n n':Nat}{f:Obj->Obj}(I:Inv X pins σ H s)(h:H p=some (.lst xs))
  (ho:s.heap.get? p=some {cls:= .type "list",data:= .seq its.toArray n}) (hf:f {cls:= .type "list",data:= .seq its.toArray n}={cls:= .type "list",data:= .seq its'.toArray n'}) (r:Vals ys its') (hz:ys.length<=aJ) (t:Nat):
  Inv X pins σ (upd H p (.lst ys)) {s with heap:=s.heap.update p f,toks:=t}:=by
 have e:(s.heap.update p f).get? p=some {cls:= .type "list",data:= .seq its'.toArray n'}:=by
  rw[fE f ho (by rw[hf]<;>rfl),hf]
 refine I.write (x:=p) (e:=p) (by rw[h];trivial) (.inl rfl) (λb u hb q=>(bY _ _ (aG hb)).trans q) ⟨_,e⟩ ?_
 exact⟨hz,its',n',r,e⟩
noncomputable def Kj:V->V->V->Hp->(Hp->Prop)->Prop:=λo i v H Q=>∃p xs k j,o= .ref p/\i= .int k/\H p=some (.lst xs)/\zC xs.length k=some j/\Q (upd H p (.lst (xs.set j v)))
theorem AB:PSet X Kj:=by
 intro pins s σ H o i v ov iv u Q I ro ri rv h
 obtain⟨p,xs,k,j,rfl,rfl,hp,hj,q⟩:=h
 cases ro
 obtain⟨t,rfl⟩:=ri
 obtain⟨its,n,r,ho,hz⟩:=I.lst hp
 obtain⟨h1,h2,h3,h4⟩:=yx hj
 have hl:=r.length
 have hn:=lu
 have I':Inv X pins σ (upd H p (.lst (xs.set j v))) {s with heap:=s.heap.update p (eM (·.setIfInBounds j u))}:=
  I.lstUpd hp ho (wm its n j u) (r.set rv j) (by rw[List.length_set];exact hz) s.toks
 by_cases h0:0<=k
 ·have hk:k.toNat=j:=by
   rw[seqIndex_of h0 h4]at h1
   exact a8 h1
  exact PySem.W.ki_setAt ho h0 (by ac_nf) (by rw[ap,<-hl];exact h4) (by rw[hk];exact⟨_,I',q⟩)
 ·have hk:(k+(its.toArray.size:Int)).toNat=j:=by
   rw[seqIndex_neg (by ac_nf) h3]at h1
   rw[ap,<-hl]
   exact a8 h1
  exact PySem.W.ki_setBack ho (by ac_nf) (by rw[ap,<-hl];exact h3) (by ac_nf) (by rw[hk];exact⟨_,I',q⟩)
theorem su(lo hi:Option Int)(n:Nat):(iL lo hi none n).1=((HT.sIx n 0 lo:Nat):Int)/\(iL lo hi none n).2.1=((HT.sIx n n hi:Nat):Int)/\(iL lo hi none n).2.2=1:=by
 refine⟨?_,?_,rfl⟩
 ·cases lo with
  |none=>simp[iL,HT.sIx]
  |some i=>
   simp only[iL,HT.sIx,Option.getD_none,show(1:Int)>0 by decide,if_true]
   by_cases h:i<0
   ·simp only[h,if_true]<;>ac_nf
   ·simp only[h,if_false]<;>ac_nf
 ·cases hi with
  |none=>simp[iL,HT.sIx]
  |some i=>
   simp only[iL,HT.sIx,Option.getD_none,show(1:Int)>0 by decide,if_true]
   by_cases h:i<0
   ·simp only[h,if_true]<;>ac_nf
   ·simp only[h,if_false]<;>ac_nf
theorem qy(its:List ae)(lo hi:Option Int):slicePick its.toArray lo hi none=((its.drop (HT.sIx its.length 0 lo)).take (HT.sIx its.length its.length hi-HT.sIx its.length 0 lo)).toArray:=by
 obtain⟨h1,h2,h3⟩:=su lo hi its.toArray.size
 unfold slicePick
 rw[h1,h2,h3]
 simp only[sliceRange_one,pick_run,ap]<;>rfl
noncomputable def Nc(K:PySem.W.Frag):V->Option Int->Option Int->Hp->VK->Prop:=λx lo hi H Q=>∃a xs,x= .ref a/\SqL K H a xs/\∀p,H p=none->Q (.ref p) (upd H p (.lst (sX xs lo hi)))
theorem Dz:Jr X (Nc X.K):=by
 intro pins s σ H x v vl vu lo hi sl Q I rx hs pl pu h
 obtain⟨a,xs,rfl,hx,q⟩:=h
 cases rx
 obtain⟨its,r,ht,hz⟩:=I.list hx
 have hlen:=r.length
 refine⟨"list",_,ss.lookup,ht.isList.typeIs,?_⟩
 refine Ag ht.isList hs pl pu .none (by simp) ?_ (by rw[ap]<;>ac_nf)
 rw[qy,<-hlen]
 refine⟨.ref s.heap.objs.size,_,I.laid (t':=s.toks) (o:= .lst (sX xs lo hi)) (λb ob q=>ai _ q) (aq _) ?_,rfl,q _ (I.hok.fresh (aq _))⟩
 exact⟨aZ (n8 xs lo hi) hz,_,0,(r.drop (HT.sIx xs.length 0 lo)).take (HT.sIx xs.length xs.length hi-HT.sIx xs.length 0 lo),aH _ rfl⟩
noncomputable def kY:V->Bool
 | .non=>true
 | .bl _=>true
 | .int _=>true
 | .str _=>true
 |_=>false
noncomputable def Fh:V->V->Bool
 | .non,.non=>true
 | .bl a,.bl b=>a==b
 | .bl a,.int b=>(if a then 1 else 0)==b
 | .int a,.bl b=>a==(if b then 1 else 0)
 | .int a,.int b=>a==b
 | .str a,.str b=>a==b
 |_,_=>false
theorem Jb{A:Around}{s:af}{y x:V}{u v:ae}(ry:RelV y u)(rx:RelV x v)(fy:kY y=true)(fx:kY x=true):aO A s u v (Fh y x):=by
 cases y with
 |non=>
  cases ry
  cases x with
  |non=>cases rx;exact aO.same _
  |bl b=>cases rx;exact aO.none_bool b
  |int b=>obtain⟨t,rfl⟩:=rx;exact aO.none_int b t
  |str b=>obtain⟨t,rfl⟩:=rx;exact aO.none_str b t
  |_=>exact absurd (show false=true from fx) bi
 |bl a=>
  cases ry
  cases x with
  |non=>cases rx;exact aO.bool_none a
  |bl b=>cases rx;exact aO.bool_bool a b
  |int b=>obtain⟨t,rfl⟩:=rx;exact aO.bool_int a b t
  |str b=>obtain⟨t,rfl⟩:=rx;exact aO.bool_str a b t
  |_=>exact absurd (show false=true from fx) bi
 |int a=>
  obtain⟨t',rfl⟩:=ry
  cases x with
  |non=>cases rx;exact aO.int_none a t'
  |bl b=>cases rx;exact aO.int_bool a t' b
  |int b=>obtain⟨t,rfl⟩:=rx;exact aO.int_int a t' b t
  |str b=>obtain⟨t,rfl⟩:=rx;exact lf a t' b t
  |_=>exact absurd (show false=true from fx) bi
 |str a=>
  obtain⟨t',rfl⟩:=ry
  cases x with
  |non=>cases rx;exact aO.str_none a t'
  |bl b=>cases rx;exact aO.str_bool a t' b
  |int b=>obtain⟨t,rfl⟩:=rx;exact le a t' b t
  |str b=>obtain⟨t,rfl⟩:=rx;exact aO.str_str a t' b t
  |_=>exact absurd (show false=true from fx) bi
 |_=>exact absurd (show false=true from fy) bi
noncomputable def Fi(x:V)(u:ae):Bool:=match u with
 | .none=>Fh .non x
 | .bool b=>Fh (.bl b) x
 | .int i _=>Fh (.int i) x
 | .str z _=>Fh (.str z) x
 |_=>false
theorem Co{x y:V}{u:ae}(r:RelV y u)(f:kY y=true):Fi x u=Fh y x:=by
 cases y with
 |non=>cases r;rfl
 |bl b=>cases r;rfl
 |int i=>obtain⟨t,rfl⟩:=r;rfl
 |str z=>obtain⟨t,rfl⟩:=r;rfl
 |_=>exact absurd (show false=true from f) bi
theorem tz{x:V}:∀{xs:List V} {us:List ae},Vals xs us->xs.all kY=true->us.any (Fi x)=xs.any λy=>Fh y x
 |_,_,.nil,_=>rfl
 |y::xs,u::us,.cons r t,f=>by
  rw[eK,av]at f
  rw[cK,cK,Co r f.1,tz t f.2]
theorem pM{A:Around}{s:af}{x:V}{v:ae}(rx:RelV x v)(fx:kY x=true):∀{xs:List V} {us:List ae},Vals xs us->xs.all kY=true->∀u∈us,aO A s u v (Fi x u)
 |_,_,.nil,_=>λu hu=>by cases hu
 |y::xs,u::us,.cons r t,f=>λu' hu=>by
  rw[eK,av]at f
  rcases aA.mp hu with rfl|hu
  ·rw[Co r f.1];exact Jb r rx f.1 fx
  ·exact pM rx fx t f.2 u' hu
noncomputable def Mg(x:V)(xs:List V):Bool:=xs.any λy=>Fh y x
noncomputable def rIn(K:PySem.W.Frag)(neg:Bool):R2:=λx y H Q=>∃p xs,y= .ref p/\(SqL K H p xs\/SqT K H p xs)/\kY x=true/\xs.all kY=true/\Q (.bl (if neg then !Mg x xs else Mg x xs)) H
theorem rb:gW X (cr .In) (rIn X.K false):=by
 intro pins s σ H x y v u Q I rx ry h
 obtain⟨p,xs,rfl,hq,fx,fs,q⟩:=h
 cases ry
 rcases hq with hq|hq
 ·obtain⟨its,r,pl,hz⟩:=I.list hq
  refine SeqAt.in_listAt (Fi x) pl.isList (λw hw=>pM rx fx r fs w (by simpa using hw)) ⟨.bl _,H,I,rfl,?_⟩
  rw[show its.toArray.any (Fi x)=its.any (Fi x)by simp,tz r fs]
  exact q
 ·obtain⟨its,r,pl,hz⟩:=I.tuple hq
  refine SeqAt.in_tupleAt (Fi x) pl (λw hw=>pM rx fx r fs w (by simpa using hw)) ⟨.bl _,H,I,rfl,?_⟩
  rw[show its.toArray.any (Fi x)=its.any (Fi x)by simp,tz r fs]
  exact q
theorem mK:gE X (.builtin "len") (λxs H Q=>∃p ys,xs=[.ref p]/\(SqL X.K H p ys\/SqT X.K H p ys)/\Q (.int ys.length) H):=by
 intro pins s σ H xs us Q I r h
 obtain⟨p,ys,rfl,hq,q⟩:=h
 obtain⟨u,rfl,rx⟩:=tI r
 cases rx
 have hn:=lu
 rcases hq with hq|hq
 ·obtain⟨its,r',pl,hz⟩:=I.list hq
  have hlen:=r'.length
  exact Calls.call_len_list pl.isList (by simp only[ap]<;>ac_nf) ⟨.int ys.length,H,I.tok _,⟨s.toks+1,by rw[ap,hlen]⟩,q⟩
 ·obtain⟨its,r',pl,hz⟩:=I.tuple hq
  have hlen:=r'.length
  exact len_tuple pl (by simp only[ap]<;>ac_nf) ⟨.int ys.length,H,I.tok _,⟨s.toks+1,by rw[ap,hlen]⟩,q⟩
theorem tq:gE X (.builtin "len") (λxs H Q=>∃z,xs=[.str z]/\z.length<=aJ/\Q (.int z.length) H):=by
 intro pins s σ H xs us Q I r h
 obtain⟨z,rfl,hz,q⟩:=h
 obtain⟨u,rfl,t,rfl⟩:=tI r
 have hn:=lu
 exact len_str (by ac_nf) ⟨.int z.length,H,I.tok _,⟨_,rfl⟩,q⟩
theorem lc:gE X (.type "tuple") (λxs H Q=>∃p ys,xs=[.ref p]/\((SqL X.K H p ys/\∀l,H l=none->Q (.ref l) (upd H l (.tup ys)))\/(SqT X.K H p ys/\Q (.ref p) H))):=by
 intro pins s σ H xs us Q I r h
 obtain⟨p,ys,rfl,h⟩:=h
 obtain⟨u,rfl,rx⟩:=tI r
 cases rx
 rcases h with⟨hq,q⟩|⟨hq,q⟩
 ·obtain⟨its,r',pl,hz⟩:=I.list hq
  have hlen:=r'.length
  refine call_tuple_list pl.isList (λh' kp=> ?_) (by simp only[ap]<;>ac_nf)
  have I1:Inv X pins σ H {s with heap:=h'}:=I.kept (t':=s.toks) kp
  have I2:Inv X pins σ (upd H h'.objs.size (.tup ys)) {s with heap:=h'.push {cls:= .type "tuple",data:= .seq its.toArray}}:=
   I1.laid (t':=s.toks) (λb o e=>ai _ e) (aq _) (show ObjOk X.prog X.w _ _ _ (.tup ys)from⟨hz,its,r',IsTup.new _ _⟩)
  exact⟨.ref h'.objs.size,_,I2,rfl,q _ (I1.hok.fresh (aq _))⟩
 ·obtain⟨its,r',pl,hz⟩:=I.tuple hq
  exact call_tuple_same pl ⟨.ref p,H,I,rfl,q⟩
noncomputable def Mc(K:PySem.W.Frag)(T:String)(x:V)(H:Hp):Prop:=match x with
 | .str _=>T= "str"
 | .int _=>T= "int"
 | .ref p=>(T= "list" /\∃xs,SqL K H p xs)\/(T= "tuple" /\∃o,K.lookup p=some o/\o.cls= .type "tuple" /\o.dict=none)\/
   (T= "dict" /\((∃kvs,H p=some (.dK kvs))\/∃kvs,H p=some (.dT kvs)))\/(T= "set" /\∃S n,H p=some (.set S n))
 |_=>False
theorem Aj{pins:List (Addr×Obj)}{σ:St}{H:Hp}{s:af}{T:String}{x:V}{v:ae}(I:Inv X pins σ H s)(r:RelV x v)(ty:Mc X.K T x H):
  s.TypeIs v T/\∀a,v= .ref a->∃ob,s.heap.get? a=some ob/\ob.dict=none:=by
 cases x with
 |str z=>
  obtain⟨t,rfl⟩:=r
  cases (show T= "str" from ty)
  exact⟨typeIs_str s z t,λ_ e=>nomatch e⟩
 |int i=>
  obtain⟨t,rfl⟩:=r
  cases (show T= "int" from ty)
  exact⟨jw s i t,λ_ e=>nomatch e⟩
 |ref p=>
  cases r
  rcases ty with⟨rfl,xs,hq⟩|⟨rfl,o,hk,hc,hd⟩|⟨rfl,hk⟩|⟨rfl,S,n,hk⟩
  ·obtain⟨its,_,pl,_⟩:=I.list hq
   refine⟨pl.isList.typeIs,λa e=> ?_⟩
   cases e
   obtain⟨o,n,e,c,hd,_⟩:=pl
   exact⟨o,e,hd⟩
  ·refine⟨⟨o,I.kIn p o hk,hc⟩,λa e=> ?_⟩
   cases e
   exact⟨o,I.kIn _ o hk,hd⟩
  ·have z:∃o,s.heap.get? p=some o/\o.ExactDict:=by
    rcases hk with⟨kvs,hk⟩|⟨kvs,hk⟩
    ·obtain⟨_,_,_,_,o,_,_,e,ex,_⟩:=I.hok p _ hk
     exact⟨o,e,ex⟩
    ·obtain⟨_,_,_,_,o,_,_,e,ex,_⟩:=I.hok p _ hk
     exact⟨o,e,ex⟩
   obtain⟨o,e,ex⟩:=z
   refine⟨⟨o,e,ex.1⟩,λa e2=> ?_⟩
   cases e2
   exact⟨o,e,ex.2.1⟩
  ·obtain⟨o,_,_,_,e,ex,_⟩:=I.hok p _ hk
   refine⟨⟨o,e,ex.1⟩,λa e2=> ?_⟩
   cases e2
   exact⟨o,e,ex.2.1⟩
 |_=>exact bG ty
noncomputable def ML(K:PySem.W.Frag)(T:String)(r:V->List V->Hp->VK->Prop)(to:TE):TE:=λσ H Q=>to σ H λx H1=>Mc K T x H1/\r x [] H1 Q
noncomputable def tBM(K:PySem.W.Frag)(T:String)(r:V->List V->Hp->VK->Prop)(to:TE)(t:TA):TE:=λσ H Q=>to σ H λx H1=>Mc K T x H1/\t σ H1 λxs H2=>r x xs H2 Q
variable{o e:Expr}{es:List Expr}{to:TE}{t:TA}{name:Str}{apos cpos:Pos}{T id:String}{r:V->List V->Hp->VK->Prop}
theorem Bd(pa:PlainAttrs T)(slot:Slot T name id)(hty:typeOf (.builtin id)=pure (.type "method_descriptor"))(hm:zT X id r)(ho:PE X o to)
  (hbase:bL o name X.env (eval o X.env)=eval o X.env:=by rfl) (hline:(apos.endLine==cpos.line)=true:=by rfl):PE X (.Call (.Attribute o name apos) [] [] cpos) (ML X.K T r to):=by
 intro pins s σ H Q I h
 refine wpAny_Call_method0_late hbase hline (eB (ho pins s σ H _ I h) λv s1 hPl=> ?_)
 obtain⟨x,H1,I1,r1,ty,q1⟩:=hPl
 obtain⟨h1,h2⟩:=Aj I1 r1 ty
 exact⟨T,id,pa,slot,hty,h1,h2,gL rfl (PySem.evalArgs_none (hm pins s1 σ H1 x [] v [] Q I1 r1 .nil q1))⟩
theorem FZ(pa:PlainAttrs T)(slot:Slot T name id)(hty:typeOf (.builtin id)=pure (.type "method_descriptor"))(hm:zT X id r)(ho:PE X o to)(ha:PA X (e::es) t)
  (hbase:bL o name X.env (eval o X.env)=eval o X.env:=by rfl)
  (hfew:((bC cpos (al (e::es) X.env)).all (λx=> !x.1)&&(gJ cpos (dW [] X.env)).all (λx=>x.1.isSome)
   &&decide ((e::es).length+([]:List fT).length+(if([]:List fT).isEmpty then 0 else 1)<30))=true:=by rfl)
  (hline:(apos.endLine==cpos.line)=true:=by rfl) (hs:al (e::es) X.env=(false,eval e X.env)::al es X.env:=by rfl) (hplain:(bC cpos (al es X.env)).any (·.1)=false:=by rfl):
  PE X (.Call (.Attribute o name apos) (e::es) [] cpos) (tBM X.K T r to t):=by
 intro pins s σ H Q I h
 refine wpAny_Call_method_late hbase hfew hline rfl (eB (ho pins s σ H _ I h) λv s1 hPl=> ?_)
 obtain⟨x,H1,I1,r1,ty,q1⟩:=hPl
 obtain⟨h1,h2⟩:=Aj I1 r1 ty
 refine⟨T,id,pa,slot,hty,h1,h2,?_⟩
 have hA:=ha cpos pins s1 σ H1 _ I1 q1
 rw[hs]at hA⊢
 refine gL (by show(false||(bC cpos (al es X.env)).any (·.1))=false;rw[hplain]<;>rfl) (lE ?_)
 exact eB hA λus s2 hPl=>by obtain⟨vs,H2,I2,r2,q2⟩:=hPl;exact hm pins s2 σ H2 x vs v us Q I2 r1 r2 q2
/-xs.append(e),list.index on a module's tuple .. are zT facts of 06m-/
end
noncomputable def Mn(X:Cx)(id:String)(r:V->List V->Hp->VK->Prop):Prop:=
 ∀(pins:List (Addr×Obj)) (s:af) (σ:St) (H:Hp) (x:V) (xs:List V) (v:ae) (us:List ae) (Q:VK),Inv X pins σ H s->RelV x v->Vals xs us->r x xs H Q->
  wpAny (aN X.prog X.w) X.A (call (.builtin id) (v::us)) (EP X pins σ Q) X.xe s
theorem Vals.one{x:V}{us:List ae}(h:Vals [x] us):∃u,us=[u]/\RelV x u:=by
 cases h with
 |cons r t=>cases t;exact⟨_,rfl,r⟩
theorem Vals.two{x y:V}{us:List ae}(h:Vals [x,y] us):∃u v,us=[u,v]/\RelV x u/\RelV y v:=by
 cases h with
 |cons r t=>cases t with
  |cons q t=>cases t;exact⟨_,_,rfl,r,q⟩
theorem Vals.zero:∀{us:List ae},Vals [] us->us=[]
 |_,.nil=>rfl
theorem Vals.dropLast{xs:List V}{us:List ae}(h:Vals xs us):Vals xs.dropLast us.dropLast:=by
 induction h with
 |nil=>exact .nil
 |cons r t ih=>
  cases t with
  |nil=>exact .nil
  |cons q t'=>exact .cons r ih
theorem Vals.reverse{xs:List V}{us:List ae}(h:Vals xs us):Vals xs.reverse us.reverse:=by
 induction h with
 |nil=>exact .nil
 |cons r t ih=>rw[fJ,fJ];exact Vals.append ih (.cons r .nil)
theorem Vals.rep{xs:List V}{us:List ae}(h:Vals xs us):∀k:Nat,Vals (aE k xs).flatten (aE k us).flatten
 |0=> .nil
 |k+1=>by
  rw[bF,bF,cP,cP]
  exact Vals.append h (Vals.rep h k)
theorem wI{α:Type}(l:List α):l.eraseIdx (l.length-1)=l.dropLast:=by
 induction l with
 |nil=>rfl
 |cons a r ih=>
  cases r with
  |nil=>rfl
  |cons b r=>
   have e:(a::b::r).length-1=((b::r).length-1)+1:=by
    have h1:(a::b::r).length=r.length+2:=rfl
    have h2:(b::r).length=r.length+1:=rfl
    ac_nf
   rw[e,List.eraseIdx_cons_succ,ih]
   all_goals rfl
theorem nJ(its:List ae):∀(k:Nat) (acc:List ae),
  List.foldl (λx1 x2=>x1++x2) acc.toArray (aE k its.toArray)=(acc++(aE k its).flatten).toArray
 |0,acc=>by simp
 |k+1,acc=>by
  have e:acc.toArray++its.toArray=(acc++its).toArray:=by simp
  have e2:(acc++its)++(aE k its).flatten=acc++(aE (k+1) its).flatten:=by
   rw[bF,cP,eD]
  rw[<-e2,<-nJ its k (acc++its),<-e,bF,List.foldl_cons]
section
variable{X:Cx}{pins:List (Addr×Obj)}{σ:St}{H:Hp}{s:af}{l:Addr}{xs ys:List V}
theorem Inv.lset{its its':List ae}{n:Nat}{f:Array ae->Array ae}{t':Nat}(I:Inv X pins σ H s)(hH:H l=some (.lst xs))
  (e:s.heap.get? l=some {cls:= .type "list",data:= .seq its.toArray n}) (hf:f its.toArray=its'.toArray) (hv:Vals ys its') (hz:ys.length<=aJ):
  Inv X pins σ (upd H l (.lst ys)) {s with heap:=s.heap.update l (eM f),toks:=t'}:=by
 have q:=PySem.IsL.update e f
 rw[hf]at q
 refine I.write (x:=l) (e:=l) (by rw[hH];exact trivial) (.inl rfl) (λb' u hb hu=>(bY s.heap (eM f) (aG hb)).trans hu) ⟨_,q⟩ ?_
 exact⟨hz,its',_,hv,q⟩
theorem Inv.lnew{its:List ae}{t':Nat}(I:Inv X pins σ H s)(hv:Vals ys its)(hz:ys.length<=aJ):
  Inv X pins σ (upd H s.heap.objs.size (.lst ys)) {s with heap:=s.heap.push {cls:= .type "list",data:= .seq its.toArray},toks:=t'}:=
 I.laid (λ_ _ q=>ai _ q) (aq _) ⟨hz,its,0,hv,aH _ rfl⟩
theorem Inv.fresh(I:Inv X pins σ H s):H s.heap.objs.size=none:=I.hok.fresh (aq _)
theorem Inv.lstM(I:Inv X pins σ H s)(hH:H l=some (.lst xs)):xs.length<=aJ/\∃(its:List ae) (n:Nat),Vals xs its/\xs.length=its.length/\s.heap.get? l=some {cls:= .type "list",data:= .seq its.toArray n}:=by
 obtain⟨z,its,n,r,e⟩:=I.hok l _ hH
 exact⟨z,its,n,r,r.length,e⟩
theorem pI{n:Nat}(h:n<=aJ):cY n=false:=by
 unfold cY
 exact decide_eq_false (by ac_nf)
end
section
variable{X:Cx}
noncomputable def DL:V->List V->Hp->VK->Prop:=λx vs H Q=>∃l xs y,x= .ref l/\vs=[y]/\H l=some (.lst xs)/\xs.length<aJ/\Q .non (upd H l (.lst (xs++[y])))
theorem nv:Mn X "list.append" DL:=by
 intro pins s σ H x vs v us Q I rx rv h
 obtain⟨l,xs,y,rfl,rfl,hH,hz,q⟩:=h
 cases rx
 obtain⟨u,rfl,ru⟩:=rv.one
 obtain⟨z,its,n,r,hl,e⟩:=I.lstM hH
 refine eU F.slot_list_append ⟨_,e,rfl⟩ F.entry_list_append (F.args_list_append_2 _ _) (PySem.list_append l its.toArray n u (by rw[ap];ac_nf)) ⟨e,?_⟩
 refine⟨.non,_,I.lset (its':=its++[u]) hH e (by simp) (r.append (.cons ru .nil)) ?_,rfl,q⟩
 rw[aM,List.length_singleton]
 ac_nf
noncomputable def DK:V->List V->Hp->VK->Prop:=λx vs H Q=>∃l b xs zs,x= .ref l/\vs=[.ref b]/\H l=some (.lst xs)/\H b=some (.lst zs)/\xs.length+zs.length<=aJ/\Q .non (upd H l (.lst (xs++zs)))
theorem zi:Mn X "list.extend" DK:=by
 intro pins s σ H x vs v us Q I rx rv h
 obtain⟨l,b,xs,zs,rfl,rfl,hH,hB,hz,q⟩:=h
 cases rx
 obtain⟨u,rfl,ru⟩:=rv.one
 cases ru
 obtain⟨z,its,n,r,hl,e⟩:=I.lstM hH
 obtain⟨z2,its2,n2,r2,hl2,e2⟩:=I.lstM hB
 have hsz:its.toArray.size+its2.toArray.size<=aJ:=by rw[ap,ap];ac_nf
 have hlong:¬(!its.toArray.isEmpty&&cY (its.toArray.size+its2.toArray.size))=true:=by
  rw[pI hsz,lK]
  exact bi
 refine eU F.slot_list_extend ⟨_,e,rfl⟩ F.entry_list_extend (F.args_list_extend_2 _ _)
  (AutoSeq1.list_extend_list_list_0 l its.toArray n b its2.toArray n2 hlong (by rw[ap];ac_nf) (by ac_nf)) ⟨e,e2,?_⟩
 refine⟨.non,_,I.lset (its':=its++its2) hH e (by simp) (r.append r2) ?_,rfl,q⟩
 rw[aM]
 ac_nf
noncomputable def Nf:V->List V->Hp->VK->Prop:=λx vs H Q=>∃l xs y,x= .ref l/\vs=[]/\H l=some (.lst xs)/\xs[xs.length-1]? =some y/\Q y (upd H l (.lst xs.dropLast))
theorem HS:Mn X "list.pop" Nf:=by
 intro pins s σ H x vs v us Q I rx rv h
 obtain⟨l,xs,y,rfl,rfl,hH,hy,q⟩:=h
 cases rx
 have hus:=rv.zero
 subst hus
 obtain⟨z,its,n,r,hl,e⟩:=I.lstM hH
 obtain⟨u,hu,ru⟩:=r.get hy
 have hy':its.toArray[its.toArray.size-1]? =some u:=by
  show its.toArray[its.length-1]? =some u
  rw[<-Array.getElem?_toList,<-hl]
  exact hu
 refine eU F.slot_list_pop ⟨_,e,rfl⟩ F.entry_list_pop (F.args_list_pop_1 _) (MeetsSeq.list_pop_last l its.toArray n u hy' (by rw[ap];ac_nf)) ⟨e,?_⟩
 refine⟨y,_,I.lset (its':=its.dropLast) hH e ?_ r.dropLast ?_,ru,q⟩
 ·show its.toArray.eraseIdxIfInBounds (its.toArray.size-1)=its.dropLast.toArray
  rw[ap,List.eraseIdxIfInBounds_toArray,wI]
 ·rw[List.length_dropLast]
  ac_nf
noncomputable def Nd:R2:=λx y H Q=>∃l k xs,x= .ref l/\y= .int k/\H l=some (.lst xs)/\-(2^63)<=k/\k<2^63/\xs.length*k.toNat<=aJ/\
 ∀p,H p=none->Q (.ref p) (upd H p (.lst (aE k.toNat xs).flatten))
theorem sI{α:Type}(xs:List α)(k:Nat):(aE k xs).flatten.length=k*xs.length:=by
 induction k with
 |zero=>simp
 |succ k ih=>rw[bF,cP,aM,ih,Nat.succ_mul,Nat.add_comm]
theorem Hx:gW X (cx .Mult) Nd:=by
 intro pins s σ H x y v u Q I rx ry h
 obtain⟨l,k,xs,rfl,rfl,hH,h1,h2,hz,q⟩:=h
 cases rx
 obtain⟨t,rfl⟩:=ry
 obtain⟨z,its,n,r,hl,e⟩:=I.lstM hH
 have hlen:its.toArray.size*k.toNat<=aJ:=by rw[ap,<-hl];exact hz
 have hcap:¬its.toArray.size*k.toNat>(2^63-1)/8:=by
  have:(aJ:Nat)<=(2^63-1)/8:=by decide
  ac_nf
 have hfit:¬(!bH.List.listFitsIndex k)=true:=by
  rw[fitsIndex_both h1 h2]
  exact bi
 have hlong:¬cY (its.toArray.size*k.toNat)=true:=by
  rw[pI hlen]
  exact bi
 have hnew:List.foldl (λx1 x2=>x1++x2) #[] (aE (if its.toArray.isEmpty=true then 0 else k.toNat) its.toArray)=(aE k.toNat its).flatten.toArray:=by
  have f0:∀m:Nat,List.foldl (λx1 x2=>x1++x2) #[] (aE m its.toArray)=(aE m its).flatten.toArray:=λm=>by
   have:=nJ its m []
   rw[kO]at this
   exact this
  rw[f0]
  cases its with
  |nil=>simp
  |cons a r'=>rw[if_neg (by simp)]
 refine jM (T:= "list") (U:= "int") (by decide) ⟨_,e,rfl⟩ (λs'=>jw s' k t) noFill_list_mul F.fills_int_mul gD repeat_list tG.lookup
  (eU gD (jw s k t) F.entry_int_rmul (qJ _ _) (int___rmul___int_list k t l its.toArray n)
   ⟨e,rfl,⟨_,e,rfl⟩,eU F.slot_list_mul ⟨_,e,rfl⟩ F.entry_list_mul (F.args_list_mul_2 _ _) (AutoListH.list___mul___list_int_3 l its.toArray n k t hfit hcap hlong) ⟨e,?_⟩⟩)
 rw[hnew]
 exact⟨.ref _,_,I.lnew (t':=s.toks) (r.rep k.toNat) (by rw[sI,kK];exact hz),rfl,q _ I.fresh⟩
end
section
end
section
end
end L2
namespace Att
open PySem PySem.W PySem.Calls PyProof.Rows
theorem ox{P:Params}{h:Heap}:∀(ns:List Int) (vs:List ae),WellAll P h vs (ns.map WData.int)->IntsAre vs ns:=by
 intro ns
 induction ns with
 |nil=>
  intro vs w
  rw[kz]at w
  cases w
  exact .nil
 |cons n ns ih=>
  intro vs w
  rw[aD]at w
  cases w with
  |cons a b=>
   cases a
   exact .cons _ _ (ih _ b)
theorem yX{l:OpenLaw}{n:Nat}(hn:l.most=some n){P:Params}{h:Heap}{args:List WData}{vals:List ae}
  (hpre:l.row.toRowW.claim.pre args=true) (hwl:WellAll P h vals args):
  ∃a vs ns,vals=[au a]/\args=[WData.list (ns.map WData.int)]/\h.get? a=some {cls:= .type "list",data:= .seq vs.toArray}/\IntsAre vs ns/\ns.length<=n:=by
 have hsh:WShape.hasAll [] args [.list .int]=true:=(pre_splitW hpre).1
 have hc:l.pre.holds [] {args:=args}=true:=(pre_splitW hpre).2
 obtain⟨d,r,rfl,h1,h2⟩:=hasAllW_cons hsh
 obtain rfl:=hasAllW_nil h2
 obtain⟨xs,rfl,h3⟩:=hasW_list h1
 obtain⟨ns,rfl⟩:=items_int h3
 have hlen:ns.length<=n:=by
  unfold OpenLaw.pre at hc
  have h4:(WTm.not (.lt (.lit (.int (n:Int))) (.len (.arg 0)))).holds [] {args:=[.list (ns.map .int)]}=true:=by
   have h4:=(holds_andW hc).1
   rw[hn]at h4
   exact h4
  have h5:=condW_of h4 (w_not (w_lt w_lit (w_len_list (w_arg rfl))))
  rw[aB]at h5
  refine Nat.le_of_not_lt λq=> ?_
  have q':(n:Int)<((ns.length:Nat):Int):=by ac_nf
  first
   |(rw[decide_eq_true q']at h5;exact absurd h5 (by decide))
   |(simp at h5;ac_nf)
 cases hwl with
 |cons w1 w2=>
  cases w2
  cases w1 with
  |list ho hall=>exact⟨_,_,ns,rfl,rfl,ho,ox ns _ hall,hlen⟩
theorem yY(l:OpenLaw)(args:List WData):l.row.toRowW.claim.post args (.bool true) args=true:=
 postW_of (r:=l.row.toRowW) (X:=(true==true))
  (show WShape.has [] (.bool true) .bool=true by first|rfl|decide|simp[WShape.has,WShape.arms,WShape.armsAll])
  (show(WTm.eq .res (.lit (.bool true))).value [] {args:=args,res:=some (.bool true),after:=args}=some (.bool (true==true))from w_eq_bool (w_res rfl) w_lit) rfl
theorem attach_call{l:OpenLaw}{n:Nat}{q:aF}{loose:List Str}{XP:(Str->Option ae)->Heap->Prop}{YP:aS->Heap->Prop}{d:DefRec}
  (hn:l.most=some n) (hdf:d.params.defaults=[])
  (call:∀(w:aS) (s₀ s₁:af) (mg mb:Str->Option ae) (fa:Addr) (o:Obj) (pm cd doc:ae) (a:Addr) (vs:List ae) (ns:List Int),
   Ground q loose [] XP w s₀ mg mb s₁.heap->YP w s₁.heap->
   s₁.heap.get? fa=some o->o.data= .func (docDef d.name d.params d.body d.scope pm cd doc)->s₁.heap.CodeRec cd d.name->mg d.name=some (.ref fa)->
   s₁.heap.get? a=some {cls:= .type "list",data:= .seq vs.toArray}->IntsAre vs ns->ns.length<=n->s₁.gens= #[]->
   codeAny (aN l.prog w) callerA (.call (.ref fa) ⟨[.ref a],[]⟩) (λr s'=>r= .ok (.ret (.bool true))/\OldK s₁.heap s'.heap/\s'.os=s₁.os/\kB s'.gens) s₁):
  WalkO q loose XP YP l.row.toRowW d [] (λf vs=>PySem.call f vs):=by
 intro w s₀ s₁ mg mb G Y fa o pm cd doc dV kV ho hd hcd hD hmg hg args vals as hpre hlay hrd hwl hlo
 obtain rfl:dV= .none:=Dflts.none hD hdf
 obtain rfl:kV= .none:=Dflts.noKw hD
 obtain⟨a,vs,ns,rfl,rfl,hobj,hints,hlen⟩:=yX hn hpre hwl
 refine enter_call (mG (call w s₀ s₁ mg mb fa o pm cd doc a vs ns G Y ho (fd_plain hd) hcd hmg hobj hints hlen hg) λr s' hq=> ?_)
 obtain⟨rfl,h2,h3,h4⟩:=hq
 exact⟨.inl ⟨.bool true,.bool true,[],rfl,λ_=>rfl,.bool true,yY l _,λ_=>⟨List.Pairwise.nil,λ_ hm=>(nomatch hm)⟩⟩,h2,h3,h4⟩
section
end
end Att
namespace L2
open PySem PySem.Spec PyProof.Rows
theorem qN:∀{vs:List ae} {ns:List Int},IntsAre vs ns->Vals (ns.map V.int) vs
 |_,_,.nil=> .nil
 |_,_,.cons n t h=> .cons ⟨t,rfl⟩ (qN h)
noncomputable def FB(H:Hp):Prop:=∀b,H b=none\/∃o xs,H b=some (.frz o (.lst xs))
theorem BQ{P:aF}{w:aS}{K:PySem.W.Frag}{mg mb:Str->Option ae}{CX:zY}{k:Nat}{fa a:Addr}{fd:aR}{x:Str}{sp:Sp}{s₁:af}{vs:List ae}{ns:List Int}
  (KX:K.In s₁.heap) (hns:s₁.heap.Ns ba mg) (hb:s₁.heap.Ns builtinsNs mb) (hbb:∀x:Str,x≠ "__name__" ->mb x=cj x) (hlim:s₁.heap.NoLimit) (hg:s₁.gens= #[])
  (ha:s₁.heap.get? a=some {cls:= .type "list",data:= .seq vs.toArray}) (hi:IntsAre vs ns) (hl:ns.length<=aJ) (hr:Room k callerA)
  (F:∀base:Heap,K.In base->base.Ns ba mg->FnOk P w K mg base CX k fa fd [x] sp) (hbind:∀(s:af) (u:ae),BindsTo s fd ⟨[u],[]⟩ [(x,u)])
  (hsp:∀H:Hp,FB H->SqL K H a (ns.map V.int)->sp [.ref a] H (λv _=>v= .bl true) λ_ _ _=>False)
  (hCX:∀H e s',CX [] H s₁ (λ_ _ _=>False) e s'->False):
  codeAny (aN P w) callerA (.call (.ref fa) ⟨[.ref a],[]⟩) (λr s'=>r= .ok (.ret (.bool true))/\OldK s₁.heap s'.heap/\s'.os=s₁.os/\kB s'.gens) s₁:=by
 have rv:=qN hi
 have lenV:=hi.length
 -- from an abstract heap in which nothing but the script may be tracked
 have core:∀H:Hp,FB H->SqL K H a (ns.map V.int)->HOk P w H s₁.heap->(∀b,H b≠none->b=a)->(H a≠none->K.lookup a=none)->
   codeAny (aN P w) callerA (.call (.ref fa) ⟨[.ref a],[]⟩) (λr s'=>r= .ok (.ret (.bool true))/\OldK s₁.heap s'.heap/\s'.os=s₁.os/\kB s'.gens) s₁:=by
  intro H hO hS hok hA hK
  have base_of:∀{b:Addr} {o:Obj},s₁.heap.get? b=some o->H b=none->(sP s₁.heap H).get? b=some o:=λe n=>Cd e n
  have noA:∀{b:Addr} {o:Obj} {es:Array ju} {ep:Nat},s₁.heap.get? b=some o->o.data= .dict es ep->H b=none:=fun{b o es ep} e d=>by
   cases q:H b with
   |none=>rfl
   |some u=>
    have e':b=a:=hA b (by rw[q];simp)
    subst e'
    rw[ha]at e;cases e
    have d':eE vs.toArray _=Data.dict es ep:=d
    cases d'
  have nsK:∀{b:Addr} {m:Str->Option ae},s₁.heap.Ns b m->(sP s₁.heap H).Ns b m:=fun{b m} ⟨o,es,ep,e,d,r⟩=>⟨o,es,ep,base_of e (noA e d),d,r⟩
  have hKb:K.In (sP s₁.heap H):=λb o e=>base_of (KX b o e) (by
   cases q:H b with
   |none=>rfl
   |some u=>
    have e':b=a:=hA b (by rw[q];simp)
    subst e'
    rw[hK (by rw[q];simp)]at e;cases e)
  have hM:Mod K mg (sP s₁.heap H):=⟨hKb,nsK hns,⟨mb,nsK hb,hbb⟩,let⟨mc,h1,h2⟩:=hlim;⟨mc,nsK h1,h2⟩⟩
  have e0:Env0 P w K mg (sP s₁.heap H) callerA [] s₁ H:=⟨rfl,hM,λb o e=>Ev e,Nat.le_of_eq (zF _ _),trivial,λb hb=>absurd (show b∈([]:List Addr)from hb) (by simp),hok,.of_eq hg⟩
  refine mG ((F _ hKb (nsK hns)).run callerA [] s₁ H ⟨[.ref a],[]⟩ [.ref a] [.ref a] _ _ hr e0 (hbind s₁ (.ref a)) (.cons rfl .nil) (hsp H hO hS)) λr s' h=> ?_
  cases r with
  |error e=>exact(hCX H e s' h).elim
  |ok fl=>
   cases fl with
   |next=>exact bG h
   |brk=>exact bG h
   |cont=>exact bG h
   |ret u=>
    obtain⟨v,H',os,bare,un,hok',r',q⟩:=h
    have q':v= .bl true:=q
    subst q'
    obtain rfl:u=c7 true:=r'
    refine⟨rfl,OldK.of_keep λb o e=> ?_,os,bare⟩
    cases q:H b with
    |none=>exact un.keep b o e q (by intro z;exact absurd (show b∈([]:List Addr)from z) (by simp)) (by simp)
    |some u=>
     rcases hO b with z|⟨ob,xs,z⟩
     ·rw[q]at z;cases z
     ·have z2:=un.frzs b ob _ z
      obtain⟨e1,_⟩:=hok b _ z
      obtain⟨e2,_⟩:=hok' b _ z2
      rw[e]at e1;cases e1
      exact e2
 cases hk:K.lookup a with
 |some o=>
  -- the script is one of the module's own objects
  have e:=KX a o hk
  rw[ha]at e
  cases e
  refine core (λ_=>none) (λ_=> .inl rfl) (.inr ⟨_,vs.toArray,_,hk,rfl,rfl,rfl,by rw[ap,lenV];exact hl,by simpa using rv⟩) (λb u z=>by have z':(none:Option HO)=some u:=z;cases z') (λb z=>absurd rfl z) λz=>absurd rfl z
 |none=>
  refine core (λb=>if b=a then some (.frz {cls:= .type "list",data:= .seq vs.toArray} (.lst (ns.map V.int)))else none) (λb=> ?_) (.inl (.inr ⟨{cls:= .type "list",data:= .seq vs.toArray},if_pos rfl⟩)) (λb u z=> ?_) (λb z=> ?_) λ_=>hk
  ·by_cases hb:b=a
   ·exact .inr ⟨_,_,if_pos hb⟩
   ·exact .inl (if_neg hb)
  ·by_cases hb:b=a
   ·have z':=(if_pos hb).symm.trans z
    cases z'
    subst hb
    exact⟨ha,by rw[aB];exact hl,vs,_,rv,ha⟩
   ·have z':=(if_neg hb).symm.trans z
    cases z'
  ·by_cases hb:b=a
   ·exact hb
   ·exact absurd (if_neg hb) z
theorem walk_of{l:PySem.W.OpenLaw}{n k:Nat}{q:aF}{loose:List Str}{XP:(Str->Option ae)->Heap->Prop}{YP:aS->Heap->Prop}{d:DefRec}{K:Params->PySem.W.Frag}{CX:aS->zY}{sp:aS->Sp}{x:Str}
  (hn:l.most=some n) (hn2:n<=aJ) (hdf:d.params.defaults=[]) (hr:Room k callerA)
  (hY:∀(w:aS) (h:Heap),YP w h->(K w.params).In h)
  (F:∀(w:aS) (mg:Str->Option ae) (fa:Addr) (h:Heap),(K w.params).In h->h.Ns ba mg->mg d.name=some (.ref fa)->
   ∃fd:aR,(∀(s:af) (u:ae),BindsTo s fd ⟨[u],[]⟩ [(x,u)])/\
    ∀base:Heap,(K w.params).In base->base.Ns ba mg->FnOk l.prog w (K w.params) mg base (CX w) k fa fd [x] (sp w))
  (hsp:∀(w:aS) (H:Hp) (a:Addr) (ns:List Int),ns.length<=n->FB H->SqL (K w.params) H a (ns.map V.int)->sp w [.ref a] H (λv _=>v= .bl true) λ_ _ _=>False)
  (hCX:∀(w:aS) (H:Hp) (s:af) (e:ae) (s':af),CX w [] H s (λ_ _ _=>False) e s'->False):
  PySem.W.WalkO q loose XP YP l.row.toRowW d [] (λf vs=>PySem.call f vs):=by
 refine Att.attach_call hn hdf λw s₀ s₁ mg mb fa o pm cd doc a vs ns G Y ho hd hcd hmg hobj hints hlen hg=> ?_
 have KX:=hY w _ Y
 obtain⟨fd,hb,hF⟩:=F w mg fa _ KX G.T.g hmg
 exact BQ KX G.T.g G.T.b G.T.builtins G.T.nolimit hg hobj hints (aZ hlen hn2) hr hF hb (λH hO hS=>hsp w H a ns hlen hO hS) λH e s'=>hCX w H s₁ e s'
end L2
/-THE LAST THEOREM (shape;LID,My.*are yours):
  My.Adr:a structure of the addresses that your layer names (classes,functions);My.Txt K t:a structure (Prop) of the equations over K;
  My.txt_mk:{K} {implicit addresses ..} (e1:nsIn K ba "law" =some (some (.ref f))) (e2:K.lookup f=some ⟨oc,od,.func (fnOf "law" "law" params body scope dV kV doc pm an cdv ct),sl⟩) (e3:codeIn K cdv "law" =true) .. :∃t,My.Txt K t
set_option maxRecDepth 100000 in
theorem PySem.Challenge.cw_LID_holds : PySem.Challenge.rw_LID.Holds := by
 w_on;o_law;k_head;(case hw=>w_witness2)
 k_fill
 refine L2.walk_of (l:=PySem.Challenge.rw_LID) (n:=63) (k:=40) (x:= "script") (CX:=λw=> ..) (sp:=λ_=>My.sp_law) rfl (by decide) rfl ⟨rfl,by decide,by decide⟩ (λw h Y=>PySem.W.kIn_of Y) ?F ?S ?C
 case F=>
  intro w mg fa h KX G hmg
  have T:∃t,My.Txt (L2.KOf KX) t:=by
   dsimp only [L2.KOf]                          -- K must stand as «<heap const> w.params» for k_is
   refine' My.txt_mk ?e1 ?e2 ?e3 ..
   (case e1 => PySem.W.k_is)                    -- in the order: a name -> its address -> its object -> its parts
   (case e2=>PySem.W.k_is)
   ..
  obtain⟨t,T⟩:=T
  have e0:=hmg.symm.trans (PySem.W.mg_of KX G T.law)
  cases e0                                       -- fa is the law's own address
  exact ⟨_, λs u => .of_eq rfl, λbase kb nb => My.law_fn T kb nb⟩     -- if «.of_eq rfl» comes too early: refine' ⟨_, ?b, λbase kb nb => My.law_fn T kb nb⟩; exact λs u => .of_eq rfl
 case S=>exact λw H a ns hl hO hS=> ..
 case C=>exact ..
(the tactic k_is has no namespace:write k_is)-/
namespace L2
open PySem PySem.Spec PyProof.Rows
noncomputable def dQ(s:Stmt)(j:Nat):Stmt:=match s with
 | .ClassDef _ _ _ body _ _ _ _ _ _ _=>body.getD j (.Pass ⟨0,0,0,0⟩)
 |_=> .Pass ⟨0,0,0,0⟩
noncomputable def kx(s:Stmt):Arguments:=match s with
 | .FunctionDef _ a _ _ _ _ _ _ _ _=>a
 |_=>{posonlyargs:=[],args:=[],vararg:=none,kwonlyargs:=[],kw_defaults:=[],kwarg:=none,defaults:=[]}
noncomputable def gO(s:Stmt):List Stmt:=match s with
 | .FunctionDef _ _ b _ _ _ _ _ _ _=>b
 |_=>[]
noncomputable def aL(s:Stmt):e8:=match s with
 | .FunctionDef _ _ _ _ _ _ sc _ _ _=>sc
 |_=>{kind:= .function,names:=[],isGenerator:=false,isCoroutine:=false}
noncomputable abbrev FD:zY:=λ_ _ _ _ _ _=>False
noncomputable abbrev E0:XK:=λ_ _ _=>False
theorem yh{X:Cx}:jq FD X E0:=λ_ _ _ _ _ _ _ h=>h.elim
structure Fun(K:PySem.W.Frag)(x qual:Str)(st:Stmt)(f:Addr)(fd:aR):Prop where
 ex:∃(oc:ae) (od:Option Addr) (kV doc pm:ae) (an:Option Addr) (cdv ct:ae) (osl:Array (Option ae)),
  fd=PySem.W.fnOf x qual (kx st) (gO st) (aL st) .none kV doc pm an cdv ct/\K.lookup f=some ⟨oc,od,.func fd,osl⟩/\PySem.W.codeIn K cdv qual=true
 kp:PySem.W.keepIn K (.ref f)=true
section
variable{P:aF}{w:aS}{K:PySem.W.Frag}{mg:Str->Option ae}{base:Heap}
theorem Fun.ok{x qual:Str}{st:Stmt}{f:Addr}{fd:aR}{N ps:List Str}{k:Nat}{sp:Sp}(F:Fun K x qual st f fd)(S:bn N ps (aL st))(len:∀vs H Q E,sp vs H Q E->vs.length=ps.length)
  (hbody:∀(cdv:ae) (A:Around) (outer:List Env) (s:af) (H:Hp) (vs:List V) (Q:VK) (E:XK),Room k (A.deeper (envOfC qual (aL st) s.heap.objs.size f cdv))->sp vs H Q E->
   ∃t,PSs (gB FD P w K mg base N qual (aL st) f cdv A outer s H E).nox (gO st) t/\t {nx:=λ_ H'=>Q .non H',rt:=Q} (start N vs) H):FnOk P w K mg base FD (k+1) f fd ps sp:=by
 obtain⟨oc,od,kV,doc,pm,an,cdv,ct,osl,rfl,lk,hcd⟩:=F.ex
 refine Gf lk hcd S len λA outer s H vs Q E hr hsp=> ?_
 obtain⟨t,h,q⟩:=hbody cdv A outer s H vs Q E hr hsp
 exact⟨t,h.nox,q⟩
theorem Fun.binds{x qual:Str}{st:Stmt}{f:Addr}{fd:aR}{ps:List Str}(F:Fun K x qual st f fd)
  (h:∀(kV doc pm:ae) (an:Option Addr) (cdv ct:ae) (us:List ae),us.length=ps.length->bindArgs (PySem.W.fnOf x qual (kx st) (gO st) (aL st) .none kV doc pm an cdv ct) ⟨us,[]⟩=pure (ps.zip us)):Binds K fd ps []:=by
 obtain⟨oc,od,kV,doc,pm,an,cdv,ct,osl,rfl,lk,hcd⟩:=F.ex
 exact .all (h kV doc pm an cdv ct)
theorem Ci{x qual:Str}{st:Stmt}{f:Addr}{oc:ae}{od an:Option Addr}{osl:Array (Option ae)}{kV doc pm cdv ct:ae}(l:K.lookup f=some ⟨oc,od,.func (PySem.W.fnOf x qual (kx st) (gO st) (aL st) .none kV doc pm an cdv ct),osl⟩)
  (c:PySem.W.codeIn K cdv qual=true) (k:PySem.W.keepIn K (.ref f)=true):Fun K x qual st f (PySem.W.fnOf x qual (kx st) (gO st) (aL st) .none kV doc pm an cdv ct):=⟨⟨oc,od,kV,doc,pm,an,cdv,ct,osl,rfl,l,c⟩,k⟩
end
section
end
theorem uP{A B:Prop}(h:B):if false=true then A else B:=by
 rw[if_neg bi]
 exact h
theorem uO{A B:Prop}(h:A):if true=true then A else B:=by
 rw[if_pos rfl]
 exact h
theorem mF{prog:aF}{w:aS}{A:Around}{R:Result->af->Prop}{s:af}{elt target iter:Expr}{ifs:List Expr}{scope:e8}{pos:Pos}{it acc:ae}{env:Env}{N:ae->af->Prop}
  (hN:N=notedBy (aN prog w) A env λe s'=>R (.error e) s') (J:Nat->af->Prop)
  (turn:∀n s,J n s->wpAny (aN prog w) A (pyNext it) (λr s₁=>match r with
   |none=>R (.ok .next) s₁
   |some v=>wpAny (aN prog w) A (i0 target it v) (λ_ s₀=>wpAny (aN prog w) A (assign target env v) (λ_ s₂=>
     wpAny (aN prog w) A (forIn ifs true λc r=>if r=true then do let ok <-isTrue c env (eval c env);pure (fU ok)else pure (fU r)) (λok s₃=>
      if ok=true then wpAny (aN prog w) A (eval elt env) (λx s₄=>
       wpAny (aN prog w) A (call (.builtin "list.append") [acc,x]) (λ_ s₅=>∃m,m<n/\J m s₅) N s₄) N s₃
      else∃m,m<n/\J m s₃) N s₂) N s₀) N s₁) N s)
  (n:Nat) (h:J n s):
  codeAny (aN prog w) A (.compLoop (.ListComp elt [⟨target,iter,ifs,0⟩] scope pos) 0 it acc env) R s:=by
 refine codeAny_loop rfl J (λn s hI=> ?_) n h
 show wpAny _ A ((compTurn (.ListComp elt [⟨target,iter,ifs,0⟩] scope pos) 0 it acc env).onRaise (λx=>do noteFrame x env;theTreesLotGoes x)) _ _ s
 refine wpAny_noted ?_
 rw[compTurn_list]
 subst hN
 refine aa (wpAny_standAt (aa (aW (turn n s hI) (λr s₁ h₁=> ?_) λ_ _ h'=>h')))
 cases r with
 |none=>exact am h₁
 |some v=>
  refine aa (aW h₁ (λ_ s₀ h₀=> ?_) λ_ _ h'=>h')
  refine aa (aW h₀ (λ_ s₂ h₂=>aa (aW h₂ (λok s₃ h₃=> ?_) λ_ _ h'=>h')) λ_ _ h'=>h')
  cases ok with
  |false=>exact am ⟨rfl,h₃⟩
  |true=>
   exact aa (aa (aW h₃ (λx s₄ h₄=>aa (aW h₄ (λ_ s₅ h₅=>am (am ⟨rfl,h₅⟩)) λ_ _ h'=>h')) λ_ _ h'=>h'))
noncomputable def kH(cells:List (Str×Addr)):List (Str×dP)->List (Str×Addr)->List (Str×Addr)
 |[],acc=>acc
 |(n,k)::r,acc=>kH cells r (if k= .free then(n,(cells.lookup n).getD 0)::acc else acc)
theorem lC{env:Env}:∀(names:List (Str×dP)) (acc:List (Str×Addr)),(∀y∈names,y.2= .free->∃c,env.cells.lookup y.1=some c)->
  (forIn names acc (fun(y:Str×dP) (cs:List (Str×Addr))=>if(y.2== .free)=true then(do let c <-cellOf env y.1;pure (fU ((y.1,c)::cs)))else pure (fU cs)):Sem (List (Str×Addr)))=pure (kH env.cells names acc)
 |[],acc,_=>rfl
 |(n,k)::r,acc,h=>by
  rw[kQ]
  have hr:∀y∈r,y.2= .free->∃c,env.cells.lookup y.1=some c:=λy hy=>h y (cI _ hy)
  by_cases hk:k= .free
  ·subst hk
   obtain⟨c,hc⟩:=h (n,.free) gA rfl
   have e:cellOf env n=pure c:=by unfold cellOf;rw[hc]
   simp only[beq_self_eq_true,if_true,e,pure_bind]
   rw[lC r _ hr]
   show _=pure (kH env.cells r _)
   rw[if_pos rfl,hc]
   rfl
  ·have hb:(k==iX)=false:=by simpa using hk
   simp only[hb,oh,if_false,pure_bind]
   rw[lC r _ hr]
   show _=pure (kH env.cells r _)
   rw[if_neg hk]
theorem iQ{scope:e8}{env:Env}(h:∀y∈scope.names,y.2= .free->∃c,env.cells.lookup y.1=some c):closureFor scope env=pure (kH env.cells scope.names []):=by
 have q:=lC scope.names [] h
 unfold closureFor
 simp only[bind_pure]
 exact q
theorem vd{cells:List (Str×Addr)}:∀(names:List (Str×dP)) (acc:List (Str×Addr)) (y:Str) (c:Addr),(∀z∈names,z.2= .free->∃c,cells.lookup z.1=some c)->(∀c,acc.lookup y=some c->cells.lookup y=some c)->(kH cells names acc).lookup y=some c->cells.lookup y=some c
 |[],acc,y,c,_,ha,h=>ha c h
 |(n,k)::r,acc,y,c,hn,ha,h=>by
  refine vd r _ y c (λz hz=>hn z (cI _ hz)) (λc' hc'=> ?_) h
  by_cases hk:k= .free
  ·rw[if_pos hk]at hc'
   obtain⟨c0,e0⟩:=hn (n,k) gA hk
   rw[eR]at hc'
   cases hx:y==n with
   |true=>
    have hy:y=n:=by simpa using hx
    subst hy
    rw[hx]at hc'
    have e0':cells.lookup y=some c0:=e0
    simp only[e0',Option.getD_some]at hc'
    rw[e0',hc']
   |false=>rw[hx]at hc';exact ha c' hc'
  ·rw[if_neg hk]at hc'
   exact ha c' hc'
theorem rC{cells:List (Str×Addr)}:∀(names:List (Str×dP)) (acc:List (Str×Addr)) (y:Str),(∃c,acc.lookup y=some c)->∃c,(kH cells names acc).lookup y=some c
 |[],acc,y,h=>h
 |(n,k)::r,acc,y,h=>by
  refine rC r _ y ?_
  by_cases hk:k= .free
  ·rw[if_pos hk,eR]
   cases hx:y==n with
   |true=>exact⟨_,rfl⟩
   |false=>exact h
  ·rw[if_neg hk];exact h
theorem qi{cells:List (Str×Addr)}:∀(names:List (Str×dP)) (acc:List (Str×Addr)) (y:Str),(y,iX)∈names->∃c,(kH cells names acc).lookup y=some c
 |[],acc,y,h=>by simp at h
 |(n,k)::r,acc,y,h=>by
  rcases aA.mp h with e|e
  ·have e1:n=y:=(kJ e).1.symm
   have e2:k= .free:=(kJ e).2.symm
   subst e1;subst e2
   refine rC r _ n ?_
   rw[if_pos rfl,eR]
   simp
  ·exact qi r _ y e
structure gK(sc:e8)(N:List Str)(scope:e8)(M:List Str)(ix:List (Option Nat))(j:Nat)(x:Str):Prop where
 kind:scope.kind= .function
 names:∀y∈scope.names,y.2= .local->scope.names.lookup y.1=some .local
 nocell:∀y∈scope.names,y.2≠ .cell
 nd:M.Nodup
 tgt:M[j]? =some x
 loc:scope.names.lookup x=some .local
 own:ix[j]? =some none
 len:ix.length=M.length
 free:∀y∈scope.names,y.2= .free->sc.names.lookup y.1=some .cell\/sc.names.lookup y.1=some .free
 capt:∀(k:Nat) (y:Str) (i:Nat),M[k]? =some y->ix[k]? =some (some i)->N[i]? =some y/\(sc.names.lookup y=some .cell\/sc.names.lookup y=some .free)/\scope.names.lookup y=some .free
noncomputable def ka(ix:List (Option Nat))(σ:St):St:=ix.map λo=>match o with
 |some i=>(σ[i]?).getD none
 |none=>none
noncomputable def bO(X:Cx)(M:List Str)(scope:e8)(C:Addr)(s:af)(H:Hp)(fp:List Addr):Cx where
 prog:=X.prog
 w:=X.w
 K:=X.K
 mg:=X.mg
 base:=X.base
 A:=X.A
 N:=M
 s₀:=s
 H₀:=H
 env:=compEnvC scope (kH X.env.cells scope.names []) C X.env
 outer:=X.stack
 stack:=X.stack
 ex:=fp
 fn:=λ_=>false
 calm:=X.calm
 pn:=[]
 xe:=λ_ _=>False
noncomputable def PF(X:Cx)(ifs:List Expr)(t:TT):Prop:=
 ∀(pins:List (Addr×Obj)) (s:af) (σ:St) (H:Hp) (Q:Bool->Hp->Prop),Inv X pins σ H s->t σ H Q->
  wpAny (aN X.prog X.w) X.A (forIn ifs true λc r=>if r=true then do let ok <-isTrue c X.env (eval c X.env);pure (fU ok)else pure (fU r)) (TP X pins σ Q) X.xe s
noncomputable def Ms:TT:=λ_ H Q=>Q true H
theorem Hl{X:Cx}:PF X [] Ms:=λ_ _ _ H _ I h=>wpAny_tests_nil ⟨H,I,h⟩
theorem Hk{X:Cx}{c:Expr}{t:TT}(h:PT X c t):PF X [c] t:=λpins s σ H Q I q=>wpAny_tests_one (h pins s σ H Q I q)
noncomputable def vn(env:Env)(p:Str×dP):Str×dP:=if(p.2==iX&&env.scope.kind== .function&&env.kindOf p.1==some .cell)then(p.1,dP.cell)else(p.1,p.2)
theorem vY(scope:e8)(env:Env):(relabel scope env).names=scope.names.map (vn env):=rfl
theorem DI(env:Env)(p:Str×dP):(vn env p).1=p.1:=by unfold vn;split<;>rfl
theorem lr{env:Env}:∀(names:List (Str×dP)) (x:Str),(names.map (vn env)).lookup x=((names.lookup x).map λk=>(vn env (x,k)).2)
 |[],x=>rfl
 |(n,k)::r,x=>by
  have ih:=lr (env:=env) r x
  have e1:=DI env (n,k)
  rw[aD]
  rw[show vn env (n,k)=((vn env (n,k)).1,(vn env (n,k)).2)from rfl,e1,eR,eR]
  cases hx:x==n with
  |true=>
   have:x=n:=by simpa using hx
   subst this
   rfl
  |false=>exact ih
theorem AR{env:Env}{x:Str}{k:dP}(h:(vn env (x,k)).2= .cell\/(vn env (x,k)).2= .free)(hk:k≠ .cell):k= .free:=by
 unfold vn at h
 split at h
 ·rename_i hc
  have:=(zZ.mp (zZ.mp hc).1).1
  simpa using this
 ·rcases h with h|h
  ·exact absurd h hk
  ·exact h
theorem uq{env:Env}{x:Str}:(vn env (x,.free)).2= .cell\/(vn env (x,.free)).2= .free:=by
 unfold vn
 split
 ·exact .inl rfl
 ·exact .inr rfl
theorem pO{env:Env}{names:List (Str×dP)}{x:Str}(h:(names.map (vn env)).lookup x=some .cell\/(names.map (vn env)).lookup x=some .free)(hc:∀y∈names,y.2≠ .cell):(x,iX)∈names:=by
 rw[lr]at h
 cases q:names.lookup x with
 |none=>rw[q]at h;simp at h
 |some k=>
  rw[q]at h
  have hm:=PySem.mem_of_lookup q
  have hk:k≠ .cell:=hc _ hm
  have e:k= .free:=AR (env:=env) (x:=x) (by rcases h with h|h;exact .inl (a8 h);exact .inr (a8 h)) hk
  rw[e]at hm
  exact hm
theorem tj{ix:List (Option Nat)}{j:Nat}(h:ix[j]? =some none)(σ:St):(ka ix σ)[j]? =some none:=by
 unfold ka
 rw[aI,h]
 rfl
noncomputable def Dc(J:It)(ix:List (Option Nat))(j:Nat)(σ:St)(tf:TT)(te:TE)(Q:VK)(H1:Hp)(acc:Addr):Prop:=∃W:Nat->Nat->Hp->Prop,(∃m,W 0 m (upd H1 acc (.lst [])))/\∀i m H',W i m H'->
 (J.stop i H'/\Q (.ref acc) H')\/(J.go i H'/\∀x H2,J.yld i H' x H2->tf ((ka ix σ).set j (some x)) H2 λb H3=>
  if b=true then te ((ka ix σ).set j (some x)) H3 λy H4=>∃ys,H4 acc=some (.lst ys)/\ys.length<aJ/\∃m',m'<m/\W (i+1) m' (upd H4 acc (.lst (ys++[y])))
  else∃m',m'<m/\W (i+1) m' H3)
noncomputable def Ap(wi:TI)(ix:List (Option Nat))(j:Nat)(tf:TT)(te:TE):TE:=λσ H Q=>wi σ H λJ H1=>∀acc,H1 acc=none->Dc J ix j σ tf te Q H1 acc
section
variable{X:Cx}{scope:e8}{M:List Str}{ix:List (Option Nat)}{j:Nat}{x:Str}
theorem lA{pins:List (Addr×Obj)}{σ:St}{H:Hp}{s:af}{fp:List Addr}{h1:Heap}(S:gK X.env.scope X.N scope M ix j x)(I:Inv X pins σ H s)
  (hf:∀b∈fp,oA X pins H b) (hft:∀b∈fp,b<s.heap.objs.size) (old:∀b o,s.heap.get? b=some o->h1.get? b=some o)
  (hD:h1.get? s.heap.objs.size=some {cls:= .type "list",data:= .seq ([]:List ae).toArray 0}) (hns:h1.Ns (s.heap.objs.size+1) λ_=>none):
  Inv (bO X M scope (s.heap.objs.size+1) s H fp) [] (ka ix σ) (upd H s.heap.objs.size (.lst [])) {s with heap:=h1}:=by
 have frees:∀y∈scope.names,y.2= .free->∃c,X.env.cells.lookup y.1=some c:=λy hy e=>I.ok.has y.1 (S.free y hy e)
 have clin:∀y c,(kH X.env.cells scope.names []).lookup y=some c->X.env.cells.lookup y=some c:=λy c h=>vd scope.names [] y c frees (λc hc=>by simp at hc) h
 have hfr:H s.heap.objs.size=none:=I.hok.fresh (aq _)
 have hclt:∀y c,(kH X.env.cells scope.names []).lookup y=some c->c<s.heap.objs.size:=λy c h=>by
  obtain⟨v,q⟩:=I.cell y c (clin y c h)
  exact q.lt
 refine⟨⟨I.ok.mod,S.kind,I.ok.glob,I.ok.blt,fP _,λy z c e1 e2=>I.ok.inj y z c (clin y c e1) (clin z c e2),λy hy=> ?_,λy c e _=>absurd (show false=true from e) (by simp),I.ok.hd,I.ok.frames,.inl rfl,
   λb hb=>⟨aQ (eJ (hft b hb)),λy c e=>(hf b hb).2.2.2.2.1 y c (clin y c e)⟩,I.bs,aZ I.ok.bsz I.sz,λb o e hb=> ?_,λb hb z=> ?_,I.stack,I.stkFree⟩,
  rfl,I.bare,Un.laid old (aq _) hfr,⟨λ_=>none,hns,λk y v e1 e2 e3=> ?_⟩,λy c e=> ?_,?_,λy c e=> ?_,λp hp=>absurd (show p∈([]:List (Addr×Obj))from hp) (by simp),?_,?_⟩
 ·exact qi scope.names [] y (pO (env:=X.env) hy S.nocell)
 ·rcases(hf b hb).2.2.2.1 with z|z
  ·exact I.ok.noex b o e z
  ·exact absurd (aU (aw e) (aZ I.ok.bsz z)) (cL _)
 ·exact(aA.mp (I.stkSub b z)).elim (hf b hb).2.1 (hf b hb).2.2.1
 · -- a captured name
  have hix:∃i,ix[k]? =some (some i)/\σ[i]? =some (some v):=by
   unfold ka at e2
   rw[aI]at e2
   cases q:ix[k]? with
   |none=>rw[q]at e2;cases e2
   |some o=>
    cases o with
    |none=>rw[q]at e2;cases e2
    |some i=>
     rw[q]at e2
     refine⟨i,rfl,?_⟩
     have e2':some ((σ[i]?).getD none)=some (some v):=e2
     have e3':=a8 e2'
     cases q2:σ[i]? with
     |none=>rw[q2]at e3';cases e3'
     |some z=>rw[q2]at e3';exact congrArg some e3'
  obtain⟨i,hi,hv⟩:=hix
  obtain⟨c1,c2,c3⟩:=S.capt k y i e1 hi
  obtain⟨m,hn,hl⟩:=I.loc
  obtain⟨u,r,l⟩:=hl i y v c1 hv (.inr c2)
  refine⟨u,r,?_⟩
  rcases l with⟨l,_⟩|⟨_,c,hc,hcell⟩
  ·exfalso
   have l':X.env.scope.names.lookup y=some .local:=l
   rcases c2 with c2|c2<;>(rw[l']at c2;cases c2)
  ·have hmem:(y,iX)∈scope.names:=PySem.mem_of_lookup c3
   obtain⟨c',hc'⟩:=qi (cells:=X.env.cells) scope.names [] y hmem
   have ecc:c'=c:=a8 ((clin y c' hc').symm.trans hc)
   subst ecc
   have hk:(relabel scope X.env).names.lookup y=some .cell\/(relabel scope X.env).names.lookup y=some .free:=by
    rw[vY,lr,c3]
    rcases uq (env:=X.env) (x:=y)with z|z
    ·exact .inl (congrArg some z)
    ·exact .inr (congrArg some z)
   obtain⟨oc,ho,hd⟩:=hcell
   exact .inr ⟨hk,c',hc',oc,old c' oc ho,hd⟩
 ·obtain⟨v,oc,ho,hd⟩:=I.cell y c (clin y c e)
  exact⟨v,oc,old c oc ho,hd⟩
 ·show upd H s.heap.objs.size (.lst []) (s.heap.objs.size+1)=none
  rw[bo (Nat.succ_ne_self _)]
  exact I.hok.fresh (fP _)
 ·show upd H s.heap.objs.size (.lst []) c=none
  rw[bo (aQ (hclt y c e))]
  exact I.freeC y c (clin y c e)
 ·exact I.hok.laid old (aq _) ⟨cg _,[],0,.nil,hD⟩
 ·show(ka ix σ).length=M.length
  unfold ka
  rw[aB,S.len]
theorem qf{pins:List (Addr×Obj)}{σ σ':St}{H H':Hp}{s s':af}{fp:List Addr}{C:Addr}(I:Inv X pins σ H s)(hC:s.heap.objs.size<=C)(hf:∀b∈fp,oA X pins H b)
  (I':Inv (bO X M scope C s H fp) [] σ' H' s') {h':Heap} (hb:dJ C s'.heap h'):Inv X pins σ H' {s' with heap:=h'}:=by
 have ne:∀b o,s.heap.get? b=some o->b≠C:=λb o e=>aQ (aU (aw e) hC)
 have k:∀b o,b≠C->s'.heap.get? b=some o->h'.get? b=some o:=λb o hn e=>hb.extBut b o hn e
 have u:Un (km X.stack) fp H H' s.heap s'.heap:=I'.base
 have hHC:H' C=none:=I'.free
 have u2:Un (km X.stack) fp H H' s.heap h':=by
  refine⟨λb o e n h1 h2=>k b o (ne b o e) (u.keep b o e n h1 h2),λb o e n h1 h2=> ?_,λb o e n h1=>u.free b o e n h1,λb o e h1=> ?_,u.tups,u.frzs,u.tbls⟩
  ·obtain⟨sl,q⟩:=u.slot b o e n h1 h2
   exact⟨sl,k b _ (ne b o e) q⟩
  ·obtain⟨o',q⟩:=u.there b o e h1
   exact⟨o',k b o' (ne b o e) q⟩
 have hok:HOk X.prog X.w H' h':=λb o e=>(I'.hok b o e).stay (λc v hc q=>k c v (λz=>by
  subst z
  rcases hc with z|z
  ·rw[<-z,hHC]at e;cases e
  ·rw[hHC]at z;cases z) q) (λ_ q=>q) λ_ _ q=>q
 exact I.call' (s':={s' with heap:=h'}) I'.os u2 hok I'.bare λb hb=>⟨(hf b hb).2.2.2.1,(hf b hb).2.1,(hf b hb).2.2.2.2.1,(hf b hb).2.2.2.2.2⟩
theorem AA{c:St}{j:Nat}{v:V}(h:c[j]? =some none):∀(i:Nat) (z:V),c[i]? =some (some z)->(c.set j (some v))[i]? =some (some z):=λi z e=>by
 by_cases hij:j=i
 ·subst hij;rw[h]at e;cases e
 ·rw[bW hij];exact e
theorem qh{elt iter:Expr}{px:Pos}{ifs:List Expr}{pos:Pos}{tf:TT}{te:TE}{pins:List (Addr×Obj)}{σ:St}{H:Hp}{s:af}{fp:List Addr}{it:Addr}{tn:Nat->Heap->Prop}{J:It}{h1:Heap}{tk:Nat}{Q:VK}{R:Result->af->Prop}
  (S:gK X.env.scope X.N scope M ix j x) (hc:X.calm=true) (I:Inv X pins σ H s)
  (hF:PF (bO X M scope (s.heap.objs.size+1) s H fp) ifs tf) (hE:PE (bO X M scope (s.heap.objs.size+1) s H fp) elt te)
  (T:qG X.prog X.w X.K (.Name x px) J fp it tn) (st:tn 0 s.heap) (hf:∀b∈fp,oA X pins H b)
  (I0:Inv (bO X M scope (s.heap.objs.size+1) s H fp) [] (ka ix σ) (upd H s.heap.objs.size (.lst [])) {s with heap:=h1,toks:=tk}) (old:∀b o,s.heap.get? b=some o->h1.get? b=some o)
  (q:Dc J ix j σ tf te Q H s.heap.objs.size)
  (hR:∀H' s',Inv (bO X M scope (s.heap.objs.size+1) s H fp) [] (ka ix σ) H' s'->Q (.ref s.heap.objs.size) H'->R (.ok .next) s'):
  codeAny (aN X.prog X.w) X.A (.compLoop (.ListComp elt [⟨.Name x px,iter,ifs,0⟩] scope pos) 0 (.ref it) (.ref s.heap.objs.size) (compEnvC scope (kH X.env.cells scope.names []) (s.heap.objs.size+1) X.env)) R {s with heap:=h1,toks:=tk}:=by
 obtain⟨W,⟨m0,w0⟩,turn⟩:=q
 have hD:s.heap.objs.size∉fp:=λz=>by
  obtain⟨o,e,_⟩:=T.obj 0 s.heap st _ z
  exact absurd (aw e) (cL _)
 have hlt:∀b∈fp,b<s.heap.objs.size:=λb hb=>by
  obtain⟨o,e,_⟩:=T.obj 0 s.heap st b hb
  exact aw e
 have stat:∀{H':Hp},(∀b∈fp,H' b=none)->∀b∈fp,oA (bO X M scope (s.heap.objs.size+1) s H fp) [] H' b:=λhn b hb=>
  ⟨hn b hb,aQ (eJ (hlt b hb)),I0.ok.exfs b hb,.inl hb,(I0.ok.exf b hb).2,λp hp=>absurd (show p∈([]:List (Addr×Obj))from hp) (by simp)⟩
 have own:=tj S.own σ
 refine mF rfl (λn s'=>∃i H',Inv (bO X M scope (s.heap.objs.size+1) s H fp) [] (ka ix σ) H' s'/\tn i s'.heap/\(∀b∈fp,H' b=none)/\W i n H') ?_ m0
  ⟨0,_,I0,T.keep 0 _ _ st λb _ o e=>old b o e,λb hb=>by rw[bo (aQ (hlt b hb))];exact(hf b hb).1,w0⟩
 rintro n s3 ⟨i,H3,I3,st3,fr3,w3⟩
 rcases turn i n H3 w3 with⟨stop,qn⟩|⟨go,step⟩
 ·refine aW (T.done (bO X M scope (s.heap.objs.size+1) s H fp) rfl rfl rfl hc i [] s3 (ka ix σ) H3 (λ_ _=>False) I3 (stat fr3) st3 stop) (λr s4 hPl=> ?_) (λ_ _ z=>z.elim)
  obtain⟨hr,I4⟩:=hPl
  subst hr
  exact hR H3 s4 I4 qn
 ·refine aW (T.item (bO X M scope (s.heap.objs.size+1) s H fp) rfl rfl rfl hc i [] s3 (ka ix σ) H3 (λ_ _=>False) I3 (stat fr3) st3 go) (λr s4 hPl=> ?_) (λ_ _ z=>z.elim)
  obtain⟨u,hr,h4⟩:=hPl
  subst hr
  refine aW h4 (λ_ s5 hPl=> ?_) (λ_ _ z=>z.elim)
  obtain⟨y,H5,I5,r5,y5,st5,fr5⟩:=hPl
  have I5':=I5.pinned (stat fr5) (T.obj _ _ st5)
  have pg:PG (bO X M scope (s.heap.objs.size+1) s H fp) (.Name x px) (pZ j):=
   oR S.nd S.tgt (.inl (by show(relabel scope X.env).names.lookup x=some .local;exact eP S.loc)) (.inr (by show(relabel scope X.env).names.lookup x=some .local;exact eP S.loc))
  refine aW (pg _ s5 (ka ix σ) H5 y u (λσ2 H2=>σ2=(ka ix σ).set j (some y)/\H2=H5) I5' r5 ⟨rfl,rfl⟩) (λ_ s6 hPl=> ?_) (λ_ _ z=>z.elim)
  obtain⟨σ6,H6,I6,e6,eh6⟩:=hPl
  subst e6;subst eh6
  have again:∀{H7:Hp} {s7:af},Inv (bO X M scope (s.heap.objs.size+1) s H fp) ([]++nq fp s5.heap) ((ka ix σ).set j (some y)) H7 s7->(∃m',m'<n/\W (i+1) m' H7)->
    ∃m,m<n/\∃i H',Inv (bO X M scope (s.heap.objs.size+1) s H fp) [] (ka ix σ) H' s7/\tn i s7.heap/\(∀b∈fp,H' b=none)/\W i m H':=fun{H7 s7} I7 ⟨m',hm,w7⟩=>by
   have Iw:Inv (bO X M scope (s.heap.objs.size+1) s H fp) [] (ka ix σ) H7 s7:=(Inv.unpinned (pins:=[]) I7).weak (by simp) (AA own)
   refine⟨m',hm,i+1,H7,Iw,T.keep _ _ _ st5 λb hb o e=>(I7.pin (b,o) (aT _ (aT _ (gI hb e)))).1,λb hb=> ?_,w7⟩
   obtain⟨o,e,d⟩:=T.obj _ _ st5 b hb
   exact(I7.pin (b,o) (aT _ (aT _ (gI hb e)))).2.1
  refine aW (hF _ s6 _ _ _ I6 (step y _ y5)) (λb s7 hPl=> ?_) (λ_ _ z=>z.elim)
  obtain⟨H7,I7,q7⟩:=hPl
  cases b with
  |false=>
   simp only[oh,if_false]at q7⊢
   exact again I7 q7
  |true=>
   simp only[if_true]at q7⊢
   refine aW (hE _ s7 _ H7 _ I7 q7) (λv s8 hPl=> ?_) (λ_ _ z=>z.elim)
   obtain⟨z,H8,I8,r8,ys,hy,hz,q8⟩:=hPl
   refine aW (nv (X:=bO X M scope (s.heap.objs.size+1) s H fp) _ s8 _ H8 (.ref s.heap.objs.size) [z] (.ref s.heap.objs.size) [v] (λ_ H'=>H'=upd H8 s.heap.objs.size (.lst (ys++[z]))) I8 rfl (.cons r8 .nil) ⟨s.heap.objs.size,ys,z,rfl,rfl,hy,hz,rfl⟩) (λw s9 hPl=> ?_) (λ_ _ z=>z.elim)
   obtain⟨_,H9,I9,_,e9⟩:=hPl
   subst e9
   exact again I9 q8
theorem Ef{elt iter:Expr}{px:Pos}{ifs:List Expr}{pos:Pos}{wi:TI}{tf:TT}{te:TE}(S:gK X.env.scope X.N scope M ix j x)(hc:X.calm=true)(hi:PI X (.Name x px) iter wi)
  (hb:∀C s H fp,PF (bO X M scope C s H fp) ifs tf/\PE (bO X M scope C s H fp) elt te) (hs:∀x,dI iter X.env x=pure x:=by intro _;rfl):
  PE X (.ListComp elt [⟨.Name x px,iter,ifs,0⟩] scope pos) (Ap wi ix j tf te):=by
 intro pins s σ H Q I h
 rw[eval_ListComp]
 refine kD (use:=none) rfl hs (iQ λy hy e=>I.ok.has y.1 (S.free y hy e)) S.kind S.names (aW (hi pins s σ H _ I h) (λxv s₁ h₁=>aW h₁ (λit s₂ h₂=> ?_) λ_ _ e=>e) λ_ _ e=>e)
 obtain⟨it,fp,tn,J,H2,rfl,I2,T,st2,f2,q⟩:=h₂
 refine bE (oo S.nocell (by intro y hy;simp at hy) (λh₁ hns₁ hsb₁=> ?_) S.kind)
 dsimp only at hns₁ hsb₁⊢
 have hC:(s₂.heap.push {cls:= .type "list",dict:=none,data:= .seq ([]:List ae).toArray}).objs.size=s₂.heap.objs.size+1:=cQ ..
 rw[hC]at hns₁ hsb₁⊢
 have below:∀b,b<s₂.heap.objs.size->b≠s₂.heap.objs.size+1:=λb hb=>aQ (eJ hb)
 have old:∀b o,s₂.heap.get? b=some o->h₁.get? b=some o:=λb o e=>hsb₁.extBut b o (below b (aw e)) (ai _ (ai _ e))
 have hD:h₁.get? s₂.heap.objs.size=some {cls:= .type "list",data:= .seq ([]:List ae).toArray 0}:=hsb₁.extBut _ _ (aQ (fZ _)) (ai _ (aH _ rfl))
 have ns:h₁.Ns (s₂.heap.objs.size+1) λ_=>none:=hns₁
 have hft:∀b∈fp,b<s₂.heap.objs.size:=λb hb=>by
  obtain⟨o,e,_⟩:=T.obj 0 s₂.heap st2 b hb
  exact aw e
 have I0:=(lA (h1:=h₁) S I2 f2 hft old hD ns).tok s₂.toks
 have hfr:H2 s₂.heap.objs.size=none:=I2.hok.fresh (aq _)
 have loop:codeAny (aN X.prog X.w) X.A (.compLoop (.ListComp elt [⟨.Name x px,iter,ifs,0⟩] scope pos) 0 (.ref it) (.ref s₂.heap.objs.size) (compEnvC scope (kH X.env.cells scope.names []) (s₂.heap.objs.size+1) X.env))
   (compPost (aN X.prog X.w) X.A X.xe none (EP X pins σ Q) (.ref s₂.heap.objs.size) (s₂.heap.objs.size+1)) {s₂ with heap:=h₁,toks:=s₂.toks}:=by
  refine qh (Q:=Q) S hc I2 (hb _ _ _ _).1 (hb _ _ _ _).2 T st2 f2 I0 old (q _ hfr) λH' s' I' qq=> ?_
  obtain⟨m,hn,_⟩:=I'.loc
  exact⟨m,hn,λh' hb'=>⟨.ref s₂.heap.objs.size,H',qf I2 (fP _) f2 I' hb',rfl,qq⟩⟩
 exact mH loop (T.self _ 0 _ _ _ (T.keep 0 _ _ st2 λb _ o e=>old b o e) loop)
end
section
variable{X:Cx}
noncomputable def Mp(z:Str):It:=⟨λi _=>i<z.cps.size,λi H x H'=>H'=H/\∃c,z.cps[i]? =some c/\x= .str ⟨#[c]⟩,λi _=>z.cps.size<=i⟩
theorem tL{P:aF}{w:aS}{K:PySem.W.Frag}{x:Str}{px:Pos}(it:Addr)(z:Str)(t:Tok)(ty:String)(hty:ty= "str_ascii_iterator" \/ty= "str_iterator"):
  qG P w K (.Name x px) (Mp z) [it] it (λi h=>h.IsStrIter it ty z t i/\i<=z.cps.size) where
 mem:=by simp
 obj:=λi h st b hb=>by
  have e:b=it:=by simpa using hb
  subst e
  obtain⟨⟨o,e,c,d⟩,_⟩:=st
  exact⟨o,e,λv z=>by rw[d]at z;cases z⟩
 keep:=λi h h' st k=>by
  obtain⟨⟨o,e,c,d⟩,z⟩:=st
  exact⟨⟨o,k it (by simp) o e,c,d⟩,z⟩
 item:=by
  intro X hP hw hK hc i pins s σ H E I hf st hg
  subst hP hw hK
  obtain⟨f0,f1,f2,f3,f4,f5⟩:=hf it (by simp)
  have hi:i<z.cps.size:=hg
  have fin:∀h':Heap,h'.IsStrIter it ty z t (i+1)->dJ it s.heap h'->∃u,some (iI ⟨#[z.cps[i]]⟩ s.toks)=some u/\
    wpAny (aN X.prog X.w) X.A (i0 (.Name x px) (.ref it) u) (λ_ s2=>∃x H',Inv X pins σ H' s2/\RelV x u/\(Mp z).yld i H x H'/\(s2.heap.IsStrIter it ty z t (i+1)/\i+1<=z.cps.size)/\∀b∈[it],H' b=none) E {s with heap:=h',toks:=s.toks+1}:=λh' st' sb=>by
   have I1:Inv X pins σ H {s with heap:=h',toks:=s.toks+1}:=I.turned (λb o hb e=>sb.extBut b o hb e) f0 f1 f3 f4 f5
   exact⟨_,rfl,am ⟨.str ⟨#[z.cps[i]]⟩,H,I1,⟨_,rfl⟩,⟨rfl,_,by simp[hi],rfl⟩,⟨st',hi⟩,λb hb=>(hf b hb).1⟩⟩
  rcases hty with rfl|rfl
  ·exact wpAny_pyNext_ascii_item st.1 (c:=z.cps[i]) (by simp[hi]) fin
  ·exact wpAny_pyNext_wide_item st.1 (c:=z.cps[i]) (by simp[hi]) fin
 done:=by
  intro X hP hw hK hc i pins s σ H E I hf st hg
  subst hP hw hK
  obtain⟨f0,f1,f2,f3,f4,f5⟩:=hf it (by simp)
  have hi:z.cps.size<=i:=hg
  rcases hty with rfl|rfl
  ·exact wpAny_pyNext_ascii_end (I.ok.hd hc) st.1 (by simpa using hi) λh' eb=>⟨rfl,I.turned (t':=s.toks) (λb o hb e=>eb b o hb e) f0 f1 f3 f4 f5⟩
  ·exact wpAny_pyNext_wide_end (I.ok.hd hc) st.1 (by simpa using hi) λh' eb=>⟨rfl,I.turned (t':=s.toks) (λb o hb e=>eb b o hb e) f0 f1 f3 f4 f5⟩
 self:=λ_ _ _ _ _ st h=>by
  rcases hty with rfl|rfl
  ·exact wpAny_pyIter_striter_ascii st.1 h
  ·exact wpAny_pyIter_striter_wide st.1 h
noncomputable def Nb:V->Option Int->Option Int->Hp->VK->Prop:=λx lo hi H Q=>∃z,x= .str z/\z.length<=aJ/\Q (.str (fD z lo hi)) H
theorem GM:Jr X Nb:=by
 intro pins s σ H x v vl vu lo hi sl Q I rx hs pl pu h
 obtain⟨z,rfl,hz,q⟩:=h
 obtain⟨t,rfl⟩:=rx
 obtain⟨l,el1,el2⟩:∃l:Option (Int×Tok),vl=partValue l/\l.map (·.1)=lo:=by
  cases pl with
  |none=>exact⟨none,rfl,rfl⟩
  |int i u=>exact⟨some (i,u),rfl,rfl⟩
 obtain⟨u,eu1,eu2⟩:∃u:Option (Int×Tok),vu=partValue u/\u.map (·.1)=hi:=by
  cases pu with
  |none=>exact⟨none,rfl,rfl⟩
  |int i u=>exact⟨some (i,u),rfl,rfl⟩
 subst el1 eu1 el2 eu2
 refine⟨"str",_,F.slot_str_getitem.lookup,typeIs_str _ _ _,?_⟩
 refine wpAny_getItem_str_slice (l:=l) (u:=u) (st:=none) hs rfl ?_
 exact post_val_or_str ⟨aZ (Txt.slice_le z _ _) hz,λt' k=>⟨.str (fD z (l.map (·.1)) (u.map (·.1))),H,I.tok k,⟨_,rfl⟩,q⟩⟩
noncomputable def ph(z:Str)(n:Nat):Str:=⟨(aE n z.cps).foldl (· ++·) #[]⟩
theorem rm(a:Array Nat):∀(n:Nat) (acc:Array Nat),((aE n a).foldl (· ++·) acc).size=acc.size+n*a.size
 |0,acc=>by simp
 |n+1,acc=>by
  rw[bF,List.foldl_cons,rm a n,oE,Nat.add_mul]
  ac_nf
theorem qx(z:Str)(n:Nat):(ph z n).length=z.length*n:=by
 show((aE n z.cps).foldl (· ++·) #[]).size=z.cps.size*n
 rw[rm,kK]
 simp
theorem wb:gW X (cx .Mult) (λx y H Q=>∃z i,x= .str z/\y= .int i/\1<=i/\i<=1000/\z.length<=10000/\Q (.str (if(i==1||z.length==0)=true then z else ph z i.toNat)) H):=by
 intro pins s σ H x y v u Q I rx ry h
 obtain⟨z,i,rfl,rfl,h1,h2,h3,q⟩:=h
 obtain⟨t,rfl⟩:=rx
 obtain⟨t',rfl⟩:=ry
 have hn:¬i<1:=by ac_nf
 have hsl:aJ=16777216:=by rw[fC]
 have hmul:z.length*i.toNat<=10000*1000:=Nat.mul_le_mul h3 (by ac_nf)
 refine P.mul_str (by rw[decide_eq_false (by ac_nf),decide_eq_false (by ac_nf)];rfl) (λ_ _=> ?_) (λ_ _=> ?_) ?_
 ·have hdiv:(10000:Int)<=(2^63-1)/i:=by
   have:=Int.le_ediv_of_mul_le (a:=10000) (b:=2^63-1) (c:=i) (by ac_nf) (by ac_nf)
   exact this
  ac_nf
 ·unfold bH.Str.tooLong
  rw[decide_eq_false (by ac_nf)]
 ·rw[if_neg hn]
  refine post_val_or_str ⟨?_,λt'' k=>⟨.str (if(i==1||z.length==0)=true then z else ph z i.toNat),H,I.tok k,⟨_,rfl⟩,q⟩⟩
  split
  ·ac_nf
  ·show(ph z i.toNat).length<=aJ
   rw[qx]
   ac_nf
theorem pz:∀{ys:List Str} {us:List ae},Vals (ys.map V.str) us->StrsAre us ys
 |[],us,h=>by
  cases us with
  |nil=>exact .nil
  |cons _ _=>cases h
 |y::ys,us,h=>by
  cases us with
  |nil=>cases h
  |cons u us=>
   cases h with
   |cons r t=>
    obtain⟨k,rfl⟩:=(show∃k,u=iI y k from r)
    exact .cons y k (pz t)
noncomputable def Kk(K:PySem.W.Frag):V->List V->Hp->VK->Prop:=λx vs H Q=>∃z p ys,x= .str z/\vs=[.ref p]/\SqL K H p (ys.map V.str)/\(ys.map (·.length)).sum+ys.length*z.length<=16777216/\Q (.str (kc z ys)) H
theorem EC:zT X "str.join" (Kk X.K):=by
 intro pins s σ H x xs v us Q I rx rs h
 obtain⟨z,p,ys,rfl,rfl,hq,hz,q⟩:=h
 obtain⟨t,rfl⟩:=rx
 obtain⟨u,rfl,ru⟩:=rs.one
 cases ru
 obtain⟨its,r,pl,_⟩:=I.list hq
 exact join_list pl.isList (by simpa using pz r) hz λt' k=>⟨.str (kc z ys),H,I.tok k,⟨_,rfl⟩,q⟩
noncomputable def Km(K:PySem.W.Frag):R2:=λx y H Q=>∃l b xs zs,x= .ref l/\y= .ref b/\SqL K H l xs/\SqL K H b zs/\xs.length+zs.length<=aJ/\∀p,H p=none->Q (.ref p) (upd H p (.lst (xs++zs)))
theorem sC:gW X (cx .Add) (Km X.K):=by
 intro pins s σ H x y v u Q I rx ry h
 obtain⟨l,b,xs,zs,rfl,rfl,hH,hB,hz,q⟩:=h
 cases rx
 cases ry
 obtain⟨its,r,pl,_⟩:=I.list hH
 obtain⟨its2,r2,pl2,_⟩:=I.list hB
 have l1:=r.length
 have l2:=r2.length
 obtain⟨⟨cls,dd,data,sl⟩,n,ho,hc,hd0,hd⟩:=pl
 obtain⟨⟨cls2,dd2,data2,Dd⟩,n2,ho2,hc2,hd02,hd2⟩:=pl2
 simp only at hc hd hc2 hd2
 subst hc hd hc2 hd2
 refine concat_meets ⟨_,ho,rfl⟩ ⟨_,ho2,rfl⟩ noFill_list_add seq_list_add PySem.F.slot_list_add PySem.F.entry_list_add (PySem.F.args_list_add_2 _ _)
  (list_addW l b its.toArray its2.toArray n n2 dd dd2 sl Dd (by rw[ap,ap];ac_nf)) ⟨ho,ho2,?_⟩
 have ea:its.toArray++its2.toArray=(its++its2).toArray:=by simp
 rw[ea]
 exact⟨.ref _,_,I.lnew (t':=s.toks) (r.append r2) (by rw[aM];ac_nf),rfl,q _ I.fresh⟩
noncomputable def Gq(i j:Int):Prop:=0<j/\j<=10^30
theorem Bf:gW X (cx .FloorDiv) (rI Gq λi j=> .int (i/j)):=Me λi j _ _ _ _ _ hc q=>by
 have h0:j≠0:=by have:=hc.1;ac_nf
 refine floordiv_int h0 ?_ (.inl (PyProof.noPylong_of_log2 ?_))
 ·rw[Int.fdiv_eq_ediv_of_nonneg _ (Int.le_of_lt hc.1)];exact q
 ·have h1:j.natAbs≠0:=by ac_nf
  have h2:j.natAbs<2^100:=by
   have h3:=hc.2
   have h4:=hc.1
   have e:(10:Int)^30<2^100:=by decide
   have h5:((j.natAbs:Nat):Int)=j:=by ac_nf
   ac_nf
  have:=(Nat.log2_lt h1).mpr h2
  ac_nf
end
section
variable{P:aF}{w:aS}{H:Hp}{h h':Heap}{a:Addr}{o:HO}
theorem ObjOk.stands(x:ObjOk P w H h a o):∃u,h.get? a=some u:=by
 cases o with
 |lst xs=>obtain⟨_,_,_,_,e⟩:=x;exact⟨_,e⟩
 |tup xs=>obtain⟨_,_,_,p⟩:=x;obtain⟨u,e,_⟩:=p;exact⟨u,e⟩
 |dK kvs=>obtain⟨_,_,_,_,u,_,_,e,_⟩:=x;exact⟨u,e⟩
 |dT kvs=>obtain⟨_,_,_,_,u,_,_,e,_⟩:=x;exact⟨u,e⟩
 |set S n=>obtain⟨u,_,_,_,e,_⟩:=x;exact⟨u,e⟩
 |ins C dx fs=>obtain⟨_,_,_,e,_⟩:=x;exact⟨_,e⟩
 |own y=>exact x
 |xd fs=>obtain⟨_,⟨u,_,_,e,_⟩,_⟩:=x;exact⟨u,e⟩
 |rng lo hi=>obtain⟨_,_,_,e⟩:=x;exact⟨_,e⟩
 |frz ob u=>obtain⟨e,_⟩:=x;exact⟨ob,e⟩
 |tbl ps=>exact⟨_,x⟩
 |met f y=>exact⟨_,x⟩
 |ext φ=>exact x.2.1
theorem HOk.none_of(x:HOk P w H h)(e:h.get? a=none):H a=none:=by
 cases q:H a with
 |none=>rfl
 |some u=>
  obtain⟨o,z⟩:=(x a u q).stands
  rw[e]at z;cases z
theorem HOk.laidN(x:HOk P w H h)(k:∀b u,h.get? b=some u->h'.get? b=some u)(hn:H a=none)(new:ObjOk P w (upd H a o) h' a o):HOk P w (upd H a o) h':=λb u e=>by
 by_cases hb:b=a
 ·subst hb;rw[cb]at e;cases e;exact new
 ·rw[bo hb]at e
  exact(x b u e).stay (λc v _ q=>k c v q) (λc q=>by rw[bo (bZ q hn)];exact q) λc xs q=>by rw[bo (bZ q hn)];exact q
theorem Un.laidN{fs ex:List Addr}(k:∀b u,h.get? b=some u->h'.get? b=some u)(hp:h.get? a=none)(hn:H a=none):Un fs ex H (upd H a o) h h' where
 keep:=λb u q _ _ _=>k b u q
 slot:=λb u q _ _ _=>⟨u.slots,k b u q⟩
 free:=λb u q n _=>by rw[bo (λz=>by subst z;rw[hp]at q;cases q)];exact n
 there:=λb u q _=>⟨u,k b u q⟩
 tups:=λb xs q=>by rw[bo (bZ q hn)];exact q
 frzs:=λb u xs q=>by rw[bo (bZ q hn)];exact q
 tbls:=λb ps q=>⟨#[],by rw[bo (bZ q hn),q];simp⟩
end
section
variable{X:Cx}
noncomputable def XAt(e C:Addr)(h:Heap):Prop:=∃ob,h.get? e=some ob/\ob.cls= .ref C
noncomputable def uV(e C:Addr):HO:= .ext (XAt e C)
theorem XAt.stay{e C:Addr}:∀h1 h2:Heap,XAt e C h1->(∀o,h1.get? e=some o->h2.get? e=some o)->XAt e C h2:=λ_ _ ⟨ob,h1,h2⟩ k=>⟨ob,k ob h1,h2⟩
noncomputable abbrev rD:List ae:=[.type "ValueError",.type "Exception",.type "BaseException",.type "object"]
theorem nK{K:PySem.W.Frag}{h:Heap}{C:Addr}{bmB:List ae}{newId:String}(XK:K.In h)(q:PySem.W.excIn K C bmB newId=true):
  ∃bm ns nm qn bs hd sn sub ab col dd k0 k1 k2 k3 k5,∃mN:Str->Option ae,h.get? C=some (excClassObj nm qn C ns bs bm hd sn sub ab col dd k0 k1 k2 k3 k5 newId)/\h.Ns ns mN/\mN "__init__" =none/\OwnTail h bmB bm:=by
 unfold PySem.W.excIn at q
 split at q
 ·rename_i dd cd sl ho
  split at q
  ·rename_i C' bm k0 k1 k2 k3 n k5 hm hs
   simp only[av,beq_iff_eq,gQ]at q
   obtain⟨⟨⟨⟨⟨e1,e2⟩,hdel⟩,ht⟩,hok⟩,hni⟩:=q
   subst e1 e2
   obtain⟨nm,bs,mro,ns,qn,hd,sn,sub,ab,col,del⟩:=cd
   dsimp only at hm hdel hok hni
   subst hm hdel
   have hsl:sl= #[k0,k1,k2,k3,some (.builtin n),k5]:=by
    obtain⟨l⟩:=sl
    have hs':l=[k0,k1,k2,k3,some (.builtin n),k5]:=hs
    rw[hs']
   subst hsl
   exact⟨bm,ns,nm,qn,bs,hd,sn,sub,ab,col,dd,k0,k1,k2,k3,k5,_,XK _ _ ho,.of_isNs (PySem.W.isNs_of_in XK hok),PySem.W.nsMap_none_of_in XK hok hni,PySem.W.tail_of_in XK ht⟩
  ·cases q
 ·cases q
theorem o6{M:Model}{e C:Addr}{h:Heap}(p:XAt e C h):PySem.W.Looks M h (typeOf (.ref e)) (.ref C):=by
 obtain⟨ob,h1,h2⟩:=p
 exact h2▸(PySem.W.Looks.ld h1).andThen .now
open Builtin Builtin.ObjectAttr Builtin.Getset_descriptor in
theorem Fo{K:PySem.W.Frag}{prog:aF}{w:aS}{A:Around}{R:Result->af->Prop}{s:af}{e C:Addr}{tp:ae}(XK:K.In s.heap)(p:XAt e C s.heap)(hm:PySem.W.mroIn K C (.type "object")=some true)
  (z:R (.ok (.ret (.ref C))) s):codeAny (aN prog w) A (.call (.builtin "getset_descriptor.__get__") ⟨[.builtin "object.__class__",.ref e,tp],[]⟩) R s:=by
 obtain⟨h0,g0,d0,t0,o0⟩:=s
 have T0:=o6 (M:=aN prog w) p
 have T1:=PySem.W.looks_mroIn (M:=aN prog w) XK hm
 refine codeAny_call_builtin PySem.W.KF.slot_gs.plain PySem.W.KF.entry_gs (PySem.W.KF.slot_gs.check _ _ _ _ _ _ _ _ PySem.W.KF.type_class (PySem.W.KF.args_gs _ _ _) ?_)
 unfold bH.«getset_descriptor.__get__»
 unfold descrGet
 rw[PySem.W.dga_obj]
 refine aa (am ?_)
 unfold descrGetter;unfold descrCheckInstance
 unfold descrNameAndClass;unfold isInstance
 simp only[PySem.W.KF.owner_class]
 repeat lk
 refine⟨Code.quiet_builtin _ (by decide+kernel),codeAny_builtin PySem.W.KF.entry_class ?_⟩
 unfold bH.«object.__class__»;unfold shownTypeOf
 repeat lk
 exact z
theorem zI{K:PySem.W.Frag}{prog:aF}{w:aS}{A:Around}{E:ae->af->Prop}{Q:Option ae->af->Prop}{s:af}{e C:Addr}
  (pg:PySem.W.findIn K (.ref C) "__getattribute__" =some (some (.builtin "BaseException.__getattribute__"))) (pt:PySem.W.findIn K (.ref C) "__getattr__" =some none)
  (hf:∀M:Model,PySem.W.Looks M s.heap (bH.ObjectAttr.find (.ref e) (.ref C) "__class__") (.bind (.builtin "getset_descriptor.__get__") (.builtin "object.__class__")))
  (hm:PySem.W.mroIn K C (.type "object")=some true) (hb:PySem.W.mroIn K C (.type "BaseException")=some true)
  (XK:K.In s.heap) (p:XAt e C s.heap) (k:Q (some (.ref C)) {s with toks:=s.toks+1}):wpAny (aN prog w) A (getAttr? (.ref e) "__class__") Q E s:=by
 obtain⟨h,g,d,t,os⟩:=s
 have L0:=o6 (M:=aN prog w) p
 have L1:=PySem.W.looks_findIn (M:=aN prog w) XK pg
 have L2:=PySem.W.looks_findIn (M:=aN prog w) XK pt
 have L3:=hf (aN prog w)
 have L4:=PySem.W.looks_mroIn (M:=aN prog w) XK hb
 have hx2:(jp "BaseException.__getattribute__" ==jp "object.__getattribute__")=false:=by decide+kernel
 have f3:=F.excAttr_ValueError.ga.bind (.ref e)
 unfold getAttr? getAttrBy? getAttrBy
 refine aa (wpAny_mkText (aa (kE (cH (aa (L0.at (aa (L1.at ?_))))))))
 show wpAny _ _ (if(onTheHeap (.ref C)&&jp "BaseException.__getattribute__" ==jp "object.__getattribute__")=true then _ else _) _ _ _
 rw[hx2,lK,if_neg bi]
 unfold getAttrByItsOwn
 refine aa ?_
 show wpAny _ _ (typeLookup (.ref C) "__getattr__") _ _ _
 refine L2.at ?_
 refine aa (kE (cH ?_))
 show wpAny _ _ (boundAndCalled _ _ _) _ _ _
 unfold boundAndCalled
 rw[f3]
 refine aa (am ?_)
 refine wpAny_call (codeAny_call_builtin F.excAttr_ValueError.ga.plain F.entry_bexc_ga ?_)
 have hk:builtinKind "BaseException.__getattribute__" =some .slot:=by decide+kernel
 have hsplit:splitId "BaseException.__getattribute__" =some ("BaseException", "__getattribute__"):=by decide+kernel
 have ha:=F.args_bexc_ga (.ref e) (.str "__class__" t)
 simp only[checkBuiltinCall,hk,hsplit]
 refine aa ?_
 unfold isInstance
 refine aa (L0.at (L4.at ?_))
 rw[if_neg (by decide)]
 refine om ha ?_
 show wpAny _ _ (bH.«object.__getattribute__» ⟨[.ref e,.str "__class__" t],[]⟩) _ _ _
 unfold bH.«object.__getattribute__»
 refine aa (om (a:=(au e,[iI "__class__" t])) rfl ?_)
 refine aa (am ?_)
 refine aa (L0.at (aa (L3.at ?_)))
 show wpAny _ _ (holding [jp "object.__class__"] (call (.builtin "getset_descriptor.__get__") [.builtin "object.__class__",.ref e,.ref C])>>=ret) _ _ _
 refine aa (cH (wpAny_call (Fo XK p hm ?_)))
 exact am (PySem.W.handed_on rfl (am k))
structure qK(K:PySem.W.Frag)(C:Addr):Prop where
 pg:PySem.W.findIn K (.ref C) "__getattribute__" =some (some (.builtin "BaseException.__getattribute__"))
 pt:PySem.W.findIn K (.ref C) "__getattr__" =some none
 hb:PySem.W.mroIn K C (.type "BaseException")=some true
 ci:(PySem.W.clsIn K C).isSome=true
 ha:PySem.W.findIn K (.ref C) "__class__" =some (some (.builtin "object.__class__"))
 hn:PySem.W.specialIn K (.builtin "object.__class__") "__get__" =some (some (.builtin "getset_descriptor.__get__"))
 htk:PySem.W.takesIn K (.builtin "object.__class__")=some true
 hm:PySem.W.mroIn K C (.type "object")=some true
theorem uI{K:PySem.W.Frag}{e C:Addr}(Z:qK K C):PySem.W.KitX K (.ref e) (.ref C) (XAt e C) where
 ty:=λ_ _ _ p=>o6 p
 it:=λ_ _ XK _=>by
  obtain⟨cd,hc⟩:=jd.mp Z.ci
  unfold PySem.W.clsIn at hc
  split at hc
  ·rename_i ho
   intro A' Q' E' s' k q
   unfold isType loadHead
   exact aa (wpAny_loadPart (k _ _ (XK _ _ ho)) (am q))
  ·cases hc
 ne:=λh tp dd its n sl XK htp=>by
  obtain⟨cd,hc⟩:=jd.mp Z.ci
  refine Bool.eq_false_iff.mpr λq=> ?_
  have ee:C=tp:=au.inj (beq_iff_eq.mp q)
  subst ee
  unfold PySem.W.clsIn at hc
  split at hc
  ·rename_i ho
   have z:=(XK _ _ ho).symm.trans htp
   cases z
  ·cases hc
 ca:=fun{prog w A E Q s} XK p k=>zI Z.pg Z.pt (λM=>(PySem.W.looks_findIn XK Z.ha).andThen ((PySem.W.looks_specialIn XK Z.hn).andThen ((show PySem.W.Looks M s.heap (bH.ObjectAttr.dataDescriptor? (some (.builtin "object.__class__")) (some (.builtin "getset_descriptor.__get__"))) (some (_,_))from(PySem.W.looks_takesIn XK Z.htk).andThen .now).andThen (PySem.W.Looks.tag .now)))) Z.hm Z.hb XK p k
noncomputable def JP:V->Option ae
 | .ref a=>some (.ref a)
 | .ty n=>some (.type n)
 |_=>none
theorem mL:gE X (.builtin "isinstance") (λxs H Q=>∃e C c cv b,xs=[.ref e,c]/\H e=some (uV e C)/\qK X.K C/\JP c=some cv/\PySem.W.kitOne X.K (.ref C) cv=some b/\Q (.bl b) H):=by
 intro pins s σ H xs us Q I rs h
 obtain⟨e,C,c,cv,b,rfl,he,Z,hv,hk,q⟩:=h
 obtain⟨u,v,rfl,ru,rv⟩:=rs.two
 cases ru
 have ev:v=cv:=by
  cases c<;>first
   |(cases hv;exact rv)
   |(exact absurd hv (by simp[JP]))
 subst ev
 have p:XAt e C s.heap:=(I.hok e _ he).1
 exact PySem.W.kia_one (uI Z) I.kIn p hk (λz=>nomatch z) λtk=>⟨.bl b,H,I.tok tk,rfl,q⟩
end
noncomputable def fq(sc:e8)(N:List Str)(scope:e8)(M:List Str)(ix:List (Option Nat))(j:Nat)(x:Str):Bool:=
 scope.kind== .function
 &&scope.names.all (λy=>if y.2== .local then scope.names.lookup y.1==some .local else true)
 &&scope.names.all (λy=>y.2 != .cell)
 &&decide M.Nodup
 &&M[j]? ==some x
 &&scope.names.lookup x==some .local
 &&ix[j]? ==some none
 &&ix.length==M.length
 &&scope.names.all (λy=>if y.2== .free then(sc.names.lookup y.1==some .cell||sc.names.lookup y.1==some .free)else true)
 &&(dC M.length).all (λk=>match M[k]?,ix[k]? with
  |some y,some (some i)=>N[i]? ==some y&&(sc.names.lookup y==some .cell||sc.names.lookup y==some .free)&&scope.names.lookup y==some .free
  |_,_=>true)
theorem Cw{sc:e8}{N:List Str}{scope:e8}{M:List Str}{ix:List (Option Nat)}{j:Nat}{x:Str}(h:fq sc N scope M ix j x=true):gK sc N scope M ix j x:=by
 unfold fq at h
 simp only[av]at h
 obtain⟨⟨⟨⟨⟨⟨⟨⟨⟨h1,h2⟩,h3⟩,h4⟩,h5⟩,h6⟩,h7⟩,h8⟩,h9⟩,h10⟩:=h
 refine⟨beq_iff_eq.mp h1,λy hy e=> ?_,λy hy e=> ?_,of_decide_eq_true h4,beq_iff_eq.mp h5,beq_iff_eq.mp h6,beq_iff_eq.mp h7,beq_iff_eq.mp h8,λy hy e=> ?_,λk y i e1 e2=> ?_⟩
 ·have q:=bv.mp h2 y hy
  rw[e]at q
  exact beq_iff_eq.mp q
 ·have q:=bv.mp h3 y hy
  rw[e]at q
  cases q
 ·have q:=bv.mp h9 y hy
  rw[e]at q
  rcases Bool.or_eq_true_iff.mp q with z|z
  ·exact .inl (beq_iff_eq.mp z)
  ·exact .inr (beq_iff_eq.mp z)
 ·have hk:k<M.length:=(aj.mp e1).1
  have q:=bv.mp h10 k (lH.mpr hk)
  rw[e1,e2]at q
  simp only[av,Bool.or_eq_true]at q
  obtain⟨⟨q1,q2⟩,q3⟩:=q
  refine⟨beq_iff_eq.mp q1,?_,beq_iff_eq.mp q3⟩
  rcases q2 with z|z
  ·exact .inl (beq_iff_eq.mp z)
  ·exact .inr (beq_iff_eq.mp z)
section
end
section
variable{X:Cx}{scope:e8}{M:List Str}{ix:List (Option Nat)}{j:Nat}{x:Str}
theorem DS{elt iter:Expr}{px py pos spos:Pos}{ifs:List Expr}{wi:TI}{tf:TT}{te:TE}{i:Nat}{y:Str}(hN:X.N.Nodup)(hi:X.N[i]? =some y)(hy:X.env.scope.names.lookup y=some .local)
  (S:gK X.env.scope X.N scope M ix j x) (hc:X.calm=true) (hit:PI X (.Name x px) iter wi)
  (hb:∀C s H fp,PF (bO X M scope C s H fp) ifs tf/\PE (bO X M scope C s H fp) elt te)
  (hsw:eN (.ListComp elt [⟨.Name x px,iter,ifs,0⟩] scope pos) (some (.Name y py)) spos.line X.env=pure true:=by rfl) (hs:∀x,dI iter X.env x=pure x:=by intro _;rfl):
  PS X (.Assign [.Name y py] (.ListComp elt [⟨.Name x px,iter,ifs,0⟩] scope pos) spos) (GG (Ap wi ix j tf te) (pZ i)):=by
 intro pins s σ H D I h
 rw[exec_Assign_Name_used _ _ _ _ hsw]
 refine aa (wpAny_standAt (aa ?_))
 show wpAny _ X.A (do let _ <-comprehension (.ListComp elt [⟨.Name x px,iter,ifs,0⟩] scope pos) scope X.env _ (newList []) false (eval iter X.env) (some (assign (.Name y py) X.env))) _ _ s
 refine aa (aW (kD (use:=some (assign (.Name y py) X.env)) (Q:=λ_ s'=>SP X pins D .next s') rfl hs (iQ λy hy e=>I.ok.has y.1 (S.free y hy e)) S.kind S.names
  (aW (hit pins s σ H _ I h) (λxv s₁ h₁=>aW h₁ (λit s₂ h₂=> ?_) λ_ _ e=>e) λ_ _ e=>e)) (λ_ s' hq=>am (am hq)) λ_ _ e=>e)
 obtain⟨it,fp,tn,J,H2,rfl,I2,T,st2,f2,q⟩:=h₂
 refine bE (oo S.nocell (by intro y hy;simp at hy) (λh₁ hns₁ hsb₁=> ?_) S.kind)
 dsimp only at hns₁ hsb₁⊢
 have hC:(s₂.heap.push {cls:= .type "list",dict:=none,data:= .seq ([]:List ae).toArray}).objs.size=s₂.heap.objs.size+1:=cQ ..
 rw[hC]at hns₁ hsb₁⊢
 have below:∀b,b<s₂.heap.objs.size->b≠s₂.heap.objs.size+1:=λb hb=>aQ (eJ hb)
 have old:∀b o,s₂.heap.get? b=some o->h₁.get? b=some o:=λb o e=>hsb₁.extBut b o (below b (aw e)) (ai _ (ai _ e))
 have hD:h₁.get? s₂.heap.objs.size=some {cls:= .type "list",data:= .seq ([]:List ae).toArray 0}:=hsb₁.extBut _ _ (aQ (fZ _)) (ai _ (aH _ rfl))
 have hft:∀b∈fp,b<s₂.heap.objs.size:=λb hb=>by
  obtain⟨o,e,_⟩:=T.obj 0 s₂.heap st2 b hb
  exact aw e
 have I0:=(lA (h1:=h₁) S I2 f2 hft old hD hns₁).tok s₂.toks
 have hfr:H2 s₂.heap.objs.size=none:=I2.hok.fresh (aq _)
 have loop:codeAny (aN X.prog X.w) X.A (.compLoop (.ListComp elt [⟨.Name x px,iter,ifs,0⟩] scope pos) 0 (.ref it) (.ref s₂.heap.objs.size) (compEnvC scope (kH X.env.cells scope.names []) (s₂.heap.objs.size+1) X.env))
   (compPost (aN X.prog X.w) X.A X.xe (some (assign (.Name y py) X.env)) (λ_ s'=>SP X pins D .next s') (.ref s₂.heap.objs.size) (s₂.heap.objs.size+1)) {s₂ with heap:=h₁,toks:=s₂.toks}:=by
  refine qh (Q:=λv H'=>pZ i v σ H' D.nx) S hc I2 (hb _ _ _ _).1 (hb _ _ _ _).2 T st2 f2 I0 old (q _ hfr) λH' s' I' qq=> ?_
  show wpAny _ X.A (assign (.Name y py) X.env (.ref s₂.heap.objs.size)) _ _ s'
  have J1:Inv X pins σ H' s':=qf (h':=s'.heap) I2 (fP _) f2 I' (.refl ..)
  obtain⟨m,hn,_⟩:=I'.loc
  obtain⟨oC,es,ep,hoC,hd,hrest⟩:=id hn
  have nL:s₂.heap.objs.size+1≠X.env.locals:=iS (eJ I2.lt)
  have nF:s₂.heap.objs.size+1∉X.fs:=I2.nofs (fP _)
  have hHC:H' (s₂.heap.objs.size+1)=none:=I'.free
  have J2:Inv X (pins++[(s₂.heap.objs.size+1,oC)]) σ H' s':=J1.pins_of λp hp=>(bj.mp hp).elim (λz=>J1.pin p (aT _ z)) λz=>by
   have e:p=(s₂.heap.objs.size+1,oC):=aC.mp z
   subst e
   exact⟨hoC,hHC,nL,nF,λv z=>by rw[hd]at z;cases z⟩
  refine wpAny_assign_Name (jQ (v:= .ref s₂.heap.objs.size) J2 hN hi (.inl hy) rfl (λs'' J3=> ?_) (.inr hy))
  have hoC2:s''.heap.get? (s₂.heap.objs.size+1)=some oC:=(J3.pin (s₂.heap.objs.size+1,oC) (aT _ (aT _ (aC.mpr rfl)))).1
  refine⟨m,⟨oC,es,ep,hoC2,hd,hrest⟩,λh' hb'=> ?_⟩
  have J4:Inv X pins (σ.set i (some (.ref s₂.heap.objs.size))) H' s'':=J3.unpinned
  refine⟨_,H',J4.turned (t':=s''.toks) (it:=s₂.heap.objs.size+1) (λb o hne e=>hb'.extBut b o hne e) hHC nL (.inr (aZ I2.sz (fP _))) (λz c e1 e2=> ?_) (λp hp e2=> ?_),qq⟩
  ·obtain⟨v,qc⟩:=I2.cell z c e1
   have:=qc.lt
   rw[e2]at this
   exact absurd (Nat.lt_of_succ_lt this) (cL _)
  ·have:=aw (I2.pin p hp).1
   rw[e2]at this
   exact absurd (Nat.lt_of_succ_lt this) (cL _)
 exact mH loop (T.self _ 0 _ _ _ (T.keep 0 _ _ st2 λb _ o e=>old b o e) loop)
end
end L2
namespace HT
open PySem PyProof.Rows
section
variable{prog:aF}{w:aS}{A:Around}{E:ae->af->Prop}{s:af}
theorem wQ(n:Nat):dG none none (-1) (n:Int)=((n:Int)-1,-1):=rfl
theorem v6(n:Nat):bN ((n:Int)-1) (-1) (-1)=n:=by
 unfold bN
 rw[if_neg (by decide)]
 by_cases h:((n:Int)-1> -1)
 ·rw[if_pos h,show(-(-1:Int))=1 from rfl,Int.ediv_one]
  ac_nf
 ·rw[if_neg h]
  ac_nf
theorem ni{sl:Addr}{t:Tok}{n:Nat}{Q:Int×Int×Nat->af->Prop}(hs:s.heap.IsSliceOf sl .none .none (.int (-1) t))(h:Q ((n:Int)-1,-1,n) s):
  wpAny (aN prog w) A (fj (.ref sl) (pure (n:Int))) Q E s:=by
 obtain⟨os,hos,hcs,hds⟩:=id hs
 unfold fj og
 refine aa (aa (bu hos hds (x:= .none) rfl (aa (bu hos hds (x:= .none) rfl (aa (bu hos hds (x:= .int (-1) t) rfl (am ?_)))))))
 refine aa (ip (.int (-1) t) ?_)
 show wpAny _ _ (if((-1:Int)==0)=true then _ else _) _ _ s
 rw[if_neg (by decide)]
 refine aa (ip .none (aa (ip .none (aa (am ?_)))))
 show wpAny _ _ (match dG none none (-1) (n:Int)with|(lo,hi)=>pure (lo,(-1:Int),bN lo hi (-1))) _ _ s
 rw[wQ n]
 show wpAny _ _ (pure ((n:Int)-1,(-1:Int),bN ((n:Int)-1) (-1) (-1))) _ _ s
 rw[v6]
 exact am h
theorem pick_rev(xs:Array ae):((dC xs.size).filterMap fun(m:Nat)=>xs[(((xs.size:Nat):Int)-1+(m:Int)*(-1)).toNat]?).toArray=xs.toList.reverse.toArray:=by
 congr 1
 have e:∀k,k<=xs.size->((dC k).filterMap fun(m:Nat)=>xs[(((xs.size:Nat):Int)-1+(m:Int)*(-1)).toNat]?)=xs.toList.reverse.take k:=by
  intro k
  induction k with
  |zero=>intro _;rfl
  |succ k ih=>
   intro hk
   have hlt:xs.size-1-k<xs.size:=by ac_nf
   have e1:(((xs.size:Nat):Int)-1+(k:Int)*(-1)).toNat=xs.size-1-k:=by ac_nf
   rw[List.range_succ,gZ,ih (by ac_nf),cO]
   congr 1
   have hl:k<xs.toList.reverse.length:=by simp;ac_nf
   have g:xs.toList.reverse[k]? =some xs[xs.size-1-k]:=by
    rw[List.getElem?_reverse (by simpa using(show k<xs.size by ac_nf))]
    simp[hlt]
   rw[g]
   have gg:xs[(((xs.size:Nat):Int)-1+(k:Int)*(-1)).toNat]? =some xs[xs.size-1-k]:=by rw[e1];simp[hlt]
   rw[cW,gg]
   rfl
 have:=e xs.size (aq _)
 rw[this,List.take_of_length_le (by simp)]
theorem getItem_tuple_rev{t sl:Addr}{items:Array ae}{k:Tok}{Q:ae->af->Prop}(ht:IsTup s.heap t items)(hs:s.heap.IsSliceOf sl .none .none (.int (-1) k))
  (h:Q (.ref s.heap.objs.size) {s with heap:=s.heap.push {cls:= .type "tuple",data:= .seq items.toList.reverse.toArray}})
  (hsz:items.size<=aJ):wpAny (aN prog w) A (ii (.ref t) (.ref sl)) Q E s:=by
 have hsize:sizeOk (.seq items.toList.reverse.toArray):=by
  show items.toList.reverse.toArray.size<=aJ
  rw[ap,cf,cS]
  exact hsz
 obtain⟨os,hos,hcs,hds⟩:=id hs
 have hTs:s.TypeIs (.ref sl) "slice" :=⟨os,hos,hcs⟩
 unfold ii
 try with_reducible refine cH ?_
 first|refine aa (am ?_)|skip
 refine aa (rT ht.typeIs (by decide) ?_)
 refine aa (cq (name:=aY "__getitem__") ht.typeIs bf
  (c9 bf ht.typeIs qa ?_ (qF _ _)))
 show wpAny _ _ (hZ (.ref t)>>=_) _ _ s
 refine aa (tupleItemsOf_ ht ?_)
 refine aa (je hTs ?_)
 rw[if_pos (by decide)]
 refine aa (ni hs ?_)
 show wpAny _ _ (if((((items.size:Nat):Int)-1)==0&&(-1:Int)==1&&items.size==items.size)=true then _ else _) _ _ s
 rw[if_neg (by intro q;rw[av,av]at q;exact absurd q.1.2 (by decide)),pick_rev]
 first
  |exact aa (m:=bV _) (bE (am ⟨_,rfl,am h⟩) hsize)
  |exact aa (m:=bV _) (bE (aa (am (am ⟨_,rfl,am h⟩))) hsize)
  |exact aa (aa (m:=bV _) (bE (am (am ⟨_,rfl,am h⟩)) hsize))
  |exact aa (aa (m:=bV _) (bE (am ⟨_,rfl,am h⟩) hsize))
end
end HT
namespace L2
open PySem PySem.Spec PyProof.Rows
section
end
end L2
namespace PySem
open Sem (wp)
open Builtin Builtin.List Builtin.Tuple
namespace AutoSeq1
set_option maxRecDepth 8000 in
theorem extend_tup(l:Addr)(items:Array ae)(n:Nat)(b:Addr)(items2:Array ae)(n2:Nat)(dd:Option Addr)(sl:Array (Option ae))(c0:¬(!items.isEmpty&&cY (items.size+items2.size))=true)(c1:items.size<=aJ)(c2:items.size+items2.size<=aJ+1):
  Meets (bH.«list.extend» ⟨[.ref l,.ref b],[]⟩) (λ_ R s=>s.heap.get? l=some {cls:= .type "list",dict:=none,data:= .seq items n,slots:= #[]}/\s.heap.get? b=some ⟨.type "tuple",dd,.seq items2 n2,sl⟩/\R (.ok (.ret bc)) {s with heap:=s.heap.update l (eM λx=>x++items2)}):=
 .of_wp λprog w A R s h=>by
  obtain⟨hp,g,d,tk,os⟩:=s
  obtain⟨hl,hb,h⟩:=h
  have f1:=idx_int
  have f2:=sub_tuple_tuple
  have f3:=sub_list_list
  have f4:=sub_tuple_list
  have f5:=sub_list_tuple
  have big:(items++items2).size<=aJ+1:=by rw[oE];exact c2
  wp_walk using(mV hl rfl (hz:=c1) (_hz':=big)),wpAny_loadPart' hl,wpAny_loadPart' hb
  exact⟨_,rfl,h⟩
end AutoSeq1
end PySem
namespace L2
open PySem PySem.Spec PyProof.Rows
section
variable{X:Cx}
noncomputable def AU(K:PySem.W.Frag):V->List V->Hp->VK->Prop:=λx vs H Q=>∃l b xs zs,x= .ref l/\vs=[.ref b]/\H l=some (.lst xs)/\SqT K H b zs/\xs.length+zs.length<=aJ/\Q .non (upd H l (.lst (xs++zs)))
theorem wl:Mn X "list.extend" (AU X.K):=by
 intro pins s σ H x vs v us Q I rx rv h
 obtain⟨l,b,xs,zs,rfl,rfl,hH,hB,hz,q⟩:=h
 cases rx
 obtain⟨u,rfl,ru⟩:=rv.one
 cases ru
 obtain⟨z,its,n,r,hl,e⟩:=I.lstM hH
 obtain⟨its2,r2,tp,hz2⟩:=I.tuple hB
 have hl2:=r2.length
 obtain⟨⟨cls,dd,data,sl⟩,ho,hc,n2,hd⟩:=tp
 simp only at hc hd
 subst hc hd
 have hsz:its.toArray.size+its2.toArray.size<=aJ:=by rw[ap,ap];ac_nf
 have hlong:¬(!its.toArray.isEmpty&&cY (its.toArray.size+its2.toArray.size))=true:=by
  rw[pI hsz,lK]
  exact bi
 refine eU F.slot_list_extend ⟨_,e,rfl⟩ F.entry_list_extend (F.args_list_extend_2 _ _) (AutoSeq1.extend_tup l its.toArray n b its2.toArray n2 dd sl hlong (by rw[ap];ac_nf) (by ac_nf)) ⟨e,ho,?_⟩
 refine⟨.non,_,I.lset (t':=s.toks) (its':=its++its2) hH e (by simp) (r.append r2) ?_,rfl,q⟩
 rw[aM]
 ac_nf
end
section
variable{κ:Type}[DecidableEq κ]
noncomputable def oq(kvs:List (κ×V))(k:κ):Option V:=(kvs.find? λkv=>decide (kv.1=k)).map (·.2)
noncomputable def jx(kvs:List (κ×V))(k:κ)(v:V):List (κ×V):=
 if(kvs.any λkv=>decide (kv.1=k))=true then kvs.map (λkv=>if kv.1=k then(kv.1,v)else kv)else kvs++[(k,v)]
theorem lU{p:κ×V}{r:List (κ×V)}{k:κ}(e:p.1=k):oq (p::r) k=some p.2:=by simp[oq,eA,e]
theorem lV{p:κ×V}{r:List (κ×V)}{k:κ}(e:¬p.1=k):oq (p::r) k=oq r k:=by simp[oq,eA,e]
theorem tJ(k:κ):∀kvs:List (κ×V),(kvs.any λkv=>decide (kv.1=k))=(oq kvs k).isSome
 |[]=>rfl
 |p::r=>by
  rw[cK]
  by_cases e:p.1=k
  ·simp only[lU e,decide_eq_true e,Bool.true_or,Option.isSome_some]
  ·rw[lV e,decide_eq_false e,Bool.false_or];exact tJ k r
theorem jZ(kvs:List (κ×V))(k:κ)(v:V):(jx kvs k v).length<=kvs.length+1:=by
 unfold jx
 split
 ·rw[aB];ac_nf
 ·rw[aM,aX,iw];ac_nf
theorem RelO.isSome_eq{o:Option V}{u:Option ae}(r:RelO o u):o.isSome=u.isSome:=by
 cases o with
 |none=>cases u with
  |none=>rfl
  |some _=>exact(show False from r).elim
 |some _=>cases u with
  |none=>exact(show False from r).elim
  |some _=>rfl
theorem RelO.getD{o:Option V}{u:Option ae}{d:V}{d':ae}(r:RelO o u)(rd:RelV d d'):RelV (o.getD d) (u.getD d'):=by
 cases o with
 |none=>cases u with
  |none=>exact rd
  |some _=>exact(show False from r).elim
 |some _=>cases u with
  |none=>exact(show False from r).elim
  |some _=>exact r
theorem KV.val{kvs:List (κ×V)}{vs:List (κ×ae)}(r:KV kvs vs)(k:κ):RelO (oq kvs k) (valueAt vs k):=by
 unfold KV at r
 induction r with
 |nil=>exact ck
 | @cons p q ps qs h t ih=>
  obtain⟨h1,h2⟩:=h
  by_cases e:p.1=k
  ·have e':q.1=k:=h1.symm.trans e
   have b:valueAt (q::qs) k=some q.2:=by simp[valueAt,eA,e']
   rw[lU e,b];exact h2
  ·have e':¬q.1=k:=λz=>e (h1.trans z)
   have b:valueAt (q::qs) k=valueAt qs k:=by simp[valueAt,eA,e']
   rw[lV e,b];exact ih
theorem KV.any{kvs:List (κ×V)}{vs:List (κ×ae)}(r:KV kvs vs)(k:κ):(kvs.any λkv=>decide (kv.1=k))=vs.any λkv=>decide (kv.1=k):=by
 unfold KV at r
 induction r with
 |nil=>rfl
 |cons h t ih=>rw[cK,cK,ih,h.1]
theorem KV.repl{kvs:List (κ×V)}{vs:List (κ×ae)}(r:KV kvs vs)(k:κ){y:V}{u:ae}(ry:RelV y u):
  KV (kvs.map λkv=>if kv.1=k then(kv.1,y)else kv) (vs.map λkv=>if kv.1=k then(kv.1,u)else kv):=by
 unfold KV at r⊢
 induction r with
 |nil=>exact .nil
 | @cons p q ps qs h t ih=>
  rw[aD,aD]
  refine .cons ?_ ih
  obtain⟨h1,h2⟩:=h
  by_cases e:p.1=k
  ·rw[if_pos e,if_pos (h1.symm.trans e)];exact⟨h1,ry⟩
  ·rw[if_neg e,if_neg (λz=>e (h1.trans z))];exact⟨h1,h2⟩
theorem KV.put{kvs:List (κ×V)}{vs:List (κ×ae)}(r:KV kvs vs)(k:κ){y:V}{u:ae}(ry:RelV y u):KV (jx kvs k y) (stored vs k u):=by
 unfold jx stored
 rw[r.any k]
 by_cases e:(vs.any λkv=>decide (kv.1=k))=true
 ·rw[if_pos e,if_pos e];exact r.repl k ry
 ·rw[if_neg e,if_neg e];exact Paired.snoc r ⟨rfl,ry⟩
theorem KV.keys{kvs:List (κ×V)}{vs:List (κ×ae)}(r:KV kvs vs):kvs.map (·.1)=vs.map (·.1):=by
 unfold KV at r
 induction r with
 |nil=>rfl
 |cons h t ih=>rw[aD,aD,ih,h.1]
theorem KV.length{kvs:List (κ×V)}{vs:List (κ×ae)}(r:KV kvs vs):kvs.length=vs.length:=Paired.length r
end
theorem uK{P:aF}{w:aS}{k:Key}{u:ae}(r:RelV (kV k) u):(mixKind P w).is k u=true:=by
 cases k with
 |inl i=>obtain⟨t,e⟩:=(show∃t,u=dz i t from r);subst e;exact uC P w i t
 |inr x=>obtain⟨t,e⟩:=(show∃t,u=iI x t from r);subst e;exact uB P w x t
theorem rj{P:aF}{w:aS}:∀{ks:List Key} {us:List ae},Vals (ks.map kV) us->ItemsAre (mixKind P w) ks us
 |[],_,r=>by rw[kz]at r;cases r;exact .nil
 |k::ks,_,r=>by
  rw[aD]at r
  cases r with
  |cons h t=>exact .cons (uK h) (rj t)
noncomputable abbrev KT(H:Hp):List (List Key×V)->List (List Key×Addr×ae)->Prop:=Paired λp q=>p.1=q.1/\H q.2.1=some (.tup (p.1.map kV))/\RelV p.2 q.2.2
theorem KT.val{H:Hp}{kvs:List (List Key×V)}{xs:List (List Key×Addr×ae)}(r:KT H kvs xs)(k:List Key):RelO (oq kvs k) ((atKey xs k).map (·.2)):=by
 induction r with
 |nil=>exact ck
 | @cons p q ps qs h t ih=>
  obtain⟨h1,_,h2⟩:=h
  by_cases e:p.1=k
  ·have e':q.1=k:=h1.symm.trans e
   have b:atKey (q::qs) k=some q.2:=by simp[atKey,eA,e']
   rw[lU e,b];exact h2
  ·have e':¬q.1=k:=λz=>e (h1.trans z)
   have b:atKey (q::qs) k=atKey qs k:=by simp[atKey,eA,e']
   rw[lV e,b];exact ih
theorem KT.repl{H:Hp}{kvs:List (List Key×V)}{xs:List (List Key×Addr×ae)}(r:KT H kvs xs)(k:List Key){y:V}{u:ae}(ry:RelV y u):
  KT H (kvs.map λkv=>if kv.1=k then(kv.1,y)else kv) (xs.map (putAt k u)):=by
 induction r with
 |nil=>exact .nil
 | @cons p q ps qs h t ih=>
  rw[aD,aD]
  refine .cons ?_ ih
  obtain⟨h1,h2,h3⟩:=h
  unfold putAt
  by_cases e:p.1=k
  ·rw[if_pos e,if_pos (h1.symm.trans e)];exact⟨h1,h2,ry⟩
  ·rw[if_neg e,if_neg (λz=>e (h1.trans z))];exact⟨h1,h2,h3⟩
theorem KT.put{H:Hp}{kvs:List (List Key×V)}{xs:List (List Key×Addr×ae)}(r:KT H kvs xs)(k:List Key){b:Addr}{y:V}{u:ae}(hb:H b=some (.tup (k.map kV)))(ry:RelV y u):
  KT H (jx kvs k y) (storedH xs k b u):=by
 have e:(kvs.any λkv=>decide (kv.1=k))=(atKey xs k).isSome:=by
  rw[tJ,(r.val k).isSome_eq,Option.isSome_map]
 unfold jx storedH
 rw[e]
 by_cases q:(atKey xs k).isSome=true
 ·rw[if_pos q,if_pos q];exact r.repl k ry
 ·rw[if_neg q,if_neg q];exact Paired.snoc r ⟨rfl,hb,ry⟩
theorem KT.keeps{H H':Hp}{kvs:List (List Key×V)}{xs:List (List Key×Addr×ae)}(r:KT H kvs xs)(ht:∀b ys,H b=some (.tup ys)->H' b=some (.tup ys)):KT H' kvs xs:=
 Paired.mapP r λ_ _ z=>⟨z.1,ht _ _ z.2.1,z.2.2⟩
section
variable{P:aF}{w:aS}{H:Hp}{h:Heap}{a:Addr}
theorem FS{u:HO}(ok:HOk P w H h)(e:Rd H a u):ObjOk P w H h a u:=e.ok ok
theorem n6{kvs:List (Key×V)}(ok:HOk P w H h)(e:Rd H a (.dK kvs)):kvs.length<=aJ/\(a==eS)=false/\∃vs,KV kvs vs/\h.DictOf (mixKind P w) a vs:=
 show ObjOk P w H h a (.dK kvs)from FS ok e
theorem Cr{kvs:List (Key×V)}(ok:HOk P w H h)(e:H a=some (.dK kvs)):kvs.length<=aJ/\(a==eS)=false/\∃vs,KV kvs vs/\h.DictOf (mixKind P w) a vs:=n6 ok (.inl e)
theorem sK{ks:List Key}(ok:HOk P w H h)(e:H a=some (.tup (ks.map kV))):(tupleKind (mixKind P w)).is h ks a:=by
 obtain⟨_,its,r,o,h1,h2,n,h3⟩:=(show ObjOk P w H h a (.tup (ks.map kV))from ok a _ e)
 exact⟨o,its.toArray,n,h1,h2,h3,by simpa using rj r⟩
theorem uX{kvs:List (List Key×V)}(ok:HOk P w H h)(e:Rd H a (.dT kvs)):kvs.length<=aJ/\(a==eS)=false/\
  ∃xs,KT H kvs xs/\h.DictOfH (tupleKind (mixKind P w)) a xs:=by
 obtain⟨z,y,xs,r,o,es,ep,h1,h2,h3,h4,h5⟩:=(show ObjOk P w H h a (.dT kvs)from FS ok e)
 refine⟨z,y,xs,r,o,es,ep,h1,h2,h3,h4,λx hx=> ?_,h5⟩
 have all:∀{l:List (List Key×V)} {m:List (List Key×Addr×ae)},KT H l m->∀x∈m,(tupleKind (mixKind P w)).is h x.1 x.2.1:=by
  intro l m q
  induction q with
  |nil=>intro x hx;exact nomatch hx
  | @cons p q ps qs hq t ih=>
   intro x hx
   rcases aA.mp hx with e|hx
   ·subst e
    exact sK ok (by rw[<-hq.1];exact hq.2.1)
   ·exact ih x hx
 exact all r x hx
theorem LP{kvs:List (List Key×V)}(ok:HOk P w H h)(e:H a=some (.dT kvs)):kvs.length<=aJ/\(a==eS)=false/\
  ∃xs,KT H kvs xs/\h.DictOfH (tupleKind (mixKind P w)) a xs:=uX ok (.inl e)
end
noncomputable def Db(H:Hp)(a:Addr)(y:V)(r:Option V):Prop:=
 (∃kvs k,Rd H a (.dK kvs)/\y=kV k/\r=oq kvs k)\/∃kvs k b,Rd H a (.dT kvs)/\y= .ref b/\H b=some (.tup (k.map kV))/\r=oq kvs k
noncomputable def DPut(H:Hp)(a:Addr)(y v:V)(H':Hp):Prop:=
 (∃kvs k,H a=some (.dK kvs)/\y=kV k/\kvs.length<aJ/\H'=upd H a (.dK (jx kvs k v)))\/
 ∃kvs k b,H a=some (.dT kvs)/\y= .ref b/\H b=some (.tup (k.map kV))/\kvs.length<aJ/\H'=upd H a (.dT (jx kvs k v))
theorem DPut.k{H:Hp}{a:Addr}{kvs:List (Key×V)}{k:Key}{v:V}(e:H a=some (.dK kvs))(hl:kvs.length<aJ):DPut H a (kV k) v (upd H a (.dK (jx kvs k v))):= .inl ⟨kvs,k,e,rfl,hl,rfl⟩
section
variable{X:Cx}{pins:List (Addr×Obj)}{σ:St}{H:Hp}{s:af}{a:Addr}{y v:V}{u r:ae}{o:Option V}{A:Around}{E:ae->af->Prop}
theorem Inv.big(I:Inv X pins σ H s):eS<s.heap.objs.size:=by
 have h:ba<s.heap.objs.size:=(I.mod.glob.keeps I.bk).lt
 exact Nat.lt_trans (by decide) h
theorem zK{Q:ae->af->Prop}(hu:A.units+1<fS)(I:Inv X pins σ H s)(g:Db H a y (some v))(ry:RelV y u)(h:∀w' s',Inv X pins σ H s'->RelV v w'->Q w' s'):
  wpAny (aN X.prog X.w) A (ii (.ref a) u) Q E s:=by
 rcases g with⟨kvs,k,e,ey,l⟩|⟨kvs,k,b,e,ey,eb,l⟩
 ·subst ey
  obtain⟨z,hd,vs,rel,dd⟩:=n6 I.hok e
  obtain⟨w',hw,rw'⟩:=RelO.some_of (v:=v) (o:=valueAt vs k) (by rw[l];exact rel.val k)
  exact wpAny_getItem_of (uK ry) dd.mapOf hw (h w' _ (I.tok _) rw')
 ·subst ey
  cases (show u=au b from ry)
  obtain⟨z,hd,xs,rel,dd⟩:=uX I.hok e
  obtain⟨w',hw,rw'⟩:=RelO.some_of (v:=v) (o:=(atKey xs k).map (·.2)) (by rw[l];exact rel.val k)
  obtain⟨p,hp,hp2⟩:=Option.map_eq_some_iff.mp hw
  refine wpAny_getItem_heap (qw hu) (sK I.hok eb) dd hp ?_
  rw[hp2]
  exact h w' _ (I.tok _) rw'
theorem mD{h':Heap}{t':Nat}{ob:HO}(I:Inv X pins σ H s)(mu:L8 (H a))(hs:dJ a s.heap h')(he:∃q,h'.get? a=some q)(new:ObjOk X.prog X.w (upd H a ob) h' a ob):
  Inv X pins σ (upd H a ob) {s with heap:=h',toks:=t'}:=
 I.write (x:=a) (e:=a) mu (.inl rfl) (λb q hb z=>(hs.2 b hb).trans z) he new
theorem sV{P:aF}{w:aS}{H':Hp}{h':Heap}{kvs:List (Key×V)}{vs:List (Key×ae)}(z:kvs.length<=aJ)(hd:(a==eS)=false)(rel:KV kvs vs)(dd:h'.DictOf (mixKind P w) a vs):
  ObjOk P w H' h' a (.dK kvs):=⟨z,hd,vs,rel,dd⟩
theorem zJ{H':Hp}{Q:Unit->af->Prop}(hu:A.units+1<fS)(I:Inv X pins σ H s)(g:DPut H a y v H')(ry:RelV y u)(rv:RelV v r)(h:∀s',Inv X pins σ H' s'->Q () s'):
  wpAny (aN X.prog X.w) A (setItem (.ref a) u r) Q E s:=by
 rcases g with⟨kvs,k,e,ey,l,eH⟩|⟨kvs,k,b,e,ey,eb,l,eH⟩
 ·subst ey eH
  obtain⟨z,hd,vs,rel,dd⟩:=Cr I.hok e
  have hz:vs.length<=aJ:=by rw[<-rel.length];exact z
  have hl:(jx kvs k v).length<=aJ:=by have:=jZ kvs k v;ac_nf
  refine wpAny_setItem_pairs (hsz:=hz) (uK ry) dd λh' dd' hs=>h _ ?_
  have he:∃q,h'.get? a=some q:=let⟨q,_,_,hq,_⟩:=dd';⟨q,hq⟩
  exact mD I (by rw[e];exact ck) hs he (sV hl hd (rel.put k rv) dd')
 ·subst ey eH
  cases (show u=au b from ry)
  obtain⟨z,hd,xs,rel,dd⟩:=LP I.hok e
  have hz:xs.length<=aJ:=by rw[<-Paired.length rel];exact z
  have hl:(jx kvs k v).length<=aJ:=by have:=jZ kvs k v;ac_nf
  refine wpAny_setItem_heap (hsz:=hz) (qw hu) (sK I.hok eb) dd λh' dd' hs=>h _ ?_
  obtain⟨q,es,ep,hq,h2,h3,h4,_,h5⟩:=dd'
  refine mD I (by rw[e];exact ck) hs ⟨q,hq⟩ ⟨hl,hd,_,(rel.put k eb rv).keeps λc ys ec=> ?_,q,es,ep,hq,h2,h3,h4,h5⟩
  rw[bo (KN ec e (λz=>nomatch z))]
  exact ec
end
section
end
noncomputable def Jt(i:Expr):Prop:=∀ov iv,subscripted i false ov iv=operate [ov,iv] (ii ov iv)
theorem Dt{prog:aF}{w:aS}{A:Around}{E:ae->af->Prop}{s:af}{env:Env}{value slice:Expr}{pos:Pos}{T id:String}{Q:ae->af->Prop}
  (hl:typeLookup (.type T) "__getitem__" =pure (some (.builtin id))) (hs:Jt slice)
  (h:wpAny (aN prog w) A (eval value env) (λo s₁=>wpAny (aN prog w) A (eval slice env) (λi s₂=>s₂.TypeIs o T/\wpAny (aN prog w) A (ii o i) Q E s₂) E s₁) E s):
  wpAny (aN prog w) A (eval (.Subscript value slice pos) env) Q E s:=by
 refine Subscript_ (aW h (λo s₁ h₁=>aW h₁ (λi s₂ h₂=> ?_) λ_ _ x=>x) λ_ _ x=>x)
 obtain⟨hT,h₂⟩:=h₂
 unfold subscriptTail
 refine aa ?_
 rw[getitemInPython_of_ne hT.not_modules]
 refine aa (wpAny_specialOf hT hl ?_)
 have fin:wpAny (aN prog w) A (subscripted slice false o i) (λr s₃=>wpAny (aN prog w) A (letTemporaryGo value o r>>=λ_=>pure r) Q E s₃) E s₂:=by
  rw[hs o i]
  exact wpAny_operating (aW h₂ (λr s₃ h₃=>aa (wpAny_letTemporaryGo (am h₃))) λ_ _ x=>x)
 first
  |exact am (aa fin)
  |exact aa (am (aa fin))
  |exact aa fin
theorem uZ{X:Cx}{pins:List (Addr×Obj)}{σ:St}{H:Hp}{s:af}{a:Addr}{y:V}{o:Option V}(I:Inv X pins σ H s)(g:Db H a y o):s.TypeIs (.ref a) "dict" :=by
 rcases g with⟨kvs,k,e,_,_⟩|⟨kvs,k,b,e,_,_,_⟩
 ·obtain⟨_,_,vs,_,dd⟩:=n6 I.hok e
  exact dd.typeIs
 ·obtain⟨_,_,xs,_,dd⟩:=uX I.hok e
  exact dd.typeIs
noncomputable def J8(td ty:TE):TE:=λσ H Q=>td σ H λx H1=>ty σ H1 λy H2=>∃a v,x= .ref a/\Db H2 a y (some v)/\Q v H2
section
variable{X:Cx}{o i:Expr}{pos:Pos}{td ty:TE}
theorem Ee(hu:X.A.units+1<fS)(ho:PE X o td)(hi:PE X i ty)(hs:Jt i):PE X (.Subscript o i pos) (J8 td ty):=by
 intro pins s σ H Q I h
 refine Dt PySem.F.slot_dict_getitem.lookup hs (eB (ho pins s σ H _ I h) λu s1 ⟨x,H1,I1,rx,q1⟩=>eB (hi pins s1 σ H1 _ I1 q1) λiv s2 ⟨y,H2,I2,ry,a,v,ex,g,q2⟩=> ?_)
 subst ex
 obtain rfl:u=au a:=rx
 exact⟨uZ I2 g,zK hu I2 g ry λw' s3 I3 rw'=>⟨v,H2,I3,rw',q2⟩⟩
end
theorem uY{P:aF}{w:aS}{H:Hp}(h:Heap)(hb:eS<h.objs.size):ObjOk P w H (h.push {cls:= .type "dict",data:= .dict #[]}) h.objs.size (.dK []):=
 ⟨cg _,beq_eq_false_iff_ne.mpr (aG (aQ hb)),[],.nil,Heap.DictOf.new h⟩
noncomputable def GD:TE:=λ_ H Q=>∀p,H p=none->Q (.ref p) (upd H p (.dK []))
section
variable{X:Cx}{pos:Pos}
theorem A9:PE X (.Dict [] [] pos) GD:=λpins s σ H Q I h=>
 wpAny_Dict_empty ⟨.ref s.heap.objs.size,_,I.laid (a:=s.heap.objs.size) (o:= .dK []) (t':=s.toks) (λ_ _ q=>ai _ q) (aq _) (uY s.heap I.big),rfl,h _ (I.hok.fresh (aq _))⟩
end
noncomputable def vN:List (TE×TE)->St->Hp->(List (V×V)->Hp->Prop)->Prop
 |[],_,H,Q=>Q [] H
 |(tk,tv)::r,σ,H,Q=>tk σ H λx H1=>tv σ H1 λy H2=>vN r σ H2 λps H3=>Q ((x,y)::ps) H3
noncomputable abbrev VV:List (V×V)->List (ae×ae)->Prop:=Paired λp q=>RelV p.1 q.1/\RelV p.2 q.2
noncomputable def Ml(X:Cx)(pos:Pos)(keys:List (Option Expr))(values:List Expr)(bq:List (TE×TE)):Prop:=
 ∀(pins:List (Addr×Obj)) (s:af) (σ:St) (H:Hp) (Q:List (V×V)->Hp->Prop),Inv X pins σ H s->vN bq σ H Q->
  wpAny (aN X.prog X.w) X.A (evalPairs (pairTrees keys values X.env pos)) (λvs s'=>∃ps H',Inv X pins σ H' s'/\VV ps vs/\Q ps H') X.xe s
theorem DU{X:Cx}{pos:Pos}:Ml X pos [] [] []:=λpins s σ H Q I h=>pairTrees_nil_walk ⟨[],H,I,.nil,h⟩
theorem A1{X:Cx}{pos:Pos}{k v:Expr}{ks:List (Option Expr)}{vs:List Expr}{tk tv:TE}{bq:List (TE×TE)}(hk:PE X k tk)(hv:PE X v tv)(hr:Ml X pos ks vs bq):
  Ml X pos (some k::ks) (v::vs) ((tk,tv)::bq):=λpins s σ H Q I h=>
 pairTrees_cons_walk (eB (hk pins s σ H _ I h) λu s1 ⟨x,H1,I1,rx,q1⟩=>eB (hv pins s1 σ H1 _ I1 q1) λw2 s2 ⟨y,H2,I2,ry,q2⟩=>
  eB (hr pins s2 σ H2 _ I2 q2) λws s3 ⟨ps,H3,I3,rel,q3⟩=>⟨(x,y)::ps,H3,I3,.cons ⟨rx,ry⟩ rel,q3⟩)
noncomputable def jg(kvs more:List (Key×V)):List (Key×V):=more.foldl (λacc kv=>jx acc kv.1 kv.2) kvs
theorem KV.merge:∀{more:List (Key×V)} {rs:List (Key×ae)} {kvs:List (Key×V)} {vs:List (Key×ae)},KV more rs->KV kvs vs->KV (jg kvs more) (merged vs rs):=by
 intro more rs kvs vs r
 unfold KV at r
 induction r generalizing kvs vs with
 |nil=>intro q;exact q
 | @cons p q ps qs h t ih=>
  intro r0
  have e:KV (jx kvs p.1 p.2) (stored vs q.1 q.2):=by
   have:=r0.put p.1 h.2
   rw[<-h.1];exact this
  exact ih e
theorem iN:∀(more kvs:List (Key×V)),(jg kvs more).length<=kvs.length+more.length
 |[],kvs=>by show kvs.length<=kvs.length+0;ac_nf
 |p::r,kvs=>by
  have h1:=iN r (jx kvs p.1 p.2)
  have h2:=jZ kvs p.1 p.2
  show(jg (jx kvs p.1 p.2) r).length<=_
  rw[aX];ac_nf
theorem qj{P:aF}{w:aS}:∀{kvs:List (Key×V)} {ws:List (ae×ae)},VV (kvs.map λkv=>(kV kv.1,kv.2)) ws->∃rs,Carries (mixKind P w) ws rs/\KV kvs rs
 |[],_,r=>by rw[kz]at r;cases r;exact⟨[],ck,.nil⟩
 |p::kvs,_,r=>by
  rw[aD]at r
  cases r with
  | @cons a b as bs h t=>
   obtain⟨rs,c,q⟩:=qj (P:=P) (w:=w) t
   obtain⟨b1,b2⟩:=b
   exact⟨(p.1,b2)::rs,⟨uK h.1,rfl,c⟩,.cons ⟨rfl,h.2⟩ q⟩
noncomputable def J6(bq:List (TE×TE)):TE:=λσ H Q=>∀p,H p=none->vN bq σ (upd H p (.dK [])) λps H2=>H2 p=some (.dK [])/\∃kvs:List (Key×V),ps=kvs.map (λkv=>(kV kv.1,kv.2))/\kvs.length<=15/\Q (.ref p) (upd H2 p (.dK (jg [] kvs)))
theorem Ed{X:Cx}{pos:Pos}{keys:List (Option Expr)}{values:List Expr}{bq:List (TE×TE)}(h:Ml X pos keys values bq)(hall:keys.all (·.isSome)=true)(hl:keys.length=values.length)(h0:keys≠[])
  (h15:keys.length<=15):PE X (.Dict keys values pos) (J6 bq):=by
 intro pins s σ H Q I q
 have hn:=I.hok.fresh (aq s.heap.objs.size)
 have I1:=I.laid (a:=s.heap.objs.size) (o:= .dK []) (h':=s.heap.push {cls:= .type "dict",data:= .dict #[]}) (t':=s.toks) (λ_ _ q=>ai _ q) (aq _) (uY s.heap I.big)
 refine wpAny_Dict_walk (knd:=mixKind X.prog X.w) hall hl h0 h15 (eB (h pins _ σ _ _ I1 (q _ hn)) λws s2 hPl=> ?_)
 obtain⟨ps,H2,I2,rel,e,kvs,ep,lk,q2⟩:=hPl
 subst ep
 obtain⟨rs,c,rk⟩:=qj (P:=X.prog) (w:=X.w) rel
 obtain⟨z,hd,vs0,r0,dd⟩:=Cr I2.hok e
 cases r0
 refine⟨rs,c,dd,λh' dd' hs=>⟨.ref s.heap.objs.size,_,?_,rfl,q2⟩⟩
 have hz:(jg [] kvs).length<=aJ:=by
  have h1:=iN kvs []
  rw[iw]at h1
  rw[fC];ac_nf
 have he:∃q,h'.get? s.heap.objs.size=some q:=let⟨q,_,_,hq,_⟩:=dd';⟨q,hq⟩
 exact mD I2 (by rw[e];exact ck) hs he (sV hz hd (rk.merge .nil) dd')
structure M1(X:Cx)(o:Expr)(m:Str)(apos:Pos)(e:Expr)(cpos:Pos):Prop where
 base:bL o m X.env (eval o X.env)=eval o X.env
 few:((bC cpos (al [e] X.env)).all (λx=> !x.1)&&(gJ cpos (dW [] X.env)).all (λx=>x.1.isSome)
  &&decide (([e]:List Expr).length+([]:List fT).length+(if([]:List fT).isEmpty then 0 else 1)<30))=true
 line:(apos.endLine==cpos.line)=true
 trees:bC cpos (al [e] X.env)=[(false,eval e X.env)]
structure M2(X:Cx)(o:Expr)(m:Str)(apos:Pos)(e f:Expr)(cpos:Pos):Prop where
 base:bL o m X.env (eval o X.env)=eval o X.env
 few:((bC cpos (al [e,f] X.env)).all (λx=> !x.1)&&(gJ cpos (dW [] X.env)).all (λx=>x.1.isSome)
  &&decide (([e,f]:List Expr).length+([]:List fT).length+(if([]:List fT).isEmpty then 0 else 1)<30))=true
 line:(apos.endLine==cpos.line)=true
 trees:bC cpos (al [e,f] X.env)=[(false,eval e X.env),(false,eval f X.env)]
noncomputable def NT(H:Hp)(a:Addr):Prop:=(∃kvs,Rd H a (.dK kvs))\/∃kvs,Rd H a (.dT kvs)
theorem Ca{X:Cx}{pins:List (Addr×Obj)}{σ:St}{H:Hp}{s:af}{a:Addr}(I:Inv X pins σ H s)(d:NT H a):
  s.TypeIs (.ref a) "dict" /\(∀b,au a= .ref b->∃ob,s.heap.get? b=some ob/\ob.dict=none)/\(a==eS)=false:=by
 rcases d with⟨kvs,e⟩|⟨kvs,e⟩
 ·obtain⟨_,hd,vs,_,dd⟩:=n6 I.hok e
  refine⟨dd.typeIs,λb q=> ?_,hd⟩
  cases q
  obtain⟨ob,_,_,h1,h2,_⟩:=dd
  exact⟨ob,h1,h2.2.1⟩
 ·obtain⟨_,hd,xs,_,dd⟩:=uX I.hok e
  refine⟨dd.typeIs,λb q=> ?_,hd⟩
  cases q
  obtain⟨ob,_,_,h1,h2,_⟩:=dd
  exact⟨ob,h1,h2.2.1⟩
section
variable{X:Cx}{pins:List (Addr×Obj)}{σ:St}{H:Hp}{s:af}{a:Addr}{y d:V}{u r:ae}{o:Option V}{A:Around}{E:ae->af->Prop}
theorem Jf{Q:ae->af->Prop}(hu:A.units+1<fS)(I:Inv X pins σ H s)(g:Db H a y o)(ry:RelV y u)(rd:RelV d r)(h:∀w' s',Inv X pins σ H s'->RelV (o.getD d) w'->Q w' s'):
  wpAny (aN X.prog X.w) A (call (.builtin "dict.get") [.ref a,u,r]) Q E s:=by
 rcases g with⟨kvs,k,e,ey,l⟩|⟨kvs,k,b,e,ey,eb,l⟩
 ·subst ey
  obtain⟨z,hd,vs,rel,dd⟩:=n6 I.hok e
  refine call_meetsIn PySem.F.slot_dict_get dd.typeIs PySem.F.entry_dict_get (PySem.F.args_dict_get_3 _ _ _) (meets_dict_get_default (mixKind X.prog X.w) a (uK ry) hd r) ⟨_,dd.mapOf,h _ _ (I.tok _) ?_⟩
  rw[l]
  exact(rel.val k).getD rd
 ·subst ey
  cases (show u=au b from ry)
  obtain⟨z,hd,xs,rel,dd⟩:=uX I.hok e
  refine call_meetsIn PySem.F.slot_dict_get dd.typeIs PySem.F.entry_dict_get (PySem.F.args_dict_get_3 _ _ _) (meetsH_dict_get_default (tupleKind (mixKind X.prog X.w)) a b hd r) ⟨qw hu,k,xs,sK I.hok eb,dd,h _ _ (I.tok _) ?_⟩
  rw[l]
  exact(rel.val k).getD rd
end
noncomputable def GF(td ty tx:TE):TE:=λσ H Q=>td σ H λx H1=>∃a,x= .ref a/\NT H1 a/\ty σ H1 λy H2=>tx σ H2 λz H3=>∃o,Db H3 a y o/\Q (o.getD z) H3
section
variable{X:Cx}{o e f:Expr}{apos cpos:Pos}{td ty tx:TE}
theorem Ba(hu:X.A.units+1<fS)(ho:PE X o td)(he:PE X e ty)(hf:PE X f tx)(m:M2 X o "get" apos e f cpos):PE X (.Call (.Attribute o "get" apos) [e,f] [] cpos) (GF td ty tx):=by
 intro pins s σ H Q I h
 refine wpAny_Call_method m.base m.few m.line PySem.F.plainAttrs_dict PySem.F.slot_dict_get PySem.F.type_dict_get (eB (ho pins s σ H _ I h) λu s1 hPl=> ?_)
 obtain⟨x,H1,I1,rx,a,ex,d,q1⟩:=hPl
 subst ex
 obtain rfl:u=au a:=rx
 obtain⟨t1,t2,_⟩:=Ca I1 d
 refine⟨t1,t2,?_⟩
 rw[m.trees]
 refine gL rfl (lE (iT (eB (he pins s1 σ H1 _ I1 q1) λiv s2 ⟨y,H2,I2,ry,q2⟩=>
  iT (eB (hf pins s2 σ H2 _ I2 q2) λfv s3 ⟨z,H3,I3,rz,ov,g,q3⟩=>oB ?_))))
 exact Jf hu I3 g ry rz λw' s4 I4 rw'=>⟨_,H3,I4,rw',q3⟩
end
section
end
section
end
end L2
namespace L2
open PySem
section
end
section
variable{κ:Type}[DecidableEq κ]
end
end L2
namespace L3
open PySem L2
inductive PV where
 |non|bl (b:Bool)|int (i:Int)|str (x:Str)|tup (xs:List PV)|ref (a:Addr)|ty (n:String)|ro (xs:List PV)
inductive MO where
 |lst (xs:List PV)|rl (xs:List PV)|dK (kvs:List (Key×PV))|rng (lo hi:Int)|ins (C dx:Addr) (fs:List (Str×PV))|exc (C:Addr)|rd (kvs:List (Key×PV))
noncomputable abbrev Gp:=Addr->Option MO
noncomputable def up(G:Gp)(a:Addr)(o:MO):Gp:=λb=>if b=a then some o else G b
theorem ao{G:Gp}{a:Addr}{o:MO}:up G a o a=some o:=by unfold up;rw[if_pos rfl]
theorem aK{G:Gp}{a b:Addr}{o:MO}(h:b≠a):up G a o b=G b:=by unfold up;rw[if_neg h]
theorem ia{G:Gp}{a:Addr}{o u:MO}:up (up G a o) a u=up G a u:=by
 funext b;unfold up;split<;>rfl
theorem w8{G:Gp}{a:Addr}{o:MO}(h:G a=some o):up G a o=G:=by
 funext b;unfold up;split
 ·rename_i e;rw[e,h]
 ·rfl
noncomputable def FzL(K:PySem.W.Frag)(H:Hp)(a:Addr)(xs:List V):Prop:=
 (∃o,H a=some (.frz o (.lst xs)))\/∃(o:Obj) (its:Array ae) (n:Nat),K.lookup a=some o/\o.cls= .type "list" /\o.dict=none/\o.data= .seq its n/\its.size<=aJ/\Vals xs its.toList
theorem FzL.sq{K:PySem.W.Frag}{H:Hp}{a:Addr}{xs:List V}(h:FzL K H a xs):SqL K H a xs:=by
 rcases h with⟨o,h⟩|h
 ·exact .inl (.inr ⟨o,h⟩)
 ·exact .inr h
mutual
noncomputable def Dv(K:PySem.W.Frag)(H:Hp):PV->V->Prop
 | .non,v=>v= .non
 | .bl b,v=>v= .bl b
 | .int i,v=>v= .int i
 | .str x,v=>v= .str x
 | .tup ps,v=>∃a vs,v= .ref a/\SqT K H a vs/\Dvs K H ps vs
 | .ref a,v=>v= .ref a
 | .ty n,v=>v= .ty n
 | .ro ps,v=>∃a vs,v= .ref a/\FzL K H a vs/\Dvs K H ps vs
noncomputable def Dvs(K:PySem.W.Frag)(H:Hp):List PV->List V->Prop
 |[],vs=>vs=[]
 |p::ps,vs=>∃v r,vs=v::r/\Dv K H p v/\Dvs K H ps r
end
noncomputable def Keep(K:PySem.W.Frag)(H H':Hp):Prop:=(∀a xs,SqT K H a xs->SqT K H' a xs)/\∀a o u,H a=some (.frz o u)->H' a=some (.frz o u)
section
variable{K:PySem.W.Frag}{H H' H1 H2:Hp}
theorem Keep.refl:Keep K H H:=⟨λ_ _ h=>h,λ_ _ _ h=>h⟩
theorem Keep.trans(a:Keep K H H1)(b:Keep K H1 H2):Keep K H H2:=⟨λc xs h=>b.1 c xs (a.1 c xs h),λc o u h=>b.2 c o u (a.2 c o u h)⟩
theorem mr{p:Addr}{o:HO}(h:∀xs,¬Rd H p (.tup xs))(hf:∀o u,H p≠some (.frz o u)):Keep K H (upd H p o):=⟨λa xs q=>by
 rcases q with q|q
 ·have ne:a≠p:=λz=>by subst z;exact h xs q
  refine .inl ?_
  rcases q with q|⟨o',q⟩
  ·exact .inl (by rw[bo ne];exact q)
  ·exact .inr ⟨o',by rw[bo ne];exact q⟩
 ·exact .inr q,λa o' u q=>by
 have ne:a≠p:=λz=>by subst z;exact hf o' u q
 rw[bo ne];exact q⟩
theorem FzL.keep{a:Addr}{xs:List V}(k:Keep K H H')(h:FzL K H a xs):FzL K H' a xs:=by
 rcases h with⟨o,h⟩|h
 ·exact .inl ⟨o,k.2 _ _ _ h⟩
 ·exact .inr h
theorem bK{p:Addr}{o:HO}(h:H p=none):Keep K H (upd H p o):=mr (λxs q=>by
 rcases q with q|⟨o',q⟩<;>(rw[h]at q;cases q)) λo u q=>by rw[h]at q;cases q
theorem fO{p:Addr}{o:HO}{ys:List V}(h:H p=some (.lst ys)):Keep K H (upd H p o):=mr (λxs q=>by
 rcases q with q|⟨o',q⟩<;>(rw[h]at q;cases q)) λo u q=>by rw[h]at q;cases q
theorem kl{p:Addr}{o:HO}{ys:List (Key×V)}(h:H p=some (.dK ys)):Keep K H (upd H p o):=mr (λxs q=>by
 rcases q with q|⟨o',q⟩<;>(rw[h]at q;cases q)) λo u q=>by rw[h]at q;cases q
mutual
theorem Dv.keep(k:Keep K H H'):∀(p:PV) {v:V},Dv K H p v->Dv K H' p v
 | .non,_,h=>h
 | .bl _,_,h=>h
 | .int _,_,h=>h
 | .str _,_,h=>h
 | .tup ps,_,h=>by
  obtain⟨a,vs,e,q,r⟩:=h
  exact⟨a,vs,e,k.1 a vs q,Dvs.keep k ps r⟩
 | .ref _,_,h=>h
 | .ty _,_,h=>h
 | .ro ps,_,h=>by
  obtain⟨a,vs,e,q,r⟩:=h
  exact⟨a,vs,e,q.keep k,Dvs.keep k ps r⟩
theorem Dvs.keep(k:Keep K H H'):∀(ps:List PV) {vs:List V},Dvs K H ps vs->Dvs K H' ps vs
 |[],_,h=>h
 |p::ps,_,h=>by
  obtain⟨v,r,e,q,z⟩:=h
  exact⟨v,r,e,Dv.keep k p q,Dvs.keep k ps z⟩
end
theorem Dvs.length:∀{ps:List PV} {vs:List V},Dvs K H ps vs->vs.length=ps.length
 |[],_,h=>by rw[show _=[]from h];rfl
 |p::ps,_,h=>by
  obtain⟨v,r,rfl,_,z⟩:=h
  rw[aX,aX,Dvs.length z]
theorem Dvs.get:∀{ps:List PV} {vs:List V} {i:Nat} {v:V},Dvs K H ps vs->vs[i]? =some v->∃p,ps[i]? =some p/\Dv K H p v
 |[],_,i,v,h,e=>by rw[show _=[]from h]at e;simp at e
 |p::ps,_,0,v,h,e=>by
  obtain⟨v',r,rfl,q,z⟩:=h
  have:v'=v:=by simpa using e
  subst this
  exact⟨p,rfl,q⟩
 |p::ps,_,i+1,v,h,e=>by
  obtain⟨v',r,rfl,q,z⟩:=h
  obtain⟨p',e1,q1⟩:=Dvs.get (i:=i) z (by simpa using e)
  exact⟨p',by simpa using e1,q1⟩
theorem Dvs.at:∀{ps:List PV} {vs:List V} {i:Nat} {p:PV},Dvs K H ps vs->ps[i]? =some p->∃v,vs[i]? =some v/\Dv K H p v:=fun{ps vs i p} h e=>by
 have hl:=h.length
 have hi:i<vs.length:=by rw[hl];exact(aj.mp e).1
 obtain⟨p',e',q⟩:=h.get (ak hi)
 rw[e]at e';cases e'
 exact⟨_,ak hi,q⟩
theorem Dvs.append:∀{ps qs:List PV} {vs us:List V},Dvs K H ps vs->Dvs K H qs us->Dvs K H (ps++qs) (vs++us)
 |[],_,_,_,h,g=>by rw[show _=[]from h];exact g
 |p::ps,_,_,_,h,g=>by
  obtain⟨v,r,rfl,q,z⟩:=h
  exact⟨v,r++_,rfl,q,Dvs.append z g⟩
theorem Dvs.nil:Dvs K H [] []:=rfl
theorem Dvs.cons{p:PV}{ps:List PV}{v:V}{vs:List V}(a:Dv K H p v)(b:Dvs K H ps vs):Dvs K H (p::ps) (v::vs):=⟨v,vs,rfl,a,b⟩
theorem Dvs.take:∀{ps:List PV} {vs:List V} (n:Nat),Dvs K H ps vs->Dvs K H (ps.take n) (vs.take n)
 |_,_,0,_=>rfl
 |[],_,n+1,h=>by rw[show _=[]from h];rfl
 |p::ps,_,n+1,h=>by
  obtain⟨v,r,rfl,q,z⟩:=h
  exact⟨v,_,rfl,q,Dvs.take n z⟩
theorem Dvs.drop:∀{ps:List PV} {vs:List V} (n:Nat),Dvs K H ps vs->Dvs K H (ps.drop n) (vs.drop n)
 |_,_,0,h=>h
 |[],_,n+1,h=>by rw[show _=[]from h];rfl
 |p::ps,_,n+1,h=>by
  obtain⟨v,r,rfl,q,z⟩:=h
  exact Dvs.drop n z
theorem Dvs.reverse:∀{ps:List PV} {vs:List V},Dvs K H ps vs->Dvs K H ps.reverse vs.reverse
 |[],_,h=>by rw[show _=[]from h];rfl
 |p::ps,_,h=>by
  obtain⟨v,r,rfl,q,z⟩:=h
  rw[fJ,fJ]
  exact(Dvs.reverse z).append (.cons q .nil)
theorem Dvs.set{p:PV}{v:V}(a:Dv K H p v):∀{ps:List PV} {vs:List V} (i:Nat),Dvs K H ps vs->Dvs K H (ps.set i p) (vs.set i v)
 |[],_,_,h=>by rw[show _=[]from h];rfl
 |q::ps,_,0,h=>by
  obtain⟨v',r,rfl,_,z⟩:=h
  exact⟨v,r,rfl,a,z⟩
 |q::ps,_,i+1,h=>by
  obtain⟨v',r,rfl,b,z⟩:=h
  exact⟨v',_,rfl,b,Dvs.set a i z⟩
end
noncomputable def DKv(K:PySem.W.Frag)(H:Hp):List (Key×PV)->List (Key×V)->Prop
 |[],vs=>vs=[]
 |(k,p)::ps,vs=>∃v r,vs=(k,v)::r/\Dv K H p v/\DKv K H ps r
noncomputable def DFv(K:PySem.W.Frag)(H:Hp):List (Str×PV)->List (Str×V)->Prop
 |[],vs=>vs=[]
 |(k,p)::ps,vs=>∃v r,vs=(k,v)::r/\Dv K H p v/\DFv K H ps r
noncomputable def RepO(K:PySem.W.Frag)(H:Hp)(a:Addr):MO->Prop
 | .lst ps=>∃vs,H a=some (.lst vs)/\Dvs K H ps vs
 | .rl ps=>∃vs,Rd H a (.lst vs)/\Dvs K H ps vs
 | .dK kvs=>∃vs,H a=some (.dK vs)/\DKv K H kvs vs
 | .rng lo hi=>H a=some (.rng lo hi)
 | .ins C dx fs=>∃vs,H a=some (.ins C dx vs)/\DFv K H fs vs
 | .exc C=>H a=some (uV a C)
 | .rd kvs=>∃vs,Rd H a (.dK vs)/\DKv K H kvs vs
noncomputable def Rep(K:PySem.W.Frag)(H:Hp)(G:Gp):Prop:=∀a o,G a=some o->RepO K H a o
section
variable{K:PySem.W.Frag}{H H':Hp}{G G':Gp}{p:Addr}
theorem DKv.keep(k:Keep K H H'):∀(ps:List (Key×PV)) {vs:List (Key×V)},DKv K H ps vs->DKv K H' ps vs
 |[],_,h=>h
 |(x,p)::ps,_,h=>by
  obtain⟨v,r,e,q,z⟩:=h
  exact⟨v,r,e,Dv.keep k p q,DKv.keep k ps z⟩
theorem DFv.keep(k:Keep K H H'):∀(ps:List (Str×PV)) {vs:List (Str×V)},DFv K H ps vs->DFv K H' ps vs
 |[],_,h=>h
 |(x,p)::ps,_,h=>by
  obtain⟨v,r,e,q,z⟩:=h
  exact⟨v,r,e,Dv.keep k p q,DFv.keep k ps z⟩
theorem RepO.some{o:MO}(h:RepO K H p o):∃u,H p=some u:=by
 cases o with
 |lst ps=>obtain⟨vs,e,_⟩:=h;exact⟨_,e⟩
 |rl ps=>
  obtain⟨vs,e,_⟩:=h
  rcases e with e|⟨o,e⟩
  ·exact⟨_,e⟩
  ·exact⟨_,e⟩
 |dK ps=>obtain⟨vs,e,_⟩:=h;exact⟨_,e⟩
 |rng lo hi=>exact⟨_,h⟩
 |ins C dx fs=>obtain⟨vs,e,_⟩:=h;exact⟨_,e⟩
 |exc C=>exact⟨_,h⟩
 |rd ps=>
  obtain⟨vs,e,_⟩:=h
  rcases e with e|⟨o,e⟩
  ·exact⟨_,e⟩
  ·exact⟨_,e⟩
theorem Rep.none(r:Rep K H G)(h:H p=none):G p=none:=by
 cases e:G p with
 |none=>rfl
 |some o=>
  obtain⟨u,z⟩:=(r p o e).some
  rw[h]at z;cases z
theorem RepO.upd{a:Addr}{o:MO}{ho:HO}(k:Keep K H (upd H p ho))(ne:a≠p)(h:RepO K H a o):RepO K (L2.upd H p ho) a o:=by
 cases o with
 |lst ps=>obtain⟨vs,e,d⟩:=h;exact⟨vs,by rw[bo ne];exact e,d.keep k⟩
 |rl ps=>
  obtain⟨vs,e,d⟩:=h
  refine⟨vs,?_,d.keep k⟩
  rcases e with e|⟨o,e⟩
  ·exact .inl (by rw[bo ne];exact e)
  ·exact .inr ⟨o,by rw[bo ne];exact e⟩
 |dK ps=>obtain⟨vs,e,d⟩:=h;exact⟨vs,by rw[bo ne];exact e,d.keep k⟩
 |rng lo hi=>show L2.upd H p ho a=_;rw[bo ne];exact h
 |ins C dx fs=>obtain⟨vs,e,d⟩:=h;exact⟨vs,by rw[bo ne];exact e,DFv.keep k _ d⟩
 |exc C=>show L2.upd H p ho a=_;rw[bo ne];exact h
 |rd ps=>
  obtain⟨vs,e,d⟩:=h
  refine⟨vs,?_,d.keep k⟩
  rcases e with e|⟨o,e⟩
  ·exact .inl (by rw[bo ne];exact e)
  ·exact .inr ⟨o,by rw[bo ne];exact e⟩
theorem Rep.upd{ho:HO}(r:Rep K H G)(k:Keep K H (upd H p ho))(hG:∀a o,G' a=some o->a≠p->G a=some o)(hp:∀o,G' p=some o->RepO K (L2.upd H p ho) p o):Rep K (L2.upd H p ho) G':=λa o e=>by
 by_cases hb:a=p
 ·subst hb;exact hp o e
 ·exact(r a o (hG a o e hb)).upd k hb
theorem Rep.tup{vs:List V}(r:Rep K H G)(h:H p=Option.none):Rep K (L2.upd H p (.tup vs)) G:=r.upd (bK h) (λ_ _ e _=>e) λo e=>by rw[r.none h]at e;cases e
theorem Rep.new{vs:List V}{ps:List PV}(r:Rep K H G)(h:H p=Option.none)(d:Dvs K H ps vs):Rep K (L2.upd H p (.lst vs)) (up G p (.lst ps)):=by
 refine r.upd (bK h) (λa o e ne=>by rw[aK ne]at e;exact e) λo e=> ?_
 rw[ao]at e;cases e
 exact⟨vs,cb,d.keep (bK h)⟩
theorem Rep.put{vs vs0:List V}{ps:List PV}(r:Rep K H G)(h:H p=i9 (.lst vs0))(d:Dvs K H ps vs):Rep K (L2.upd H p (.lst vs)) (up G p (.lst ps)):=by
 refine r.upd (fO h) (λa o e ne=>by rw[aK ne]at e;exact e) λo e=> ?_
 rw[ao]at e;cases e
 exact⟨vs,cb,d.keep (fO h)⟩
theorem Rep.sub(r:Rep K H G)(h:∀a o,G' a=i9 o->G a=i9 o):Rep K H G':=λa o e=>r a o (h a o e)
theorem Rep.lst{ps:List PV}{a:Addr}(r:Rep K H G)(h:G a=i9 (.lst ps)):∃vs,H a=i9 (.lst vs)/\Dvs K H ps vs:=r a _ h
end
noncomputable abbrev jc:=List (Option PV)
noncomputable abbrev K2:=PV->Gp->Prop
noncomputable abbrev E2:=jc->Gp->K2->Prop
noncomputable abbrev T2:=jc->Gp->(Bool->Gp->Prop)->Prop
noncomputable abbrev A2:=jc->Gp->(List PV->Gp->Prop)->Prop
structure D2 where
 nx:jc->Gp->Prop
 rt:K2
 bk:jc->Gp->Prop:=λ_ _=>False
 ct:jc->Gp->Prop:=λ_ _=>False
noncomputable abbrev S2:=D2->jc->Gp->Prop
@[reducible] noncomputable def gt:jc->Nat->Option PV
 |[],_=>none
 |x::_,0=>x
 |_::r,n+1=>gt r n
@[reducible] noncomputable def st:jc->Nat->Option PV->jc
 |[],_,_=>[]
 |_::r,0,v=>v::r
 |x::r,n+1,v=>x::st r n v
theorem Ce:∀(τ:jc) (i:Nat),gt τ i=(τ[i]?).getD none
 |[],i=>by simp[gt]
 |x::_,0=>by simp[gt]
 |_::r,n+1=>by simp[gt,Ce r n]
theorem yC{τ:jc}{i:Nat}{p:PV}(h:gt τ i=some p):τ[i]? =some (some p):=by
 rw[Ce]at h
 cases e:τ[i]? with
 |none=>rw[e]at h;cases h
 |some z=>rw[e]at h;exact congrArg some h
theorem vP:∀(τ:jc) (i:Nat) (v:Option PV),st τ i v=τ.set i v
 |[],_,_=>rfl
 |_::_,0,_=>rfl
 |x::r,n+1,v=>by simp[st,vP r n v]
noncomputable def RSt(K:PySem.W.Frag)(H:Hp)(σ:St)(τ:jc):Prop:=τ.length=σ.length/\∀(i:Nat) p,τ[i]? =some (some p)->∃v,σ[i]? =some (some v)/\Dv K H p v
theorem RSt.keep{K:PySem.W.Frag}{H H':Hp}{σ:St}{τ:jc}(r:RSt K H σ τ)(k:Keep K H H'):RSt K H' σ τ:=⟨r.1,λi p e=>let⟨v,a,b⟩:=r.2 i p e;⟨v,a,b.keep k⟩⟩
theorem RSt.set0{K:PySem.W.Frag}{H:Hp}{σ:St}{τ:jc}{p:PV}{v:V}(r:RSt K H σ τ)(d:Dv K H p v)(i:Nat):RSt K H (σ.set i (some v)) (τ.set i (some p)):=by
 refine⟨by simp[r.1],λj q e=> ?_⟩
 by_cases hj:i=j
 ·subst hj
  have hi:i<τ.length:=by
   have:=(aj.mp e).1
   simpa using this
  rw[cw hi]at e
  cases e
  exact⟨v,by rw[cw (by rw[<-r.1];exact hi)],d⟩
 ·rw[bW hj]at e⊢
  exact r.2 j q e
theorem RSt.set{K:PySem.W.Frag}{H:Hp}{σ:St}{τ:jc}{p:PV}{v:V}(r:RSt K H σ τ)(d:Dv K H p v)(i:Nat):RSt K H (σ.set i (some v)) (st τ i (some p)):=by
 rw[vP];exact r.set0 d i
noncomputable def Cl(K:PySem.W.Frag)(H:Hp)(Q2:K2)(Q:VK):Prop:=∀p G v H',Q2 p G->Dv K H' p v->Rep K H' G->Keep K H H'->Q v H'
noncomputable def ClT(K:PySem.W.Frag)(H:Hp)(Q2:Bool->Gp->Prop)(Q:Bool->Hp->Prop):Prop:=∀b G H',Q2 b G->Rep K H' G->Keep K H H'->Q b H'
noncomputable def ClS(K:PySem.W.Frag)(H:Hp)(Q2:jc->Gp->Prop)(Q:St->Hp->Prop):Prop:=∀τ G σ H',Q2 τ G->RSt K H' σ τ->Rep K H' G->Keep K H H'->Q σ H'
theorem Cl.keep{K:PySem.W.Frag}{H H':Hp}{Q2:K2}{Q:VK}(c:Cl K H Q2 Q)(k:Keep K H H'):Cl K H' Q2 Q:=λp G v H2 q d r k2=>c p G v H2 q d r (k.trans k2)
theorem ClT.keep{K:PySem.W.Frag}{H H':Hp}{Q2:Bool->Gp->Prop}{Q:Bool->Hp->Prop}(c:ClT K H Q2 Q)(k:Keep K H H'):ClT K H' Q2 Q:=λp G H2 q r k2=>c p G H2 q r (k.trans k2)
theorem ClS.keep{K:PySem.W.Frag}{H H':Hp}{Q2:jc->Gp->Prop}{Q:St->Hp->Prop}(c:ClS K H Q2 Q)(k:Keep K H H'):ClS K H' Q2 Q:=λp G v H2 q d r k2=>c p G v H2 q d r (k.trans k2)
noncomputable def ou(K:PySem.W.Frag)(t:E2):TE:=λσ H Q=>∃τ G Q2,RSt K H σ τ/\Rep K H G/\t τ G Q2/\Cl K H Q2 Q
noncomputable def uE(K:PySem.W.Frag)(t:T2):TT:=λσ H Q=>∃τ G Q2,RSt K H σ τ/\Rep K H G/\t τ G Q2/\ClT K H Q2 Q
noncomputable def BP(K:PySem.W.Frag)(t:A2):TA:=λσ H Q=>∃τ G Q2,RSt K H σ τ/\Rep K H G/\t τ G Q2/\∀ps G' vs H',Q2 ps G'->Dvs K H' ps vs->Rep K H' G'->Keep K H H'->Q vs H'
structure ClD(K:PySem.W.Frag)(H:Hp)(D2:D2)(D:Ends):Prop where
 nx:ClS K H D2.nx D.nx
 rt:Cl K H D2.rt D.rt
 bk:ClS K H D2.bk D.bk
 ct:ClS K H D2.ct D.ct
theorem ClD.keep{K:PySem.W.Frag}{H H':Hp}{Q2:L3.D2}{Q:Ends}(c:ClD K H Q2 Q)(k:Keep K H H'):ClD K H' Q2 Q:=⟨c.nx.keep k,c.rt.keep k,c.bk.keep k,c.ct.keep k⟩
noncomputable def zn(K:PySem.W.Frag)(t:S2):TS:=λD σ H=>∃τ G D2,RSt K H σ τ/\Rep K H G/\t D2 τ G/\ClD K H D2 D
structure JE(X:Cx)(e:Expr)(t:E2):Prop where
 h:PE X e (ou X.K t)
structure JT(X:Cx)(e:Expr)(t:T2):Prop where
 h:PT X e (uE X.K t)
structure JW(X:Cx)(e:Expr)(t:T2):Prop where
 h:PW X e (uE X.K t)
structure JA(X:Cx)(es:List Expr)(t:A2):Prop where
 h:PA X es (BP X.K t)
structure JS(X:Cx)(st:Stmt)(t:S2):Prop where
 h:PS X st (zn X.K t)
structure JB(X:Cx)(st:List Stmt)(t:S2):Prop where
 h:PSs X st (zn X.K t)
section
variable{X:Cx}{e:Expr}
theorem JE.of{t:E2}{u:TE}(h:PE X e u)(w:∀σ H Q,ou X.K t σ H Q->u σ H Q):JE X e t:=⟨λpins s σ H Q I q=>h pins s σ H Q I (w σ H Q q)⟩
theorem JT.of{t:T2}{u:TT}(h:PT X e u)(w:∀σ H Q,uE X.K t σ H Q->u σ H Q):JT X e t:=⟨λpins s σ H Q I q=>h pins s σ H Q I (w σ H Q q)⟩
theorem JW.of{t:T2}{u:TT}(h:PW X e u)(w:∀σ H Q,uE X.K t σ H Q->u σ H Q):JW X e t:=⟨λwh pins s σ H Q I q=>h wh pins s σ H Q I (w σ H Q q)⟩
theorem JA.of{es:List Expr}{t:A2}{u:TA}(h:PA X es u)(w:∀σ H Q,BP X.K t σ H Q->u σ H Q):JA X es t:=⟨λpos pins s σ H Q I q=>h pos pins s σ H Q I (w σ H Q q)⟩
theorem JS.of{st:Stmt}{t:S2}{u:TS}(h:PS X st u)(w:∀D σ H,zn X.K t D σ H->u D σ H):JS X st t:=⟨λpins s σ H D I q=>h pins s σ H D I (w D σ H q)⟩
theorem JB.of{st:List Stmt}{t:S2}{u:TS}(h:PSs X st u)(w:∀D σ H,zn X.K t D σ H->u D σ H):JB X st t:=⟨λpins s σ H D I q=>h pins s σ H D I (w D σ H q)⟩
end
noncomputable def o8(b:Bool)(A B:Prop):Prop:=match b with
 |true=>A
 |false=>B
theorem jD{c:Bool}{A B:Prop}(e:c=true)(h:A):o8 c A B:=by subst e;exact h
theorem nZ{c:Bool}{A B:Prop}(e:c=false)(h:B):o8 c A B:=by subst e;exact h
theorem Mh{c:Bool}{A B:Prop}(h:c=true->A)(h2:c=false->B):o8 c A B:=by cases c with|true=>exact h rfl|false=>exact h2 rfl
noncomputable abbrev eV(i:Nat):E2:=λτ G Q=>match gt τ i with
 |some p=>Q p G
 |none=>False
noncomputable abbrev eC(p:PV):E2:=λ_ G Q=>Q p G
noncomputable abbrev NP:A2:=λ_ G Q=>Q [] G
noncomputable abbrev L5(t:E2)(u:A2):A2:=λτ G Q=>t τ G λp G1=>u τ G1 λps G2=>Q (p::ps) G2
noncomputable abbrev NG(t:A2):E2:=λτ G Q=>t τ G λps G1=>ps.length<=1000/\Q (.tup ps) G1
noncomputable abbrev NI(t:A2):E2:=λτ G Q=>t τ G λps G1=>ps.length<=1000/\∀p,G1 p=none->Q (.ref p) (up G1 p (.lst ps))
noncomputable abbrev B2:=PV->PV->Gp->K2->Prop
noncomputable def fL(K:PySem.W.Frag)(r:B2):R2:=λx y H Q=>∃p q G Q2,Dv K H p x/\Dv K H q y/\Rep K H G/\r p q G Q2/\Cl K H Q2 Q
noncomputable abbrev mz(r:B2)(ta tb:E2):E2:=λτ G Q=>ta τ G λx G1=>tb τ G1 λy G2=>r x y G2 Q
noncomputable abbrev U2:=PV->Gp->K2->Prop
noncomputable def KU(K:PySem.W.Frag)(r:U2):V->Hp->VK->Prop:=λx H Q=>∃p G Q2,Dv K H p x/\Rep K H G/\r p G Q2/\Cl K H Q2 Q
noncomputable abbrev eUn(r:U2)(ta:E2):E2:=λτ G Q=>ta τ G λx G1=>r x G1 Q
noncomputable abbrev C2:=List PV->Gp->K2->Prop
noncomputable def pN(K:PySem.W.Frag)(r:C2):List V->Hp->VK->Prop:=λxs H Q=>∃ps G Q2,Dvs K H ps xs/\Rep K H G/\r ps G Q2/\Cl K H Q2 Q
noncomputable abbrev zX(r:C2)(t:A2):E2:=λτ G Q=>t τ G λps G1=>r ps G1 Q
noncomputable abbrev M2:=PV->List PV->Gp->K2->Prop
noncomputable def sH(K:PySem.W.Frag)(r:M2):V->List V->Hp->VK->Prop:=λx xs H Q=>∃p ps G Q2,Dv K H p x/\Dvs K H ps xs/\Rep K H G/\r p ps G Q2/\Cl K H Q2 Q
noncomputable abbrev Aq(t:E2):T2:=λτ G Q=>t τ G λx G1=>match x with
 | .bl b=>Q b G1
 |_=>False
noncomputable abbrev tNo(t:T2):T2:=λτ G Q=>t τ G λb G1=>Q (!b) G1
noncomputable abbrev Mx(t u:T2):T2:=λτ G Q=>t τ G λb G1=>o8 b (Q true G1) (u τ G1 Q)
noncomputable abbrev Kc(t u:T2):T2:=λτ G Q=>t τ G λb G1=>o8 b (u τ G1 Q) (Q false G1)
noncomputable abbrev LO(t u:E2):E2:=λτ G Q=>t τ G λx G1=>match x with
 | .bl b=>o8 b (u τ G1 Q) (Q (.bl false) G1)
 |_=>False
noncomputable abbrev NJ(c:T2)(t u:E2):E2:=λτ G Q=>c τ G λb G1=>o8 b (t τ G1 Q) (u τ G1 Q)
section
variable{X:Cx}{a b c e:Expr}{es:List Expr}{ta tb:E2}{t:A2}{tA tB:T2}{pos p:Pos}{x:Str}
theorem jv(i:Nat)(hN:X.N[i]? =some x:=by rfl)(hv:Mj X.env.scope x:=by first|exact iJ rfl|exact ik (iJ rfl)|exact ik (ik rfl))(hd:(x==("__debug__" :Str))=false:=by decide)
  (hcd:(x==("__classdict__" :Str))=false:=by decide):JE X (.Name x pos) (eV i):= .of (Hm hN hv hd hcd) λσ H Q ⟨τ,G,Q2,rs,rp,h,cl⟩=>by
 unfold eV at h
 split at h
 ·rename_i p e
  obtain⟨v,ev,d⟩:=rs.2 i p (yC e)
  exact⟨v,ev,cl _ _ _ _ h d rp .refl⟩
 ·exact h.elim
theorem JE.const{p:PV}{v:V}(h:PE X e (tC v))(d:∀H,Dv X.K H p v):JE X e (eC p):= .of h λσ H Q hPl=>by obtain⟨τ,G,Q2,rs,rp,q,cl⟩:=hPl;exact cl _ _ _ _ q (d H) rp .refl
theorem Lm{i:Int}{j:Nat}:JE X (.Constant (.int i) j pos) (eC (.int i)):= .const A7 λ_=>rfl
theorem Nx{v:Bool}{j:Nat}:JE X (.Constant (.bool v) j pos) (eC (.bl v)):= .const Kt λ_=>rfl
theorem Li{j:Nat}:JE X (.Constant .none j pos) (eC .non):= .const Hr λ_=>rfl
theorem Lf{z:Str}{j:Nat}:JE X (.Constant (.str z) j pos) (eC (.str z)):= .const Ho λ_=>rfl
theorem wx{v:V}{q:PV}{u:ae}(hm:X.mg x=some u)(r:RelV v u)(d:∀H,Dv X.K H q v)(hg:Gl X x:=by rfl)(hd:(x==("__debug__" :Str))=false:=by decide):JE X (.Name x pos) (eC q):= .const (Eb hg hm r hd) d
theorem Nv{T:String}(hm:X.mg x=none)(hv:cj x=some (.type T))(hg:Gl X x:=by rfl)(hn:x≠ "__name__" :=by decide)(hd:(x==("__debug__" :Str))=false:=by decide):JE X (.Name x pos) (eC (.ty T)):=
 .const (Eh (v:= .ty T) hg hm hv rfl hn hd) λ_=>rfl
theorem Iz:JA X [] NP:= .of Hv λσ H Q hPl=>by obtain⟨τ,G,Q2,rs,rp,q,cl⟩:=hPl;exact cl _ _ _ _ q .nil rp .refl
theorem E1(ha:JE X e ta)(hr:JA X es t)(hs:al (e::es) X.env=(false,eval e X.env)::al es X.env:=by rfl):JA X (e::es) (L5 ta t):= .of (Ek ha.h hr.h hs) λσ H Q hPl=>by
 obtain⟨τ,G,Q2,rs,rp,q,cl⟩:=hPl
 refine⟨τ,G,_,rs,rp,q,λp G1 v H1 q1 d1 r1 k1=> ?_⟩
 exact⟨τ,G1,_,rs.keep k1,r1,q1,λps G2 vs H2 q2 d2 r2 k2=>cl _ _ _ _ q2 (.cons (d1.keep k2) d2) r2 (k1.trans k2)⟩
theorem Le{x1:Nat}(h:JA X es t):JE X (.Tuple es x1 pos) (NG t):= .of (Hn h.h) λσ H Q hPl=>by
 obtain⟨τ,G,Q2,rs,rp,q,cl⟩:=hPl
 refine⟨τ,G,_,rs,rp,q,λps G1 vs H1 q1 d1 r1 k1=> ?_⟩
 obtain⟨hl,q1⟩:=q1
 refine⟨by rw[d1.length];exact aZ hl (by decide),λa ha=> ?_⟩
 have kn:Keep X.K H1 (upd H1 a (.tup vs)):=bK ha
 exact cl _ _ _ _ q1 ⟨a,vs,rfl,.of cb,d1.keep kn⟩ (r1.tup ha) (k1.trans kn)
theorem Lk(h:JA X es t):JE X (.List es pos) (NI t):= .of (Hs h.h) λσ H Q hPl=>by
 obtain⟨τ,G,Q2,rs,rp,q,cl⟩:=hPl
 refine⟨τ,G,_,rs,rp,q,λps G1 vs H1 q1 d1 r1 k1=> ?_⟩
 obtain⟨hl,q1⟩:=q1
 refine⟨by rw[d1.length];exact aZ hl (by decide),λa ha=> ?_⟩
 have kn:Keep X.K H1 (upd H1 a (.lst vs)):=bK ha
 exact cl _ _ _ _ (q1 a (r1.none ha)) rfl (r1.new ha d1) (k1.trans kn)
theorem sF{r:B2}{σ:St}{H:Hp}{Q:VK}(q:ou X.K (mz r ta tb) σ H Q):JX (fL X.K r) (ou X.K ta) (ou X.K tb) σ H Q:=by
 obtain⟨τ,G,Q2,rs,rp,q,cl⟩:=q
 refine⟨τ,G,_,rs,rp,q,λp G1 v H1 q1 d1 r1 k1=>⟨τ,G1,_,rs.keep k1,r1,q1,λp2 G2 v2 H2 q2 d2 r2 k2=> ?_⟩⟩
 exact⟨p,p2,G2,Q2,d1.keep k2,d2,r2,q2,cl.keep (k1.trans k2)⟩
theorem qD{op:jB}{r:B2}(ho:gW X (cx op) (fL X.K r))(ha:JE X a ta)(hb:JE X b tb):JE X (.BinOp a op b pos) (mz r ta tb):= .of (Kr ho ha.h hb.h) λσ H Q q=>sF q
theorem B5{op:CmpOp}{r:B2}(ho:gW X (cr op) (fL X.K r))(ha:JE X a ta)(hb:JE X b tb)(hm:eW op b=false):JE X (.Compare a [op] [b] pos) (mz r ta tb):= .of (Eg ho ha.h hb.h hm) λσ H Q q=>sF q
theorem yo{u:TE}(w:∀σ H Q,ou X.K ta σ H Q->u σ H Q){σ:St}{H:Hp}{Q:Bool->Hp->Prop}(q:uE X.K (Aq ta) σ H Q):FE u σ H Q:=by
 obtain⟨τ,G,Q2,rs,rp,q,cl⟩:=q
 refine w _ _ _ ⟨τ,G,_,rs,rp,q,λp G1 v H1 q1 d1 r1 k1=> ?_⟩
 cases p with
 |bl b=>
  obtain rfl:v= .bl b:=d1
  exact⟨b,rfl,cl _ _ _ q1 r1 k1⟩
 |_=>exact bG q1
theorem iO{op:CmpOp}{r:B2}(ho:gW X (cr op) (fL X.K r))(ha:JE X a ta)(hb:JE X b tb)(hm:eW op b=false):JT X (.Compare a [op] [b] pos) (Aq (mz r ta tb)):= .of (DN ho ha.h hb.h hm) λσ H Q q=>yo (λ_ _ _ z=>sF z) q
theorem Ia(h:JE X e ta)(he:∀whole,isTrue e X.env whole=(do let v <-whole;standAt e.pos;holding [v] (truthy v)):=by intro _;rfl):JT X e (Aq ta):= .of (Ha h.h he) λσ H Q q=>yo (λ_ _ _ z=>z) q
theorem Ib(ha:JT X a tA):JT X (.UnaryOp .Not a pos) (tNo tA):= .of (Hb ha.h) λσ H Q hPl=>by obtain⟨τ,G,Q2,rs,rp,q,cl⟩:=hPl;exact⟨τ,G,_,rs,rp,q,λb G1 H1 q1 r1 k1=>cl _ _ _ q1 r1 k1⟩
theorem HZ(ha:JT X a tA):JW X (.BoolOp .Or [a] pos) tA:=⟨GY ha.h⟩
theorem EH(ha:JT X a tA):JW X (.BoolOp .And [a] pos) tA:=⟨DM ha.h⟩
theorem K0{rest:List Expr}(ha:JT X a tA)(hb:JW X (.BoolOp .Or (b::rest) pos) tB):JW X (.BoolOp .Or (a::b::rest) pos) (Mx tA tB):= .of (Kn ha.h hb.h) λσ H Q hPl=>by
 obtain⟨τ,G,Q2,rs,rp,q,cl⟩:=hPl
 refine⟨τ,G,_,rs,rp,q,λb G1 H1 q1 r1 k1=> ?_⟩
 cases b with
 |true=>exact uO (cl _ _ _ q1 r1 k1)
 |false=>exact uP ⟨τ,G1,Q2,rs.keep k1,r1,q1,cl.keep k1⟩
theorem H0{rest:List Expr}(ha:JT X a tA)(hb:JW X (.BoolOp .And (b::rest) pos) tB):JW X (.BoolOp .And (a::b::rest) pos) (Kc tA tB):= .of (GZ ha.h hb.h) λσ H Q hPl=>by
 obtain⟨τ,G,Q2,rs,rp,q,cl⟩:=hPl
 refine⟨τ,G,_,rs,rp,q,λb G1 H1 q1 r1 k1=> ?_⟩
 cases b with
 |true=>exact uO ⟨τ,G1,Q2,rs.keep k1,r1,q1,cl.keep k1⟩
 |false=>exact uP (cl _ _ _ q1 r1 k1)
theorem JW.jt(h:JW X e tA):JT X e tA:=⟨h.h.pt⟩
theorem Lh{op:BoolOp}(h:JE X a ta):JE X (.BoolOp op [a] pos) ta:=⟨Hq h.h⟩
theorem Lp{rest:List Expr}(ha:JE X a ta)(hb:JE X (.BoolOp .And (b::rest) pos) tb):JE X (.BoolOp .And (a::b::rest) pos) (LO ta tb):= .of (Hu ha.h hb.h) λσ H Q hPl=>by
 obtain⟨τ,G,Q2,rs,rp,q,cl⟩:=hPl
 refine⟨τ,G,_,rs,rp,q,λp G1 v H1 q1 d1 r1 k1=> ?_⟩
 cases p with
 |bl b=>
  obtain rfl:v= .bl b:=d1
  refine⟨b,rfl,?_⟩
  cases b with
  |true=>exact uO ⟨τ,G1,Q2,rs.keep k1,r1,q1,cl.keep k1⟩
  |false=>exact uP (cl _ _ _ _ q1 rfl r1 k1)
 |_=>exact bG q1
theorem Ln(hc:JT X c tA)(ha:JE X a ta)(hb:JE X b tb):JE X (.IfExp c a b pos) (NJ tA ta tb):= .of (A8 hc.h ha.h hb.h) λσ H Q hPl=>by
 obtain⟨τ,G,Q2,rs,rp,q,cl⟩:=hPl
 refine⟨τ,G,_,rs,rp,q,λb G1 H1 q1 r1 k1=> ?_⟩
 cases b with
 |true=>exact uO ⟨τ,G1,Q2,rs.keep k1,r1,q1,cl.keep k1⟩
 |false=>exact uP ⟨τ,G1,Q2,rs.keep k1,r1,q1,cl.keep k1⟩
theorem Nu{op:UnaryOp}{r:U2}(ho:L7 X (unaryOp op) (KU X.K r))(ha:JE X a ta):JE X (.UnaryOp op a pos) (eUn r ta):= .of (FY ho ha.h) λσ H Q hPl=>by
 obtain⟨τ,G,Q2,rs,rp,q,cl⟩:=hPl
 exact⟨τ,G,_,rs,rp,q,λp G1 v H1 q1 d1 r1 k1=>⟨p,G1,Q2,d1,r1,q1,cl.keep k1⟩⟩
theorem Nw{r:B2}(hr:JK X (fL X.K r))(ha:JE X a ta)(hb:JE X b tb)(hs:tF b):JE X (.Subscript a b pos) (mz r ta tb):= .of (Ks hr ha.h hb.h hs) λσ H Q q=>sF q
theorem BM{r:C2}{σ:St}{H:Hp}{Q:VK}(q:ou X.K (zX r t) σ H Q):MK (pN X.K r) (BP X.K t) σ H Q:=by
 obtain⟨τ,G,Q2,rs,rp,q,cl⟩:=q
 exact⟨τ,G,_,rs,rp,q,λps G1 vs H1 q1 d1 r1 k1=>⟨ps,G1,Q2,d1,r1,q1,cl.keep k1⟩⟩
theorem mv{id:String}{r:C2}(hc:gE X (.builtin id) (pN X.K r))(hm:X.mg x=none)(hv:cj x=some (.builtin id))(ha:JA X (e::es) t)(hg:Gl X x:=by rfl)(hn:x≠ "__name__" :=by decide)(hdb:(x==("__debug__" :Str))=false:=by decide)
  (he:al (e::es) X.env=(false,eval e X.env)::al es X.env:=by rfl) (hpl:(bC pos (al es X.env)).any (·.1)=false:=by rfl):JE X (.Call (.Name x p) (e::es) [] pos) (zX r t):= .of (Bc hc hg hm hv ha.h hn hdb he hpl) λσ H Q q=>BM q
theorem pT{T:String}{r:C2}(hc:gE X (.type T) (pN X.K r))(hm:X.mg x=none)(hv:cj x=some (.type T))(ha:JA X (e::es) t)(hg:Gl X x:=by rfl)(hn:x≠ "__name__" :=by decide)(hdb:(x==("__debug__" :Str))=false:=by decide)
  (he:al (e::es) X.env=(false,eval e X.env)::al es X.env:=by rfl) (hpl:(bC pos (al es X.env)).any (·.1)=false:=by rfl):JE X (.Call (.Name x p) (e::es) [] pos) (zX r t):= .of (y3 hc hg hm hv ha.h hn hdb he hpl) λσ H Q q=>BM q
end
noncomputable abbrev FQ:S2:=λD τ G=>D.nx τ G
noncomputable abbrev MX(t u:S2):S2:=λD τ G=>t {D with nx:=u D} τ G
noncomputable abbrev MY(t:E2):S2:=λD τ G=>t τ G D.rt
noncomputable abbrev Kh(t:E2):S2:=λD τ G=>t τ G λ_ G1=>D.nx τ G1
noncomputable abbrev sIf(c:T2)(t u:S2):S2:=λD τ G=>c τ G λb G1=>o8 b (t D τ G1) (u D τ G1)
noncomputable abbrev FA:=PV->jc->Gp->(jc->Gp->Prop)->Prop
noncomputable def KW(K:PySem.W.Frag)(g:FA):TG:=λv σ H Q=>∃p τ G Q2,Dv K H p v/\RSt K H σ τ/\Rep K H G/\g p τ G Q2/\ClS K H Q2 Q
structure JG(X:Cx)(tg:Expr)(g:FA):Prop where
 h:PG X tg (KW X.K g)
theorem JG.of{X:Cx}{tg:Expr}{g:FA}{u:TG}(h:PG X tg u)(w:∀v σ H Q,KW X.K g v σ H Q->u v σ H Q):JG X tg g:=⟨λpins s σ H v z Q I r q=>h pins s σ H v z Q I r (w v σ H Q q)⟩
noncomputable abbrev gN(i:Nat):FA:=λp τ G Q=>Q (st τ i (some p)) G
noncomputable abbrev DG(t:E2)(g:FA):S2:=λD τ G=>t τ G λp G1=>g p τ G1 D.nx
section
variable{X:Cx}{b c e tg:Expr}{ta:E2}{tA:T2}{pos p:Pos}{x:Str}{st:Stmt}{rest sa sb:List Stmt}{u v:S2}{g:FA}
theorem ES{i:Nat}(hN:X.N.Nodup)(hi:X.N[i]? =some x)(hx:Df X.env.scope x)(hf:X.fn x=true\/X.env.scope.names.lookup x=some .local:=by first|exact .inl rfl|exact .inr rfl|assumption):JG X (.Name x pos) (gN i):=
 .of (oR hN hi hx hf) λv σ H Q hPl=>by obtain⟨p,τ,G,Q2,d,rs,rp,q,cl⟩:=hPl;exact cl _ _ _ _ q (rs.set d i) rp .refl
theorem nG(he:JE X e ta)(hg:JG X tg g)(hs:swapsWithSole [tg] e pos.line X.env=pure false:=by rfl)(hw:swappedStores [tg] e X.env=pure none:=by rfl)
  (h1:(jA [tg] X.env).map (·.2)=[assign tg X.env]:=by rfl):JS X (.Assign [tg] e pos) (DG ta g):= .of (Hh he.h hg.h hs hw h1) λD σ H ⟨τ,G,D2,rs,rp,q,cl⟩=>by
 exact⟨τ,G,_,rs,rp,q,λp G1 v H1 q1 d1 r1 k1=>⟨p,τ,G1,D2.nx,d1,rs.keep k1,r1,q1,cl.nx.keep k1⟩⟩
theorem Ie{i:Nat}{pos':Pos}(he:JE X e ta)(hN:X.N.Nodup)(hi:X.N[i]? =some x)(hx:Df X.env.scope x)(hs:eN e (some (.Name x pos')) pos.line X.env=pure false:=by rfl)
  (hf:X.fn x=true\/X.env.scope.names.lookup x=some .local:=by first|exact .inl rfl|exact .inr rfl|assumption):JS X (.Assign [.Name x pos'] e pos) (DG ta (gN i)):= .of (Hc hN hi hx he.h hs hf) λD σ H ⟨τ,G,D2,rs,rp,q,cl⟩=>by
 exact⟨τ,G,_,rs,rp,q,λp G1 v H1 q1 d1 r1 k1=>cl.nx _ _ _ _ q1 ((rs.keep k1).set d1 i) r1 k1⟩
theorem EK(he:JE X e ta)(hs:eN e none pos.line X.env=pure false:=by rfl):JS X (.Expr e pos) (Kh ta):= .of (DR he.h hs) λD σ H hPl=>by
 obtain⟨τ,G,D2,rs,rp,q,cl⟩:=hPl
 exact⟨τ,G,_,rs,rp,q,λp G1 v H1 q1 d1 r1 k1=>cl.nx _ _ _ _ q1 (rs.keep k1) r1 k1⟩
theorem Ig(he:JE X e ta):JS X (.Return (some e) pos) (MY ta):= .of (Hd he.h) λD σ H hPl=>by obtain⟨τ,G,D2,rs,rp,q,cl⟩:=hPl;exact⟨τ,G,_,rs,rp,q,cl.rt⟩
theorem K9(hc:JT X c tA)(ha:JB X sa u)(hb:JB X sb v):JS X (.If c sa sb pos) (sIf tA u v):= .of (Ko hc.h ha.h hb.h) λD σ H hPl=>by
 obtain⟨τ,G,D2,rs,rp,q,cl⟩:=hPl
 refine⟨τ,G,_,rs,rp,q,λb G1 H1 q1 r1 k1=> ?_⟩
 cases b with
 |true=>exact uO ⟨τ,G1,D2,rs.keep k1,r1,q1,cl.keep k1⟩
 |false=>exact uP ⟨τ,G1,D2,rs.keep k1,r1,q1,cl.keep k1⟩
theorem EJ:JS X (.Pass pos) FQ:= .of DQ λD σ H hPl=>by obtain⟨τ,G,D2,rs,rp,q,cl⟩:=hPl;exact cl.nx _ _ _ _ q rs rp .refl
theorem Iu:JB X [] FQ:= .of DP λD σ H hPl=>by obtain⟨τ,G,D2,rs,rp,q,cl⟩:=hPl;exact cl.nx _ _ _ _ q rs rp .refl
theorem Ir(h:JS X st u):JB X [st] u:=⟨DO h.h⟩
theorem EY{s2:Stmt}(h:JS X st u)(h2:JB X (s2::rest) v):JB X (st::s2::rest) (MX u v):= .of (AW h.h h2.h) λD σ H hPl=>by
 obtain⟨τ,G,D2,rs,rp,q,cl⟩:=hPl
 refine⟨τ,G,{D2 with nx:=v D2},rs,rp,q,⟨λτ1 G1 σ1 H1 q1 rs1 r1 k1=> ?_,cl.rt,cl.bk,cl.ct⟩⟩
 exact⟨τ1,G1,D2,rs1,r1,q1,cl.keep k1⟩
end
noncomputable abbrev wU:=PV->PV->PV->Gp->(Gp->Prop)->Prop
noncomputable def sG(K:PySem.W.Frag)(r:wU):wT:=λo i v H Q=>∃po pi pv G Q2,Dv K H po o/\Dv K H pi i/\Dv K H pv v/\Rep K H G/\r po pi pv G Q2/\∀G' H',Q2 G'->Rep K H' G'->Keep K H H'->Q H'
noncomputable def DC:wU:=λo i v G Q=>match o,i with
 | .ref a,.int k=>match G a with
  |some (.lst ps)=>match zC ps.length k with
   |some j=>Q (up G a (.lst (ps.set j v)))
   |none=>False
  |_=>False
 |_,_=>False
noncomputable abbrev Lz(to ti:E2)(r:wU):FA:=λp τ G Q=>to τ G λo G1=>ti τ G1 λi G2=>r o i p G2 λG3=>Q τ G3
theorem PSet.of{X:Cx}{t u:wT}(h:PSet X u)(w:∀o i v H Q,t o i v H Q->u o i v H Q):PSet X t:=λpins s σ H o i v ov iv z Q I r1 r2 r3 q=>h pins s σ H o i v ov iv z Q I r1 r2 r3 (w _ _ _ _ _ q)
theorem FK{X:Cx}:PSet X (sG X.K DC):=PSet.of AB λo i v H Q hPl=>by
 obtain⟨po,pi,pv,G,Q2,d1,d2,d3,rp,q,cl⟩:=hPl
 unfold DC at q
 split at q
 ·rename_i a k
  split at q
  ·rename_i ps e
   split at q
   ·rename_i j ej
    obtain rfl:o= .ref a:=d1
    obtain rfl:i= .int k:=d2
    obtain⟨vs,hv,dv⟩:=rp.lst e
    refine⟨a,vs,k,j,rfl,rfl,hv,by rw[dv.length];exact ej,cl _ _ q (rp.put hv (dv.set d3 j)) (fO hv)⟩
   ·exact q.elim
  ·exact q.elim
 ·exact q.elim
noncomputable abbrev LZ(i:Nat)(t:E2)(r:B2):S2:=λD τ G=>match gt τ i with
 |some x=>t τ G λy G1=>r x y G1 λz G2=>D.nx (st τ i (some z)) G2
 |none=>False
noncomputable abbrev LY(to ti te:E2)(rg r:B2)(rs:wU):S2:=λD τ G=>to τ G λo G1=>ti τ G1 λi G2=>rg o i G2 λx G3=>te τ G3 λy G4=>r x y G4 λz G5=>rs o i z G5 λG6=>D.nx τ G6
section
variable{X:Cx}{o i e:Expr}{to ti te:E2}{pos:Pos}{x:Str}
theorem pS{r:wU}(ho:JE X o to)(hi:JE X i ti)(hs:PSet X (sG X.K r))
  (ha:∀v,assign (.Subscript o i pos) X.env v=(do
   let ov <-holding [v] (eval o X.env)
   let iv <-holding [v,ov] (eval i X.env)
   standAt pos
   holding [v,ov,iv] (setItem ov iv v)
   release [v,ov,iv] []):=by intro _;rfl):JG X (.Subscript o i pos) (Lz to ti r):= .of (Hj ho.h hi.h hs ha) λv σ H Q ⟨p,τ,G,Q2,d,rs,rp,q,cl⟩=>by
 refine⟨τ,G,_,rs,rp,q,λp1 G1 v1 H1 q1 d1 r1 k1=>⟨τ,G1,_,rs.keep k1,r1,q1,λp2 G2 v2 H2 q2 d2 r2 k2=> ?_⟩⟩
 exact⟨p1,p2,p,G2,_,d1.keep k2,d2,d.keep (k1.trans k2),r2,q2,λG3 H3 q3 r3 k3=>cl _ _ _ _ q3 (rs.keep ((k1.trans k2).trans k3)) r3 ((k1.trans k2).trans k3)⟩
theorem nE{n:Nat}{op:jB}{r:B2}{pos':Pos}(ho:JJ X op (fL X.K r))(he:JE X e te)(hN:X.N.Nodup)(hi:X.N[n]? =some x)(hx:Df X.env.scope x)(hf:X.fn x=true\/X.env.scope.names.lookup x=some .local:=by first|exact .inl rfl|exact .inr rfl|assumption):
  JS X (.AugAssign (.Name x pos') op e pos) (LZ n te r):= .of (Hg hN hi hx he.h ho hf) λD σ H ⟨τ,G,D2,rs,rp,q,cl⟩=>by
 unfold LZ at q
 split at q
 ·rename_i p ep
  obtain⟨v,ev,d⟩:=rs.2 n p (yC ep)
  refine⟨v,ev,τ,G,_,rs,rp,q,λp1 G1 v1 H1 q1 d1 r1 k1=> ?_⟩
  exact⟨p,p1,G1,_,d.keep k1,d1,r1,q1,λp2 G2 v2 H2 q2 d2 r2 k2=>cl.nx _ _ _ _ q2 ((rs.keep (k1.trans k2)).set d2 n) r2 (k1.trans k2)⟩
 ·exact q.elim
theorem EL{op:jB}{rg r:B2}{rst:wU}{tpos:Pos}(hg:Js X (fL X.K rg))(hp:JJ X op (fL X.K r))(hs:PSet X (sG X.K rst))(ho:JE X o to)(hi:JE X i ti)(he:JE X e te)
  (ha:∀ov iv new,augStore i ov iv new=(do holding [new,ov,iv] (setItem ov iv new);release [new,ov,iv] [];pure .next):=by intros;rfl):JS X (.AugAssign (.Subscript o i tpos) op e pos) (LY to ti te rg r rst):= .of (DT ho.h hi.h hg he.h hp hs ha) λD σ H ⟨τ,G,D2,rs,rp,q,cl⟩=>by
 refine⟨τ,G,_,rs,rp,q,λp1 G1 v1 H1 q1 d1 r1 k1=>⟨τ,G1,_,rs.keep k1,r1,q1,λp2 G2 v2 H2 q2 d2 r2 k2=>⟨p1,p2,G2,_,d1.keep k2,d2,r2,q2,λp3 G3 v3 H3 q3 d3 r3 k3=>
  ⟨τ,G3,_,rs.keep ((k1.trans k2).trans k3),r3,q3,λp4 G4 v4 H4 q4 d4 r4 k4=>⟨p3,p4,G4,_,d3.keep k4,d4,r4,q4,λp5 G5 v5 H5 q5 d5 r5 k5=>⟨p1,p2,p5,G5,_,d1.keep (((k2.trans k3).trans k4).trans k5),d2.keep ((k3.trans k4).trans k5),d5,r5,q5,λG6 H6 q6 r6 k6=> ?_⟩⟩⟩⟩⟩⟩
 have kk:Keep X.K H H6:=((((k1.trans k2).trans k3).trans k4).trans k5).trans k6
 exact cl.nx _ _ _ _ q6 (rs.keep kk) r6 kk
end
noncomputable abbrev gP:=List PV->Gp->K2->Prop
noncomputable def FJ(K:PySem.W.Frag)(sp:gP):Sp:=λvs H Q _=>∃ps G Q2,Dvs K H ps vs/\Rep K H G/\sp ps G Q2/\Cl K H Q2 Q
@[reducible] noncomputable def gH:List Str->List PV->jc
 |[],_=>[]
 |_::N,p::ps=>some p::gH N ps
 |_::N,[]=>none::gH N []
theorem pA:∀N:List Str,gH N []=aE N.length none
 |[]=>rfl
 |_::N=>by simp[gH,pA N,bF]
theorem qT:∀(N:List Str) (ps:List PV),ps.length<=N.length->gH N ps=ps.map some++aE (N.length-ps.length) none
 |[],[],_=>rfl
 |[],_::_,h=>by simp at h
 |_::N,p::ps,h=>by
  simp only[gH,aD,aX,jJ]
  rw[qT N ps (by simpa using h)]
  simp
 |n::N,[],_=>by rw[pA];simp
theorem na{K:PySem.W.Frag}{H:Hp}{N:List Str}{ps:List PV}{vs:List V}(d:Dvs K H ps vs)(hN:ps.length<=N.length):RSt K H (L2.start N vs) (gH N ps):=by
 have hl:=d.length
 rw[qT N ps hN]
 refine⟨by unfold L2.start;simp[hl],λi p e=> ?_⟩
 unfold L2.start
 by_cases hi:i<ps.length
 ·rw[c6 (by simpa using hi),aI]at e
  rw[c6 (by simpa [hl]using hi),aI]
  cases q:ps[i]? with
  |none=>rw[q]at e;cases e
  |some p'=>
   rw[q]at e
   have:p'=p:=by simpa using e
   subst this
   obtain⟨v,ev,dv⟩:=d.at q
   exact⟨v,by rw[ev];rfl,dv⟩
 ·rw[bS (by simpa using Nat.le_of_not_lt hi),jG]at e
  split at e<;>cases e
noncomputable def GE(G0 G:Gp):Prop:=∀a o,G0 a=some o->G a=some o
theorem GE.refl{G:Gp}:GE G G:=λ_ _ h=>h
theorem GE.trans{G0 G1 G2:Gp}(a:GE G0 G1)(b:GE G1 G2):GE G0 G2:=λc o h=>b c o (a c o h)
theorem GE.new{G0 G:Gp}{a:Addr}{o:MO}(h:GE G0 G)(n:G a=none):GE G0 (up G a o):=λb u q=>by
 have:b≠a:=λz=>by subst z;rw[h _ _ q]at n;cases n
 rw[aK this];exact h b u q
noncomputable abbrev ic(P:aF)(w:aS)(K:PySem.W.Frag)(mg:Str->Option ae)(base:Heap)(k:Nat)(f:Addr)(fd:aR)(ps:List Str)(sp:gP):Prop:=FnOk P w K mg base FD k f fd ps (FJ K sp)
structure cE(P:aF)(w:aS)(K:PySem.W.Frag)(mg:Str->Option ae)(base:Heap)(k:Nat)(x:Str)(f:Addr)(fd:aR)(ps:List Str)(sp:gP):Prop where
 ok:ic P w K mg base k f fd ps sp
 b:Binds K fd ps []
 kp:PySem.W.keepIn K (.ref f)=true
 m:mg x=some (.ref f)
section
variable{P:aF}{w:aS}{K:PySem.W.Frag}{mg:Str->Option ae}{base:Heap}
theorem kG{x qual:Str}{st:Stmt}{f:Addr}{fd:aR}{N ps:List Str}{k:Nat}{sp:gP}(F:Fun K x qual st f fd)(S:bn N ps (aL st))(len:∀vs G Q,sp vs G Q->vs.length=ps.length)
  (hbody:∀(cdv:ae) (A:Around) (outer:List Env) (s:af) (H:Hp) (E:XK) (as:List PV) (G:Gp) (Q:K2),Room k (A.deeper (jE qual (aL st) s.heap.objs.size f cdv))->sp as G Q->
   ∃t,JB (gB FD P w K mg base N qual (aL st) f cdv A outer s H E).nox (gO st) t/\t {nx:=λ_ G'=>∃G0,GE G0 G'/\Q .non G0,rt:=λp G'=>∃G0,GE G0 G'/\Q p G0} (gH N as) G):ic P w K mg base (k+1) f fd ps sp:=by
 refine F.ok S (λvs H Q E h=> ?_) (λcdv A outer s H vs Q E hr h=> ?_)
 ·obtain⟨as,G,Q2,d,_,h,_⟩:=h
  rw[d.length];exact len _ _ _ h
 obtain⟨as,G,Q2,d,rp,h,cl⟩:=h
 obtain⟨t,j,q⟩:=hbody cdv A outer s H E as G Q2 hr h
 refine⟨_,j.h,gH N as,G,_,na d (by rw[len _ _ _ h,<-S.pre,bz];ac_nf),rp,q,⟨λτ G' σ H' ⟨G0,e0,q1⟩ _ r1 k1=>cl _ _ _ _ q1 rfl (r1.sub e0) k1,λp G' v H' ⟨G0,e0,q1⟩ d1 r1 k1=>cl _ _ _ _ q1 d1 (r1.sub e0) k1,λ_ _ _ _ q1=>q1.elim,λ_ _ _ _ q1=>q1.elim⟩⟩
end
noncomputable abbrev Gm(sp:gP)(t:A2):E2:=λτ G Q=>t τ G λps G1=>sp ps G1 Q
section
variable{X:Cx}{e:Expr}{es:List Expr}{t:A2}{pos p:Pos}{x:Str}
theorem BO{sp:gP}{σ:L2.St}{H:Hp}{Q:VK}(q:ou X.K (Gm sp t) σ H Q):FI (FJ X.K sp) [] E0 (BP X.K t) σ H Q:=by
 obtain⟨τ,G,Q2,rs,rp,q,cl⟩:=q
 refine⟨τ,G,_,rs,rp,q,λps G1 vs H1 q1 d1 r1 k1=> ?_⟩
 show FJ X.K sp (vs++[]) H1 Q E0
 rw[bI]
 exact⟨ps,G1,Q2,d1,r1,q1,cl.keep k1⟩
theorem Lo{k k':Nat}{f:Addr}{fd:aR}{ps:List Str}{sp:gP}(C:cE X.prog X.w X.K X.mg X.base k x f fd ps sp)(hr:Room k' X.A)(hk:k<=k')(ha:JA X (e::es) t)(hg:Gl X x:=by rfl)
  (hdb:(x==("__debug__" :Str))=false:=by decide) (he:al (e::es) X.env=(false,eval e X.env)::al es X.env:=by rfl) (hpl:(bC pos (al es X.env)).any (·.1)=false:=by rfl):
  JE X (.Call (.Name x p) (e::es) [] pos) (Gm sp t):= .of (yg (C.ok.mono hk) hr hg C.m C.kp C.b .nil yh ha.h hdb he hpl) λσ H Q q=>BO q
end
noncomputable abbrev GS(c:T2)(tb:S2):S2:=λD τ G=>∃W:Nat->jc->Gp->Prop,(∃m,W m τ G)/\∀m τ G,W m τ G->
 c τ G λb G1=>o8 b (tb {D with nx:=λτ' G'=>∃m',m'<m/\W m' τ' G',ct:=λτ' G'=>∃m',m'<m/\W m' τ' G',bk:=D.nx} τ G1) (D.nx τ G1)
section
variable{X:Cx}{c:Expr}{body:List Stmt}{tc:T2}{tb:S2}{pos:Pos}
theorem uL(hp:PassesOwn (aN X.prog X.w) X.A X.env X.xe)(hc:JT X c tc)(hb:JB X body tb):JS X (.While c body [] pos) (GS tc tb):= .of (AX hp hc.h hb.h) λD σ H ⟨τ,G,D2,rs,rp,⟨W,⟨m0,w0⟩,turn⟩,cl⟩=>by
 refine⟨λm σ' H'=>∃τ' G',W m τ' G'/\RSt X.K H' σ' τ'/\Rep X.K H' G'/\Keep X.K H H',⟨m0,τ,G,w0,rs,rp,.refl⟩,?_⟩
 rintro m σ1 H1 ⟨τ1,G1,w1,rs1,rp1,k1⟩
 refine⟨τ1,G1,_,rs1,rp1,turn m τ1 G1 w1,λb G2 H2 q2 r2 k2=> ?_⟩
 cases b with
 |false=>exact uP (cl.nx _ _ _ _ q2 (rs1.keep k2) r2 (k1.trans k2))
 |true=>
  refine uO ⟨λσ' H'=>∃τ' G',(∃m',m'<m/\W m' τ' G')/\RSt X.K H' σ' τ'/\Rep X.K H' G'/\Keep X.K H H',λσ' H' ⟨τ',G',⟨m',hm,w'⟩,a,b,c⟩=>⟨m',hm,τ',G',w',a,b,c⟩,?_⟩
  have kk:=k1.trans k2
  exact⟨τ1,G2,_,rs1.keep k2,r2,q2,⟨λτ' G' σ' H' q' a b c=>⟨τ',G',q',a,b,kk.trans c⟩,cl.rt.keep kk,cl.nx.keep kk,λτ' G' σ' H' q' a b c=>⟨τ',G',q',a,b,kk.trans c⟩⟩⟩
end
noncomputable abbrev rL:=jc->Gp->(List PV->(Gp->Prop)->Gp->Prop)->Prop
noncomputable def vj(K:PySem.W.Frag)(H1:Hp)(J:It)(items:List PV)(c:Gp->Prop):Prop:=∀(i:Nat) H G,Keep K H1 H->Rep K H G->c G->
 (i<items.length->J.go i H)/\(i=items.length->J.stop i H)/\∀x H',i<items.length->J.yld i H x H'->∃p,items[i]? =some p/\Keep K H H'/\Rep K H' G/\Dv K H' p x
noncomputable def EF(K:PySem.W.Frag)(t:rL):TI:=λσ H R=>∃τ G R2,RSt K H σ τ/\Rep K H G/\t τ G R2/\∀items c G' J H',R2 items c G'->Rep K H' G'->Keep K H H'->vj K H' J items c->R J H'
structure JI(X:Cx)(tg iter:Expr)(t:rL):Prop where
 h:PI X tg iter (EF X.K t)
theorem JI.of{X:Cx}{tg iter:Expr}{t:rL}{u:TI}(h:PI X tg iter u)(w:∀σ H R,EF X.K t σ H R->u σ H R):JI X tg iter t:=⟨λpins s σ H R I q=>h pins s σ H R I (w σ H R q)⟩
noncomputable abbrev MZ(ti:rL)(g:FA)(tb:S2):S2:=λD τ G=>ti τ G λitems c G1=>∃W:Nat->jc->Gp->Prop,W 0 τ G1/\(∀i τ G,i<=items.length->W i τ G->c G)/\
 (∀i x τ G,items[i]? =some x->W i τ G->g x τ G λτ' G'=>tb {D with nx:=W (i+1),ct:=W (i+1),bk:=D.nx} τ' G')/\∀τ G,W items.length τ G->D.nx τ G
section
variable{X:Cx}{tg iter:Expr}{body:List Stmt}{ti:rL}{g:FA}{tb:S2}{pos:Pos}
theorem BW(hp:PassesOwn (aN X.prog X.w) X.A X.env X.xe)(hc:X.calm=true)(hi:JI X tg iter ti)(hg:JG X tg g)(hb:JB X body tb)
  (hs:∀x,dI iter X.env x=pure x:=by intro _;rfl):JS X (.For tg iter body [] pos) (MZ ti g tb):= .of (He hp hc hi.h hg.h hb.h hs) λD σ H ⟨τ,G,D2,rs,rp,q,cl⟩=>by
 refine⟨τ,G,_,rs,rp,q,λitems c G1 J H1 q1 r1 k1 ok=> ?_⟩
 obtain⟨W,w0,hcW,turn,done⟩:=q1
 refine⟨λi m σ' H'=>m=items.length-i/\i<=items.length/\∃τ' G',W i τ' G'/\RSt X.K H' σ' τ'/\Rep X.K H' G'/\Keep X.K H1 H',⟨_,rfl,cg _,τ,G1,w0,rs.keep k1,r1,.refl⟩,?_⟩
 rintro i m σ2 H2 ⟨rfl,hi,τ2,G2,w2,rs2,rp2,k2⟩
 obtain⟨o1,o2,o3⟩:=ok i H2 G2 k2 rp2 (hcW i τ2 G2 hi w2)
 by_cases hlt:i<items.length
 ·refine .inr ⟨o1 hlt,λσ' H'=>i+1<=items.length/\∃τ' G',W (i+1) τ' G'/\RSt X.K H' σ' τ'/\Rep X.K H' G'/\Keep X.K H1 H',λσ' H' ⟨hl,z⟩=>⟨items.length-(i+1),by ac_nf,rfl,hl,z⟩,λx H3 y=> ?_⟩
  obtain⟨p,ep,k3,r3,d3⟩:=o3 x H3 hlt y
  have k13:=k2.trans k3
  refine⟨p,τ2,G2,_,d3,rs2.keep k3,r3,turn i p τ2 G2 ep w2,λτ4 G4 σ4 H4 q4 rs4 r4 k4=> ?_⟩
  have k14:=k13.trans k4
  have k04:=k1.trans k14
  exact⟨τ4,G4,_,rs4,r4,q4,⟨λτ' G' σ' H' q' a b c=>⟨hlt,τ',G',q',a,b,k14.trans c⟩,cl.rt.keep k04,cl.nx.keep k04,λτ' G' σ' H' q' a b c=>⟨hlt,τ',G',q',a,b,k14.trans c⟩⟩⟩
 ·have e:i=items.length:=by ac_nf
  subst e
  exact .inl ⟨o2 rfl,cl.nx _ _ _ _ (done τ2 G2 w2) rs2 rp2 (k1.trans k2)⟩
end
mutual
noncomputable def iP:PV->PV->Bool
 | .non,.non=>true
 | .bl a,.bl b=>a==b
 | .bl a,.int b=>(if a then 1 else 0)==b
 | .int a,.bl b=>a==(if b then 1 else 0)
 | .int a,.int b=>a==b
 | .str a,.str b=>a==b
 | .tup xs,.tup ys=>iC xs ys
 |_,_=>false
noncomputable def iC:List PV->List PV->Bool
 |[],[]=>true
 |x::xs,y::ys=>iP x y&&iC xs ys
 |_,_=>false
end
mutual
noncomputable def dj:Nat->PV->Bool
 |_,.non=>true
 |_,.bl _=>true
 |_,.int _=>true
 |_,.str _=>true
 |n+1,.tup xs=>fk n xs
 |_,_=>false
noncomputable def fk:Nat->List PV->Bool
 |_,[]=>true
 |n,x::xs=>dj n x&&fk n xs
end
section
variable{X:Cx}{pins:List (Addr×Obj)}{σ:L2.St}{H:Hp}{s:af}{K:PySem.W.Frag}
mutual
theorem ul(I:Inv X pins σ H s):∀(n m:Nat) (p q:PV) {v:V},Dv X.K H p v->Dv X.K H q v->dj n p=true->dj m q=true->iP p q=true
 |n,m,.non,q,v,h1,h2,f1,f2=>by
  obtain rfl:v= .non:=h1
  cases q with
  |non=>rfl
  |tup qs=>obtain⟨a,vs,e,_⟩:=h2;cases e
  |ro qs=>cases m<;>cases f2
  |_=>first|cases (show _=_ from h2)|(cases m<;>cases f2)
 |n,m,.bl b,q,v,h1,h2,f1,f2=>by
  obtain rfl:v= .bl b:=h1
  cases q with
  |bl c=>cases (show V.bl b=V.bl c from h2);unfold iP;simp
  |tup qs=>obtain⟨a,vs,e,_⟩:=h2;cases e
  |ro qs=>cases m<;>cases f2
  |_=>first|cases (show _=_ from h2)|(cases m<;>cases f2)
 |n,m,.int b,q,v,h1,h2,f1,f2=>by
  obtain rfl:v= .int b:=h1
  cases q with
  |int c=>cases (show V.int b=V.int c from h2);unfold iP;simp
  |tup qs=>obtain⟨a,vs,e,_⟩:=h2;cases e
  |ro qs=>cases m<;>cases f2
  |_=>first|cases (show _=_ from h2)|(cases m<;>cases f2)
 |n,m,.str b,q,v,h1,h2,f1,f2=>by
  obtain rfl:v= .str b:=h1
  cases q with
  |str c=>cases (show V.str b=V.str c from h2);unfold iP;simp
  |tup qs=>obtain⟨a,vs,e,_⟩:=h2;cases e
  |ro qs=>cases m<;>cases f2
  |_=>first|cases (show _=_ from h2)|(cases m<;>cases f2)
 |n,m,.tup ps,q,v,h1,h2,f1,f2=>by
  obtain⟨a,vs,rfl,sq,d⟩:=h1
  cases q with
  |tup qs=>
   obtain⟨b,us,e,sq2,d2⟩:=h2
   cases e
   obtain rfl:=I.tuple_inj sq sq2
   cases n with
   |zero=>cases f1
   |succ n=>
    cases m with
    |zero=>cases f2
    |succ m=>
     unfold iP
     exact qX I n m ps qs d d2 f1 f2
  |ref b=>cases m<;>cases f2
  |ty b=>cases m<;>cases f2
  |ro b=>cases m<;>cases f2
  |_=>cases (show _=_ from h2)
 |n,m,.ref a,q,v,h1,h2,f1,f2=>by cases n<;>cases f1
 |n,m,.ty a,q,v,h1,h2,f1,f2=>by cases n<;>cases f1
 |n,m,.ro a,q,v,h1,h2,f1,f2=>by cases n<;>cases f1
theorem qX(I:Inv X pins σ H s):∀(n m:Nat) (ps qs:List PV) {vs:List V},Dvs X.K H ps vs->Dvs X.K H qs vs->fk n ps=true->fk m qs=true->iC ps qs=true
 |n,m,[],qs,vs,h1,h2,f1,f2=>by
  obtain rfl:vs=[]:=h1
  cases qs with
  |nil=>rfl
  |cons q qs=>obtain⟨_,_,e,_⟩:=h2;cases e
 |n,m,p::ps,qs,vs,h1,h2,f1,f2=>by
  obtain⟨v,r,rfl,d,d'⟩:=h1
  cases qs with
  |nil=>cases (show _=_ from h2)
  |cons q qs=>
   obtain⟨_,_,e,d2,d2'⟩:=h2
   cases e
   unfold fk at f1 f2
   rw[av]at f1 f2
   unfold iC
   rw[ul I n m p q d d2 f1.1 f2.1,qX I n m ps qs d' d2' f1.2 f2.2]
   rfl
end
noncomputable def vb(ps qs:List PV)(j:Nat):Bool:=match ps[j]?,qs[j]? with
 |some p,some q=>iP p q
 |_,_=>true
theorem jk:∀(ps qs:List PV),ps.length=qs.length->(dC ps.length).all (vb ps qs)=iC ps qs
 |[],[],_=>rfl
 |p::ps,q::qs,h=>by
  have ih:=jk ps qs (by simpa using h)
  unfold iC
  rw[<-ih,aX,List.range_succ_eq_map,eK,List.all_map]
  rfl
 |[],_::_,h=>by simp at h
 |_::_,[],h=>by simp at h
theorem mC:∀{ps qs:List PV},ps.length≠qs.length->iC ps qs=false
 |[],[],h=>absurd rfl h
 |p::ps,q::qs,h=>by
  unfold iC
  rw[mC (ps:=ps) (qs:=qs) (λe=>h (by simp[e])),lK]
 |[],_::_,_=>rfl
 |_::_,[],_=>rfl
theorem qe(ps qs:List PV):((dC (min ps.length qs.length)).all (vb ps qs)&&ps.length==qs.length)=iC ps qs:=by
 by_cases h:ps.length=qs.length
 ·rw[h,Nat.min_self,<-h,jk ps qs h];simp[h]
 ·rw[mC h];simp[h]
noncomputable abbrev Eqd(A:Around)(s:af)(v u:ae)(b:Bool):Prop:=aO A s v u b
mutual
theorem LD(I:Inv X pins σ H s):∀(n m:Nat) (p q:PV) (A:Around) {x y:V} {v u:ae},Dv X.K H p x->RelV x v->Dv X.K H q y->RelV y u->dj n p=true->dj m q=true->A.units+n<fS->Eqd A s v u (iP p q)
 |n,m,.non,q,A,x,y,v,u,d1,r1,d2,r2,f1,f2,hu=>by
  obtain rfl:x= .non:=d1
  cases r1
  cases q with
  |non=>obtain rfl:y= .non:=d2;cases r2;exact aO.same _
  |bl b=>obtain rfl:y= .bl b:=d2;cases r2;exact aO.none_bool b
  |int b=>obtain rfl:y= .int b:=d2;obtain⟨t,rfl⟩:=r2;exact aO.none_int b t
  |str b=>obtain rfl:y= .str b:=d2;obtain⟨t,rfl⟩:=r2;exact aO.none_str b t
  |tup qs=>
   obtain⟨a,vs,rfl,sq,dd⟩:=d2
   cases r2
   obtain⟨its,rv,pl,_⟩:=I.tuple sq
   exact aO.none_tuple pl (by ac_nf)
  |ref b=>cases m<;>cases f2
  |ty b=>cases m<;>cases f2
  |ro b=>cases m<;>cases f2
 |n,m,.bl a,q,A,x,y,v,u,d1,r1,d2,r2,f1,f2,hu=>by
  obtain rfl:x= .bl a:=d1
  cases r1
  cases q with
  |non=>obtain rfl:y= .non:=d2;cases r2;exact aO.bool_none a
  |bl b=>obtain rfl:y= .bl b:=d2;cases r2;exact aO.bool_bool a b
  |int b=>obtain rfl:y= .int b:=d2;obtain⟨t,rfl⟩:=r2;exact aO.bool_int a b t
  |str b=>obtain rfl:y= .str b:=d2;obtain⟨t,rfl⟩:=r2;exact aO.bool_str a b t
  |tup qs=>
   obtain⟨l,vs,rfl,sq,dd⟩:=d2
   cases r2
   obtain⟨its,rv,pl,_⟩:=I.tuple sq
   exact aO.bool_tuple a pl (by ac_nf)
  |ref b=>cases m<;>cases f2
  |ty b=>cases m<;>cases f2
  |ro b=>cases m<;>cases f2
 |n,m,.int a,q,A,x,y,v,u,d1,r1,d2,r2,f1,f2,hu=>by
  obtain rfl:x= .int a:=d1
  obtain⟨t',rfl⟩:=r1
  cases q with
  |non=>obtain rfl:y= .non:=d2;cases r2;exact aO.int_none a t'
  |bl b=>obtain rfl:y= .bl b:=d2;cases r2;exact aO.int_bool a t' b
  |int b=>obtain rfl:y= .int b:=d2;obtain⟨t,rfl⟩:=r2;exact aO.int_int a t' b t
  |str b=>obtain rfl:y= .str b:=d2;obtain⟨t,rfl⟩:=r2;exact lf a t' b t
  |tup qs=>
   obtain⟨l,vs,rfl,sq,dd⟩:=d2
   cases r2
   obtain⟨its,rv,pl,_⟩:=I.tuple sq
   exact aO.int_tuple a t' pl (by ac_nf)
  |ref b=>cases m<;>cases f2
  |ty b=>cases m<;>cases f2
  |ro b=>cases m<;>cases f2
 |n,m,.str a,q,A,x,y,v,u,d1,r1,d2,r2,f1,f2,hu=>by
  obtain rfl:x= .str a:=d1
  obtain⟨t',rfl⟩:=r1
  cases q with
  |non=>obtain rfl:y= .non:=d2;cases r2;exact aO.str_none a t'
  |bl b=>obtain rfl:y= .bl b:=d2;cases r2;exact aO.str_bool a t' b
  |int b=>obtain rfl:y= .int b:=d2;obtain⟨t,rfl⟩:=r2;exact le a t' b t
  |str b=>obtain rfl:y= .str b:=d2;obtain⟨t,rfl⟩:=r2;exact aO.str_str a t' b t
  |tup qs=>
   obtain⟨l,vs,rfl,sq,dd⟩:=d2
   cases r2
   obtain⟨its,rv,pl,_⟩:=I.tuple sq
   exact aO.str_tuple a t' pl (by ac_nf)
  |ref b=>cases m<;>cases f2
  |ty b=>cases m<;>cases f2
  |ro b=>cases m<;>cases f2
 |n,m,.tup ps,q,A,x,y,v,u,d1,r1,d2,r2,f1,f2,hu=>by
  have dd1:=d1
  obtain⟨l,vs,rfl,sq,d⟩:=d1
  cases r1
  obtain⟨its,rv,pl,_⟩:=I.tuple sq
  cases q with
  |non=>obtain rfl:y= .non:=d2;cases r2;exact aO.tuple_none pl (by ac_nf)
  |bl b=>obtain rfl:y= .bl b:=d2;cases r2;exact aO.tuple_bool b pl (by ac_nf)
  |int b=>obtain rfl:y= .int b:=d2;obtain⟨t,rfl⟩:=r2;exact aO.tuple_int b t pl (by ac_nf)
  |str b=>obtain rfl:y= .str b:=d2;obtain⟨t,rfl⟩:=r2;exact aO.tuple_str b t pl (by ac_nf)
  |tup qs=>
   have dd2:=d2
   obtain⟨l2,us,rfl,sq2,d2⟩:=d2
   cases r2
   obtain⟨its2,rv2,pl2,_⟩:=I.tuple sq2
   by_cases hll:l=l2
   ·subst hll
    rw[ul I n m (.tup ps) (.tup qs) dd1 dd2 f1 f2]
    exact aO.same _
   ·cases n with
    |zero=>cases f1
    |succ n=>
     cases m with
     |zero=>cases f2
     |succ m=>
      refine aO.of_refs hll ?_
      have z:=SeqAt.RcAt.tuples (A:=A) (e:=vb ps qs) pl pl2 (by ac_nf) λj h1 h2=>rn I n m ps qs A.in1 d rv d2 rv2 f1 f2 (by rw[PySem.Around.in1_units];ac_nf) j h1 h2
      rw[ap,ap,<-rv.length,<-rv2.length,d.length,d2.length,qe]at z
      unfold iP
      exact z
  |ref b=>cases m<;>cases f2
  |ty b=>cases m<;>cases f2
  |ro b=>cases m<;>cases f2
 |n,m,.ref a,q,A,x,y,v,u,d1,r1,d2,r2,f1,f2,hu=>by cases n<;>cases f1
 |n,m,.ty a,q,A,x,y,v,u,d1,r1,d2,r2,f1,f2,hu=>by cases n<;>cases f1
 |n,m,.ro a,q,A,x,y,v,u,d1,r1,d2,r2,f1,f2,hu=>by cases n<;>cases f1
theorem rn(I:Inv X pins σ H s):∀(n m:Nat) (ps qs:List PV) (A:Around) {xs ys:List V} {vs us:List ae},Dvs X.K H ps xs->Vals xs vs->Dvs X.K H qs ys->Vals ys us->fk n ps=true->fk m qs=true->A.units+n<fS->
  ∀(j:Nat) (h1:j<vs.toArray.size) (h2:j<us.toArray.size),Eqd A s vs.toArray[j] us.toArray[j] (vb ps qs j)
 |n,m,[],qs,A,xs,ys,vs,us,d1,r1,d2,r2,f1,f2,hu,j,h1,h2=>by
  obtain rfl:xs=[]:=d1
  cases r1
  simp at h1
 |n,m,p::ps,qs,A,xs,ys,vs,us,d1,r1,d2,r2,f1,f2,hu,j,h1,h2=>by
  obtain⟨x,xr,rfl,dx,d1⟩:=d1
  cases r1 with
  |cons rx r1=>
   cases qs with
   |nil=>
    obtain rfl:ys=[]:=d2
    cases r2
    simp at h2
   |cons q qs=>
    obtain⟨y,yr,rfl,dy,d2⟩:=d2
    cases r2 with
    |cons ry r2=>
     unfold fk at f1 f2
     rw[av]at f1 f2
     cases j with
     |zero=>exact LD I n m p q A dx rx dy ry f1.1 f2.1 hu
     |succ j=>exact rn I n m ps qs A d1 r1 d2 r2 f1.2 f2.2 hu j (by simpa using h1) (by simpa using h2)
end
end
theorem big{n:Nat}(h:n<=16000000):n<=aJ:=aZ h (by rw[fC];decide)
theorem CK{n:Nat}(h:n<=16000000):n<aJ:=ja h (by rw[fC];decide)
noncomputable def lk(G:Gp)(a:Addr):Option (List PV):=match G a with
 |some (.lst ps)=>some ps
 |some (.rl ps)=>some ps
 |_=>none
theorem fN{K:PySem.W.Frag}{H:Hp}{G:Gp}{a:Addr}{ps:List PV}(r:Rep K H G)(h:lk G a=some ps):∃vs,SqL K H a vs/\Dvs K H ps vs:=by
 unfold lk at h
 split at h
 ·rename_i qs e;cases h
  obtain⟨vs,e1,d⟩:=r a _ e
  exact⟨vs,.of e1,d⟩
 ·rename_i qs e;cases h
  obtain⟨vs,e1,d⟩:=r a _ e
  exact⟨vs,.inl e1,d⟩
 ·cases h
noncomputable def LG:B2:=λp q G Q=>match p,q with
 | .ref a,.ref b=>match lk G a,lk G b with
  |some ps,some qs=>fk 100 ps=true/\fk 100 qs=true/\Q (.bl (iC ps qs)) G
  |_,_=>False
 | .ref _,_=>False
 |_,.ref _=>False
 |p,q=>dj 100 p=true/\dj 100 q=true/\Q (.bl (iP p q)) G
noncomputable def Jz:B2:=λp q G Q=>match p,q with
 | .ref a,.ref b=>match lk G a,lk G b with
  |some ps,some qs=>fk 100 ps=true/\fk 100 qs=true/\Q (.bl (!iC ps qs)) G
  |_,_=>False
 | .ref _,_=>False
 |_,.ref _=>False
 |p,q=>dj 100 p=true/\dj 100 q=true/\Q (.bl (!iP p q)) G
section
variable{X:Cx}{pins:List (Addr×Obj)}{σ:L2.St}{H:Hp}{s:af}
theorem M3(I:Inv X pins σ H s)(p q:PV)(A:Around){x y:V}{v u:ae}(d1:Dv X.K H p x)(r1:RelV x v)(d2:Dv X.K H q y)(r2:RelV y u)(f1:dj 100 p=true)(f2:dj 100 q=true)(hu:A.units+101<fS):SeqAt.RcAt A s v u (iP p q):=by
 have hu':A.units<fS:=by ac_nf
 cases p with
 |ref a=>cases f1
 |ty a=>cases f1
 |ro a=>cases f1
 |tup ps=>
  obtain⟨l,xs,rfl,sq,dd⟩:=d1
  cases r1
  obtain⟨its,rv,pl,_⟩:=I.tuple sq
  cases q with
  |ref a=>cases f2
  |ty a=>cases f2
  |ro a=>cases f2
  |tup qs=>
   obtain⟨l2,ys,rfl,sq2,dd2⟩:=d2
   cases r2
   obtain⟨its2,rv2,pl2,_⟩:=I.tuple sq2
   have z:=SeqAt.RcAt.tuples (A:=A) (e:=vb ps qs) pl pl2 hu' λj h1 h2=>rn I 99 99 ps qs A.in1 dd rv dd2 rv2 f1 f2 (by rw[PySem.Around.in1_units];ac_nf) j h1 h2
   rw[ap,ap,<-rv.length,<-rv2.length,dd.length,dd2.length,qe]at z
   unfold iP
   exact z
  |non=>obtain rfl:y= .non:=d2;cases r2;exact SeqAt.RcAt.tuple_none pl hu'
  |bl b=>obtain rfl:y= .bl b:=d2;cases r2;exact SeqAt.RcAt.tuple_bool b pl hu'
  |int b=>obtain rfl:y= .int b:=d2;obtain⟨t,rfl⟩:=r2;exact SeqAt.RcAt.tuple_int b t pl hu'
  |str b=>obtain rfl:y= .str b:=d2;obtain⟨t,rfl⟩:=r2;exact SeqAt.RcAt.tuple_str b t pl hu'
 |non=>
  obtain rfl:x= .non:=d1
  cases r1
  cases q with
  |ref a=>cases f2
  |ty a=>cases f2
  |ro a=>cases f2
  |tup qs=>
   obtain⟨l2,ys,rfl,sq2,dd2⟩:=d2
   cases r2
   obtain⟨its2,rv2,pl2,_⟩:=I.tuple sq2
   exact SeqAt.RcAt.none_tuple pl2 hu'
  |non=>obtain rfl:y= .non:=d2;cases r2;exact SeqAt.RcAt.none_none
  |bl b=>obtain rfl:y= .bl b:=d2;cases r2;exact SeqAt.RcAt.none_bool b
  |int b=>obtain rfl:y= .int b:=d2;obtain⟨t,rfl⟩:=r2;exact SeqAt.RcAt.none_int b t
  |str b=>obtain rfl:y= .str b:=d2;obtain⟨t,rfl⟩:=r2;exact SeqAt.RcAt.none_str b t
 |bl a=>
  obtain rfl:x= .bl a:=d1
  cases r1
  cases q with
  |ref a=>cases f2
  |ty a=>cases f2
  |ro a=>cases f2
  |tup qs=>
   obtain⟨l2,ys,rfl,sq2,dd2⟩:=d2
   cases r2
   obtain⟨its2,rv2,pl2,_⟩:=I.tuple sq2
   exact SeqAt.RcAt.bool_tuple a pl2 hu'
  |non=>obtain rfl:y= .non:=d2;cases r2;exact SeqAt.RcAt.bool_none a
  |bl b=>obtain rfl:y= .bl b:=d2;cases r2;exact SeqAt.RcAt.bool_bool a b
  |int b=>obtain rfl:y= .int b:=d2;obtain⟨t,rfl⟩:=r2;exact SeqAt.RcAt.bool_int a b t
  |str b=>obtain rfl:y= .str b:=d2;obtain⟨t,rfl⟩:=r2;exact SeqAt.RcAt.bool_str a b t
 |int a=>
  obtain rfl:x= .int a:=d1
  obtain⟨t',rfl⟩:=r1
  cases q with
  |ref a=>cases f2
  |ty a=>cases f2
  |ro a=>cases f2
  |tup qs=>
   obtain⟨l2,ys,rfl,sq2,dd2⟩:=d2
   cases r2
   obtain⟨its2,rv2,pl2,_⟩:=I.tuple sq2
   exact SeqAt.RcAt.int_tuple a t' pl2 hu'
  |non=>obtain rfl:y= .non:=d2;cases r2;exact SeqAt.RcAt.int_none a t'
  |bl b=>obtain rfl:y= .bl b:=d2;cases r2;exact SeqAt.RcAt.int_bool a t' b
  |int b=>obtain rfl:y= .int b:=d2;obtain⟨t,rfl⟩:=r2;exact SeqAt.RcAt.int_int a t' b t
  |str b=>obtain rfl:y= .str b:=d2;obtain⟨t,rfl⟩:=r2;exact SeqAt.RcAt.int_str a t' b t
 |str a=>
  obtain rfl:x= .str a:=d1
  obtain⟨t',rfl⟩:=r1
  cases q with
  |ref a=>cases f2
  |ty a=>cases f2
  |ro a=>cases f2
  |tup qs=>
   obtain⟨l2,ys,rfl,sq2,dd2⟩:=d2
   cases r2
   obtain⟨its2,rv2,pl2,_⟩:=I.tuple sq2
   exact SeqAt.RcAt.str_tuple a t' pl2 hu'
  |non=>obtain rfl:y= .non:=d2;cases r2;exact SeqAt.RcAt.str_none a t'
  |bl b=>obtain rfl:y= .bl b:=d2;cases r2;exact SeqAt.RcAt.str_bool a t' b
  |int b=>obtain rfl:y= .int b:=d2;obtain⟨t,rfl⟩:=r2;exact SeqAt.RcAt.str_int a t' b t
  |str b=>obtain rfl:y= .str b:=d2;obtain⟨t,rfl⟩:=r2;exact SeqAt.RcAt.str_str a t' b t
theorem GX(I:Inv X pins σ H s)(p q:PV)(A:Around){x y:V}{v u:ae}(d1:Dv X.K H p x)(r1:RelV x v)(d2:Dv X.K H q y)(r2:RelV y u)(f1:dj 100 p=true)(f2:dj 100 q=true)(hu:A.units+101<fS):SeqAt.RcNeAt A s v u (!iP p q):=by
 have hu':A.units<fS:=by ac_nf
 cases p with
 |ref a=>cases f1
 |ty a=>cases f1
 |ro a=>cases f1
 |tup ps=>
  obtain⟨l,xs,rfl,sq,dd⟩:=d1
  cases r1
  obtain⟨its,rv,pl,_⟩:=I.tuple sq
  cases q with
  |ref a=>cases f2
  |ty a=>cases f2
  |ro a=>cases f2
  |tup qs=>
   obtain⟨l2,ys,rfl,sq2,dd2⟩:=d2
   cases r2
   obtain⟨its2,rv2,pl2,_⟩:=I.tuple sq2
   have z:=SeqAt.RcNeAt.tuples (A:=A) (e:=vb ps qs) pl pl2 hu' λj h1 h2=>rn I 99 99 ps qs A.in1 dd rv dd2 rv2 f1 f2 (by rw[PySem.Around.in1_units];ac_nf) j h1 h2
   rw[ap,ap,<-rv.length,<-rv2.length,dd.length,dd2.length,qe]at z
   unfold iP
   exact z
  |non=>obtain rfl:y= .non:=d2;cases r2;exact SeqAt.RcNeAt.tuple_none pl hu'
  |bl b=>obtain rfl:y= .bl b:=d2;cases r2;exact SeqAt.RcNeAt.tuple_bool b pl hu'
  |int b=>obtain rfl:y= .int b:=d2;obtain⟨t,rfl⟩:=r2;exact SeqAt.RcNeAt.tuple_int b t pl hu'
  |str b=>obtain rfl:y= .str b:=d2;obtain⟨t,rfl⟩:=r2;exact SeqAt.RcNeAt.tuple_str b t pl hu'
 |non=>
  obtain rfl:x= .non:=d1
  cases r1
  cases q with
  |ref a=>cases f2
  |ty a=>cases f2
  |ro a=>cases f2
  |tup qs=>
   obtain⟨l2,ys,rfl,sq2,dd2⟩:=d2
   cases r2
   obtain⟨its2,rv2,pl2,_⟩:=I.tuple sq2
   exact SeqAt.RcNeAt.none_tuple pl2 hu'
  |non=>obtain rfl:y= .non:=d2;cases r2;exact SeqAt.RcNeAt.none_none
  |bl b=>obtain rfl:y= .bl b:=d2;cases r2;exact SeqAt.RcNeAt.none_bool b
  |int b=>obtain rfl:y= .int b:=d2;obtain⟨t,rfl⟩:=r2;exact SeqAt.RcNeAt.none_int b t
  |str b=>obtain rfl:y= .str b:=d2;obtain⟨t,rfl⟩:=r2;exact SeqAt.RcNeAt.none_str b t
 |bl a=>
  obtain rfl:x= .bl a:=d1
  cases r1
  cases q with
  |ref a=>cases f2
  |ty a=>cases f2
  |ro a=>cases f2
  |tup qs=>
   obtain⟨l2,ys,rfl,sq2,dd2⟩:=d2
   cases r2
   obtain⟨its2,rv2,pl2,_⟩:=I.tuple sq2
   exact SeqAt.RcNeAt.bool_tuple a pl2 hu'
  |non=>obtain rfl:y= .non:=d2;cases r2;exact SeqAt.RcNeAt.bool_none a
  |bl b=>obtain rfl:y= .bl b:=d2;cases r2;exact SeqAt.RcNeAt.bool_bool a b
  |int b=>obtain rfl:y= .int b:=d2;obtain⟨t,rfl⟩:=r2;exact SeqAt.RcNeAt.bool_int a b t
  |str b=>obtain rfl:y= .str b:=d2;obtain⟨t,rfl⟩:=r2;exact SeqAt.RcNeAt.bool_str a b t
 |int a=>
  obtain rfl:x= .int a:=d1
  obtain⟨t',rfl⟩:=r1
  cases q with
  |ref a=>cases f2
  |ty a=>cases f2
  |ro a=>cases f2
  |tup qs=>
   obtain⟨l2,ys,rfl,sq2,dd2⟩:=d2
   cases r2
   obtain⟨its2,rv2,pl2,_⟩:=I.tuple sq2
   exact SeqAt.RcNeAt.int_tuple a t' pl2 hu'
  |non=>obtain rfl:y= .non:=d2;cases r2;exact SeqAt.RcNeAt.int_none a t'
  |bl b=>obtain rfl:y= .bl b:=d2;cases r2;exact SeqAt.RcNeAt.int_bool a t' b
  |int b=>obtain rfl:y= .int b:=d2;obtain⟨t,rfl⟩:=r2;exact SeqAt.RcNeAt.int_int a t' b t
  |str b=>obtain rfl:y= .str b:=d2;obtain⟨t,rfl⟩:=r2;exact SeqAt.RcNeAt.int_str a t' b t
 |str a=>
  obtain rfl:x= .str a:=d1
  obtain⟨t',rfl⟩:=r1
  cases q with
  |ref a=>cases f2
  |ty a=>cases f2
  |ro a=>cases f2
  |tup qs=>
   obtain⟨l2,ys,rfl,sq2,dd2⟩:=d2
   cases r2
   obtain⟨its2,rv2,pl2,_⟩:=I.tuple sq2
   exact SeqAt.RcNeAt.str_tuple a t' pl2 hu'
  |non=>obtain rfl:y= .non:=d2;cases r2;exact SeqAt.RcNeAt.str_none a t'
  |bl b=>obtain rfl:y= .bl b:=d2;cases r2;exact SeqAt.RcNeAt.str_bool a t' b
  |int b=>obtain rfl:y= .int b:=d2;obtain⟨t,rfl⟩:=r2;exact SeqAt.RcNeAt.str_int a t' b t
  |str b=>obtain rfl:y= .str b:=d2;obtain⟨t,rfl⟩:=r2;exact SeqAt.RcNeAt.str_str a t' b t
theorem HC(hu:X.A.units+200<fS):gW X (cr .Eq) (fL X.K LG):=by
 intro pins s σ H x y v u Q I rx ry h
 obtain⟨p,q,G,Q2,d1,d2,rp,h,cl⟩:=h
 have fin:∀(f1:dj 100 p=true) (f2:dj 100 q=true),Q2 (.bl (iP p q)) G->wpAny (aN X.prog X.w) X.A (cr .Eq v u) (EP X pins σ Q) X.xe s:=λf1 f2 hq=>
  M3 I p q X.A d1 rx d2 ry f1 f2 (by ac_nf) X.prog X.w X.xe _ ⟨.bl _,H,I,rfl,cl _ _ _ _ hq rfl rp .refl⟩
 unfold LG at h
 split at h
 ·rename_i a b
  split at h
  ·rename_i ps qs e1 e2
   obtain⟨f1,f2,hq⟩:=h
   obtain rfl:x= .ref a:=d1
   obtain rfl:y= .ref b:=d2
   cases rx
   cases ry
   obtain⟨xs,sa,da⟩:=fN rp e1
   obtain⟨ys,sb,db⟩:=fN rp e2
   obtain⟨us,r,pl,_⟩:=I.list sa
   obtain⟨ws,r',pl',_⟩:=I.list sb
   have l1:=r.length
   have l2:=r'.length
   have l3:=da.length
   have l4:=db.length
   by_cases hl:ps.length=qs.length
   ·refine SeqAt.eq_listAt (e:=vb ps qs) pl.isList pl'.isList (by simp;ac_nf) (by ac_nf) (λj h1 h2=>rn I 100 100 ps qs X.A.in1 da r db r' f1 f2 (by rw[PySem.Around.in1_units];ac_nf) j h1 h2) ⟨.bl (iC ps qs),H,I,?_,cl _ _ _ _ hq rfl rp .refl⟩
    rw[ap,<-l1,l3,jk ps qs hl]
    rfl
   ·refine SeqAt.eq_list_lengthsAt pl.isList pl'.isList (by simp;ac_nf) (by ac_nf) ⟨.bl (iC ps qs),H,I,?_,cl _ _ _ _ hq rfl rp .refl⟩
    rw[mC hl]
    rfl
  ·exact h.elim
 ·exact h.elim
 ·exact h.elim
 ·obtain⟨f1,f2,hq⟩:=h
  exact fin f1 f2 hq
theorem Be(hu:X.A.units+200<fS):gW X (cr .NotEq) (fL X.K Jz):=by
 intro pins s σ H x y v u Q I rx ry h
 obtain⟨p,q,G,Q2,d1,d2,rp,h,cl⟩:=h
 have fin:∀(f1:dj 100 p=true) (f2:dj 100 q=true),Q2 (.bl (!iP p q)) G->wpAny (aN X.prog X.w) X.A (cr .NotEq v u) (EP X pins σ Q) X.xe s:=λf1 f2 hq=>
  GX I p q X.A d1 rx d2 ry f1 f2 (by ac_nf) X.prog X.w X.xe _ ⟨.bl _,H,I,rfl,cl _ _ _ _ hq rfl rp .refl⟩
 unfold Jz at h
 split at h
 ·rename_i a b
  split at h
  ·rename_i ps qs e1 e2
   obtain⟨f1,f2,hq⟩:=h
   obtain rfl:x= .ref a:=d1
   obtain rfl:y= .ref b:=d2
   cases rx
   cases ry
   obtain⟨xs,sa,da⟩:=fN rp e1
   obtain⟨ys,sb,db⟩:=fN rp e2
   obtain⟨us,r,pl,_⟩:=I.list sa
   obtain⟨ws,r',pl',_⟩:=I.list sb
   have l1:=r.length
   have l2:=r'.length
   have l3:=da.length
   have l4:=db.length
   by_cases hl:ps.length=qs.length
   ·refine SeqAt.RcNeAt.lists (e:=vb ps qs) pl.isList pl'.isList (by simp;ac_nf) (by ac_nf) (λj h1 h2=>rn I 100 100 ps qs X.A.in1 da r db r' f1 f2 (by rw[PySem.Around.in1_units];ac_nf) j h1 h2) _ _ _ _ ⟨.bl (!iC ps qs),H,I,?_,cl _ _ _ _ hq rfl rp .refl⟩
    rw[ap,<-l1,l3,jk ps qs hl]
    rfl
   ·refine SeqAt.RcNeAt.lists_lengths pl.isList pl'.isList (by simp;ac_nf) (by ac_nf) _ _ _ _ ⟨.bl (!iC ps qs),H,I,?_,cl _ _ _ _ hq rfl rp .refl⟩
    rw[mC hl]
    rfl
  ·exact h.elim
 ·exact h.elim
 ·exact h.elim
 ·obtain⟨f1,f2,hq⟩:=h
  exact fin f1 f2 hq
end
theorem IN{K:PySem.W.Frag}{H1:Hp}{a:Addr}{vs:List V}{ps:List PV}(sq:SqT K H1 a vs)(d:Dvs K H1 ps vs):vj K H1 (Itt K a) ps (λ_=>True):=λi H G k r _=>by
 have sq':=k.1 a vs sq
 have d':=d.keep k
 refine⟨λhi=> ?_,λhi=>⟨vs,sq',by rw[d.length];ac_nf⟩,λx H' hi y=> ?_⟩
 ·obtain⟨v,e,_⟩:=d'.at (ak hi)
  exact⟨vs,v,sq',e⟩
 ·obtain⟨rfl,y⟩:=y
  obtain⟨p,e,dp⟩:=d'.get (y vs sq')
  exact⟨p,e,.refl,r,dp⟩
theorem IR{K:PySem.W.Frag}{H1:Hp}{a:Addr}{ps:List PV}:vj K H1 (Itl K a) ps (λG=>lk G a=some ps):=λi H G k r c=>by
 obtain⟨vs,sq',d'⟩:=fN r c
 refine⟨λhi=> ?_,λhi=>⟨vs,sq',by rw[d'.length];ac_nf⟩,λx H' hi y=> ?_⟩
 ·obtain⟨v,e,_⟩:=d'.at (ak hi)
  exact⟨vs,v,sq',e⟩
 ·obtain⟨rfl,y⟩:=y
  obtain⟨p,e,dp⟩:=d'.get (y vs sq')
  exact⟨p,e,.refl,r,dp⟩
noncomputable def nj(z:Str):List PV:=z.cps.toList.map λc=> .str ⟨#[c]⟩
theorem IP{K:PySem.W.Frag}{H1:Hp}(z:Str):vj K H1 (Mp z) (nj z) (λ_=>True):=λi H G k r _=>by
 have hl:(nj z).length=z.cps.size:=by unfold nj;simp
 refine⟨λhi=> ?_,λhi=> ?_,λx H' hi y=> ?_⟩
 ·show i<z.cps.size
  ac_nf
 ·show z.cps.size<=i
  ac_nf
 ·obtain⟨rfl,c,e,rfl⟩:=y
  refine⟨.str ⟨#[c]⟩,?_,.refl,r,rfl⟩
  unfold nj
  rw[aI]
  have:z.cps.toList[i]? =some c:=by simpa using e
  rw[this];rfl
noncomputable def nY(lo:Int)(n:Nat):List PV:=(dC n).map fun(i:Nat)=> .int (lo+i)
theorem IQ{K:PySem.W.Frag}{H1:Hp}(lo:Int)(n:Nat):vj K H1 (Mq lo n) (nY lo n) (λ_=>True):=λi H G k r _=>by
 have hl:(nY lo n).length=n:=by unfold nY;simp
 refine⟨λhi=> ?_,λhi=> ?_,λx H' hi y=> ?_⟩
 ·show i<n
  ac_nf
 ·show n<=i
  ac_nf
 ·obtain⟨rfl,rfl⟩:=y
  refine⟨.int (lo+i),?_,.refl,r,rfl⟩
  unfold nY
  rw[aI,eQ (by ac_nf)]
  rfl
noncomputable abbrev itS(t:E2):rL:=λτ G R=>t τ G λp G1=>match p with
 | .tup ps=>R ps (λ_=>True) G1
 | .ref a=>match lk G1 a with
  |some ps=>R ps (λG=>lk G a=some ps) G1
  |none=>False
 | .str z=>R (nj z) (λ_=>True) G1
 |_=>False
noncomputable abbrev Nz(t:A2):rL:=λτ G R=>t τ G λps G1=>match ps with
 |[.int j]=> -(2^62)<=j/\j<2^62/\R (nY 0 j.toNat) (λ_=>True) G1
 |_=>False
theorem Dw{X:Cx}{pins:List (Addr×Obj)}{σ:L2.St}{H1:Hp}{s1:af}{x:Str}{px:Pos}{z:Str}{v:ae}{R:It->Hp->Prop}(I1:Inv X pins σ H1 s1)(r1:RelV (.str z) v)(q:R (Mp z) H1):
  wpAny (aN X.prog X.w) X.A (pyIter v) (NQ X pins σ (.Name x px) R) X.xe s1:=by
 obtain⟨t,rfl⟩:=r1
 cases ha:z.cps.all (· <128)
 ·refine PySem.wpAny_pyIter_wide ha ⟨s1.heap.objs.size,[s1.heap.objs.size],_,_,H1,rfl,I1.kept (t':=s1.toks) λb o e=>ai _ e,tL _ z t "str_iterator" (.inr rfl),⟨⟨_,aH _ rfl,rfl,rfl⟩,cg _⟩,λb hb=> ?_,q⟩
  have e:b=s1.heap.objs.size:=by simpa using hb
  subst e
  exact I1.fpOk (aq _) (I1.hok.fresh (aq _))
 ·refine PySem.wpAny_pyIter_ascii ha ⟨s1.heap.objs.size,[s1.heap.objs.size],_,_,H1,rfl,I1.kept (t':=s1.toks) λb o e=>ai _ e,tL _ z t "str_ascii_iterator" (.inl rfl),⟨⟨_,aH _ rfl,rfl,rfl⟩,cg _⟩,λb hb=> ?_,q⟩
  have e:b=s1.heap.objs.size:=by simpa using hb
  subst e
  exact I1.fpOk (aq _) (I1.hok.fresh (aq _))
section
variable{X:Cx}{l tg a b:Expr}{t:E2}{ta:A2}{x:Str}{px p pos:Pos}
theorem yw(hl:JE X l t):JI X (.Name x px) l (itS t):=⟨by
 intro pins s σ H R I h
 obtain⟨τ,G,R2,rs,rp,h,cl⟩:=h
 refine eB (hl.h pins s σ H (λv H1=>∃p G1,Dv X.K H1 p v/\Rep X.K H1 G1/\Keep X.K H H1/\(match p with
  | .tup ps=>R2 ps (λ_=>True) G1
  | .ref a=>match lk G1 a with
   |some ps=>R2 ps (λG=>lk G a=some ps) G1
   |none=>False
  | .str z=>R2 (nj z) (λ_=>True) G1
  |_=>False)) I ⟨τ,G,_,rs,rp,h,λp G1 v H1 q d r k=>⟨p,G1,d,r,k,q⟩⟩) λv s1 ⟨y,H1,I1,r1,q,G1,d1,rp1,k1,q1⟩=> ?_
 cases q with
 |tup ps=>
  obtain⟨a,vs,rfl,sq,dv⟩:=d1
  cases r1
  obtain⟨its,rv,p,hz⟩:=I1.tuple sq
  refine wpAny_pyIter_tuple (show s1.heap.IsTuple a its.toArray from p) ?_
  refine⟨s1.heap.objs.size,[s1.heap.objs.size],_,_,H1,rfl,I1.kept (t':=s1.toks) λb o e=>ai _ e,vK a _,⟨_,aH _ rfl,rfl,rfl⟩,λb hb=> ?_,cl _ _ _ _ _ q1 rp1 k1 (IN sq dv)⟩
  have e:b=s1.heap.objs.size:=by simpa using hb
  subst e
  exact I1.fpOk (aq _) (I1.hok.fresh (aq _))
 |ref a=>
  obtain rfl:y= .ref a:=d1
  cases r1
  dsimp only at q1
  split at q1
  ·rename_i ps e
   obtain⟨vs,sq,dv⟩:=fN rp1 e
   obtain⟨its,rv,p,hz⟩:=I1.list sq
   refine wpAny_pyIter_list p.isList ?_
   refine⟨s1.heap.objs.size,[s1.heap.objs.size],_,_,H1,rfl,I1.kept (t':=s1.toks) λb o e=>ai _ e,yQ a _,⟨_,aH _ rfl,rfl,rfl⟩,λb hb=> ?_,cl _ _ _ _ _ q1 rp1 k1 IR⟩
   have e:b=s1.heap.objs.size:=by simpa using hb
   subst e
   exact I1.fpOk (aq _) (I1.hok.fresh (aq _))
  ·exact q1.elim
 |str z=>
  obtain rfl:y= .str z:=d1
  exact Dw I1 r1 (cl _ _ _ _ _ q1 rp1 k1 (IP z))
 |non=>exact q1.elim
 |bl b=>exact q1.elim
 |int i=>exact q1.elim
 |ty n=>exact q1.elim
 |ro n=>exact q1.elim⟩
theorem zB(hm:X.mg "range" =none)(ha:JA X [a] ta)(hg:Gl X "range" :=by rfl)(hs:al [a] X.env=[(false,eval a X.env)]:=by rfl):JI X tg (.Call (.Name "range" p) [a] [] pos) (Nz ta):= .of (y0 hg hm ha.h hs) λσ H R hPl=>by
 obtain⟨τ,G,R2,rs,rp,h,cl⟩:=hPl
 refine⟨τ,G,_,rs,rp,h,λps G1 vs H1 q d r k=> ?_⟩
 split at q
 ·rename_i j
  obtain⟨v,vr,rfl,d1,d⟩:=d
  obtain rfl:vr=[]:=d
  obtain rfl:v= .int j:=d1
  exact⟨j,rfl,q.1,q.2.1,cl _ _ _ _ _ q.2.2 r k (IQ _ _)⟩
 ·exact q.elim
end
section
end
@[reducible] noncomputable def mJ:List (Option Nat)->jc->jc
 |[],_=>[]
 |some i::r,τ=>gt τ i::mJ r τ
 |none::r,τ=>none::mJ r τ
theorem tm:∀(ix:List (Option Nat)) (τ:jc),mJ ix τ=ix.map λo=>match o with
  |some i=>(τ[i]?).getD none
  |none=>none
 |[],_=>rfl
 |some i::r,τ=>by simp only[mJ,aD,Ce,tm r τ]
 |none::r,τ=>by simp only[mJ,aD,tm r τ]
theorem yJ{K:PySem.W.Frag}{H:Hp}{σ:L2.St}{τ:jc}(ix:List (Option Nat))(r:RSt K H σ τ):RSt K H (ka ix σ) (mJ ix τ):=by
 rw[tm]
 refine⟨by unfold ka;simp,λi p e=> ?_⟩
 unfold ka
 rw[aI]at e⊢
 cases q:ix[i]? with
 |none=>rw[q]at e;cases e
 |some o=>
  cases o with
  |none=>rw[q]at e;cases e
  |some k=>
   rw[q]at e
   have e':some ((τ[k]?).getD none)=some (some p):=e
   have e2:=a8 e'
   cases q2:τ[k]? with
   |none=>rw[q2]at e2;cases e2
   |some z=>
    rw[q2]at e2
    have e3:z=some p:=e2
    subst e3
    obtain⟨v,ev,d⟩:=r.2 k p q2
    refine⟨v,?_,d⟩
    show some ((σ[k]?).getD none)=_
    rw[ev]
    rfl
noncomputable def NL(items:List PV)(c:Gp->Prop)(ix:List (Option Nat))(j:Nat)(τ:jc)(tf:T2)(te:E2)(Q:K2)(G1:Gp)(acc:Addr):Prop:=
 ∃W:Nat->List PV->Gp->Prop,W 0 [] (up G1 acc (.lst []))/\(∀i ys G,i<=items.length->W i ys G->c G/\G acc=some (.lst ys)/\ys.length<16000000)/\
  (∀i ys G x,items[i]? =some x->W i ys G->tf (st (mJ ix τ) j (some x)) G λb G2=>o8 b (te (st (mJ ix τ) j (some x)) G2 λy G3=>G3 acc=some (.lst ys)/\W (i+1) (ys++[y]) (up G3 acc (.lst (ys++[y])))) (W (i+1) ys G2))/\∀ys G,W items.length ys G->Q (.ref acc) G
noncomputable abbrev Cq(ti:rL)(ix:List (Option Nat))(j:Nat)(tf:T2)(te:E2):E2:=λτ G Q=>ti τ G λitems c G1=>∀acc,G1 acc=none->NL items c ix j τ tf te Q G1 acc
structure JF(X:Cx)(ifs:List Expr)(t:T2):Prop where
 h:PF X ifs (uE X.K t)
noncomputable abbrev JU:T2:=λ_ G Q=>Q true G
section
variable{X:Cx}{c:Expr}{tA:T2}
theorem Ik:JF X [] JU:=⟨λpins s σ H Q I ⟨τ,G,Q2,rs,rp,q,cl⟩=>Hl pins s σ H Q I (cl _ _ _ q rp .refl)⟩
theorem Ij(h:JT X c tA):JF X [c] tA:=⟨Hk h.h⟩
theorem uD{ti:rL}{ix:List (Option Nat)}{j:Nat}{tf:T2}{te:E2}{σ:L2.St}{H:Hp}{Q:VK}(q:ou X.K (Cq ti ix j tf te) σ H Q):Ap (EF X.K ti) ix j (uE X.K tf) (ou X.K te) σ H Q:=by
 obtain⟨τ,G,Q2,rs,rp,q,cl⟩:=q
 refine⟨τ,G,_,rs,rp,q,λitems c G1 J H1 q1 r1 k1 ok acc hacc=> ?_⟩
 obtain⟨W,w0,hW,turn,done⟩:=q1 acc (r1.none hacc)
 have kn:Keep X.K H1 (upd H1 acc (.lst [])):=bK hacc
 refine⟨λi m H'=>m=items.length-i/\i<=items.length/\∃ys G',W i ys G'/\Rep X.K H' G'/\Keep X.K H1 H',⟨_,rfl,cg _,[],_,w0,r1.new hacc .nil,kn⟩,?_⟩
 rintro i m H2 ⟨rfl,hi,ys,G2,w2,r2,k2⟩
 obtain⟨hc,hacc2,hys⟩:=hW i ys G2 hi w2
 obtain⟨o1,o2,o3⟩:=ok i H2 G2 k2 r2 hc
 by_cases hlt:i<items.length
 ·refine .inr ⟨o1 hlt,λx H3 y=> ?_⟩
  obtain⟨p,ep,k3,r3,d3⟩:=o3 x H3 hlt y
  have k13:=k2.trans k3
  have rs3:RSt X.K H3 ((ka ix σ).set j (some x)) (st (mJ ix τ) j (some p)):=(yJ ix (rs.keep (k1.trans k13))).set d3 j
  refine⟨_,G2,_,rs3,r3,turn i ys G2 p ep w2,λb G4 H4 q4 r4 k4=> ?_⟩
  have k14:=k13.trans k4
  cases b with
  |false=>exact uP ⟨items.length-(i+1),by ac_nf,rfl,hlt,ys,G4,q4,r4,k14⟩
  |true=>
   refine uO ⟨_,G4,_,rs3.keep k4,r4,q4,λy G5 v H5 q5 d5 r5 k5=> ?_⟩
   obtain⟨ea,w5⟩:=q5
   obtain⟨vs,hv,dv⟩:=r5.lst ea
   refine⟨vs,hv,by rw[dv.length];exact CK (gS hys),items.length-(i+1),by ac_nf,rfl,hlt,ys++[y],_,w5,r5.put hv (dv.append (.cons d5 .nil)),(k14.trans k5).trans (fO hv)⟩
 ·have e:i=items.length:=by ac_nf
  subst e
  exact .inl ⟨o2 rfl,cl _ _ _ _ (done ys G2 w2) rfl r2 (k1.trans k2)⟩
theorem lx{scope:e8}{M:List Str}{ix:List (Option Nat)}{j:Nat}{x:Str}{elt iter:Expr}{px pos:Pos}{ifs:List Expr}{ti:rL}{tf:T2}{te:E2}(S:fq X.env.scope X.N scope M ix j x=true)(hc:X.calm=true)(hi:JI X (.Name x px) iter ti)
  (hb:∀C s H fp,JF (bO X M scope C s H fp) ifs tf/\JE (bO X M scope C s H fp) elt te) (hs:∀x,dI iter X.env x=pure x:=by intro _;rfl):
  JE X (.ListComp elt [⟨.Name x px,iter,ifs,0⟩] scope pos) (Cq ti ix j tf te):= .of (Ef (Cw S) hc hi.h (λC s H fp=>⟨(hb C s H fp).1.h,(hb C s H fp).2.h⟩) hs) λσ H Q q=>uD q
theorem yu{scope:e8}{M:List Str}{ix:List (Option Nat)}{j n:Nat}{x y:Str}{elt iter:Expr}{px py pos spos:Pos}{ifs:List Expr}{ti:rL}{tf:T2}{te:E2}(hN:X.N.Nodup)(hi:X.N[n]? =some y)(hy:X.env.scope.names.lookup y=some .local)
  (S:fq X.env.scope X.N scope M ix j x=true) (hc:X.calm=true) (hit:JI X (.Name x px) iter ti)
  (hb:∀C s H fp,JF (bO X M scope C s H fp) ifs tf/\JE (bO X M scope C s H fp) elt te)
  (hsw:eN (.ListComp elt [⟨.Name x px,iter,ifs,0⟩] scope pos) (some (.Name y py)) spos.line X.env=pure true:=by rfl) (hs:∀x,dI iter X.env x=pure x:=by intro _;rfl):
  JS X (.Assign [.Name y py] (.ListComp elt [⟨.Name x px,iter,ifs,0⟩] scope pos) spos) (DG (Cq ti ix j tf te) (gN n)):= .of (DS hN hi hy (Cw S) hc hit.h (λC s H fp=>⟨(hb C s H fp).1.h,(hb C s H fp).2.h⟩) hsw hs) λD σ H ⟨τ,G,D2,rs,rp,q,cl⟩=>by
 exact uD (X:=X) ⟨τ,G,_,rs,rp,q,λp G1 v H1 q1 d1 r1 k1=>cl.nx _ _ _ _ q1 ((rs.keep k1).set d1 n) r1 k1⟩
theorem i7{items:List PV}{c:Gp->Prop}{ix:List (Option Nat)}{j:Nat}{τ:jc}{tf:T2}{te:E2}{Q:K2}{G1:Gp}{acc:Addr}(f:PV->Bool)(g:PV->PV)(hz:items.length<16000000)
  (hc:∀ys,c (up G1 acc (.lst ys))) (ht:∀x ys (R:Bool->Gp->Prop),x∈items->R (f x) (up G1 acc (.lst ys))->tf (st (mJ ix τ) j (some x)) (up G1 acc (.lst ys)) R)
  (he:∀x ys (R:K2),x∈items->f x=true->R (g x) (up G1 acc (.lst ys))->te (st (mJ ix τ) j (some x)) (up G1 acc (.lst ys)) R)
  (hq:Q (.ref acc) (up G1 acc (.lst ((items.filter f).map g)))):NL items c ix j τ tf te Q G1 acc:=by
 refine⟨λi ys G=>ys=((items.take i).filter f).map g/\G=up G1 acc (.lst ys),⟨by simp,rfl⟩,?_,?_,?_⟩
 ·rintro i ys G hi ⟨rfl,rfl⟩
  refine⟨hc _,ao,?_⟩
  rw[aB]
  exact ja (aZ (List.length_filter_le _ _) (by rw[bz];ac_nf)) hz
 ·rintro i ys G x hx ⟨rfl,rfl⟩
  have hm:=ax hx
  have tk:items.take (i+1)=items.take i++[x]:=by rw[cO,hx];rfl
  refine ht x _ _ hm ?_
  cases hf:f x with
  |true=>
   refine jD rfl ?_
   refine he x _ _ hm hf ⟨ao,?_,ia⟩
   rw[tk,List.filter_append,bD]
   simp[hf]
  |false=>
   refine nZ rfl ⟨?_,rfl⟩
   rw[tk,List.filter_append]
   simp[hf]
 ·rintro ys G ⟨rfl,rfl⟩
  rw[ce]
  exact hq
end
noncomputable def Da:B2:=λp q G Q=>match p,q with
 | .int i,.int j=>Q (.int (i+j)) G
 | .str a,.str b=>a.length+b.length<=16000000/\Q (.str (a++b)) G
 | .tup xs,.tup ys=>xs≠[]/\xs.length+ys.length<=16000000/\Q (.tup (xs++ys)) G
 | .ref a,.ref b=>match lk G a,lk G b with
  |some ps,some qs=>ps.length+qs.length<=16000000/\∀c,G c=none->Q (.ref c) (up G c (.lst (ps++qs)))
  |_,_=>False
 | .ref a,.ro qs=>match lk G a with
  |some ps=>ps.length+qs.length<=16000000/\∀c,G c=none->Q (.ref c) (up G c (.lst (ps++qs)))
  |none=>False
 |_,_=>False
noncomputable abbrev i2(C:Int->Int->Prop)(g:Int->Int->PV):B2:=λp q G Q=>match p,q with
 | .int i,.int j=>C i j/\Q (g i j) G
 |_,_=>False
noncomputable abbrev IY(g:Int->Int->PV):B2:=λp q G Q=>match p,q with
 | .int i,.int j=>Q (g i j) G
 |_,_=>False
noncomputable abbrev Mf:B2:=λp q G Q=>match p,q with
 | .int i,.int j=>Q (.bl (decide (i<j))) G
 | .str a,.str b=>Q (.bl (decide (a.cps.toList<b.cps.toList))) G
 |_,_=>False
noncomputable abbrev ND:B2:=IY λi j=> .bl (decide (j<i))
noncomputable abbrev lz:B2:=IY λi j=> .bl (decide (j<=i))
noncomputable abbrev Kd:B2:=IY λi j=> .int (i-j)
noncomputable abbrev KR:B2:=i2 (λ_ j=>0<j) λi j=> .int (i%j)
noncomputable abbrev Gg:B2:=i2 Gq λi j=> .int (i/j)
noncomputable abbrev Kq:B2:=i2 Jx λi j=> .int (i^j.toNat)
noncomputable def EB:B2:=λp q G Q=>match p,q with
 | .int i,.int j=>CMul i j/\Q (.int (i*j)) G
 | .ref a,.int k=>match G a with
  |some (.lst ps)=>(-(2^63)<=k/\k<2^63)/\ps.length*k.toNat<=16000000/\∀c,G c=none->Q (.ref c) (up G c (.lst (aE k.toNat ps).flatten))
  |_=>False
 |_,_=>False
section
variable{X:Cx}
theorem wE{f:ae->ae->Sem ae}{C:Int->Int->Prop}{g:Int->Int->V}{g':Int->Int->PV}(h:gW X f (rI C g))(hg:∀i j H,Dv X.K H (g' i j) (g i j)):gW X f (fL X.K (i2 C g')):=by
 intro pins s σ H x y v u Q I rx ry h'
 obtain⟨p,q,G,Q2,d1,d2,rp,q',cl⟩:=h'
 unfold i2 at q'
 split at q'
 ·rename_i i j
  obtain rfl:x= .int i:=d1
  obtain rfl:y= .int j:=d2
  exact h pins s σ H _ _ v u Q I rx ry ⟨i,j,rfl,rfl,q'.1,cl _ _ _ _ q'.2 (hg i j H) rp .refl⟩
 ·exact q'.elim
theorem sO{f:ae->ae->Sem ae}{g:Int->Int->V}{g':Int->Int->PV}(h:gW X f (FT g))(hg:∀i j H,Dv X.K H (g' i j) (g i j)):gW X f (fL X.K (IY g')):=by
 intro pins s σ H x y v u Q I rx ry h'
 obtain⟨p,q,G,Q2,d1,d2,rp,q',cl⟩:=h'
 unfold IY at q'
 split at q'
 ·rename_i i j
  obtain rfl:x= .int i:=d1
  obtain rfl:y= .int j:=d2
  exact h pins s σ H _ _ v u Q I rx ry ⟨i,j,rfl,rfl,cl _ _ _ _ q' (hg i j H) rp .refl⟩
 ·exact q'.elim
theorem KB:gW X (cx .Sub) (fL X.K Kd):=sO Hw λ_ _ _=>rfl
theorem KH:gW X (cx .Mod) (fL X.K KR):=wE HA λ_ _ _=>rfl
theorem HN:gW X (cx .FloorDiv) (fL X.K Gg):=wE Bf λ_ _ _=>rfl
theorem KC:gW X (cx .Pow) (fL X.K Kq):=wE Hy λ_ _ _=>rfl
theorem KL:gW X (cr .Gt) (fL X.K ND):=sO Kv λ_ _ _=>rfl
theorem Nn:gW X (cr .GtE) (fL X.K lz):=sO Kw λ_ _ _=>rfl
theorem KI:gW X (cr .Lt) (fL X.K Mf):=by
 intro pins s σ H x y v u Q I rx ry h
 obtain⟨p,q,G,Q2,d1,d2,rp,h,cl⟩:=h
 unfold Mf at h
 split at h
 ·rename_i i j
  obtain rfl:x= .int i:=d1
  obtain rfl:y= .int j:=d2
  exact Ku pins s σ H _ _ v u Q I rx ry ⟨i,j,rfl,rfl,cl _ _ _ _ h rfl rp .refl⟩
 ·rename_i i j
  obtain rfl:x= .str i:=d1
  obtain rfl:y= .str j:=d2
  exact y4 pins s σ H _ _ v u Q I rx ry ⟨i,j,rfl,rfl,cl _ _ _ _ h rfl rp .refl⟩
 ·exact h.elim
theorem F0:gW X (cx .Add) (fL X.K Da):=by
 intro pins s σ H x y v u Q I rx ry h
 obtain⟨p,q,G,Q2,d1,d2,rp,h,cl⟩:=h
 unfold Da at h
 split at h
 ·rename_i i j
  obtain rfl:x= .int i:=d1
  obtain rfl:y= .int j:=d2
  exact HD pins s σ H _ _ v u Q I rx ry ⟨i,j,rfl,rfl,cl _ _ _ _ h rfl rp .refl⟩
 ·rename_i i j
  obtain rfl:x= .str i:=d1
  obtain rfl:y= .str j:=d2
  exact wc pins s σ H _ _ v u Q I rx ry ⟨i,j,rfl,rfl,big h.1,cl _ _ _ _ h.2 rfl rp .refl⟩
 ·rename_i xs ys
  obtain⟨a,vs,rfl,sa,da⟩:=d1
  obtain⟨b,us,rfl,sb,db⟩:=d2
  obtain⟨ne,hl,hq⟩:=h
  have la:=da.length
  have lb:=db.length
  refine El pins s σ H _ _ v u Q I rx ry ⟨a,b,vs,us,rfl,rfl,sa,sb,?_,by rw[la,lb];exact big hl,λe=> ?_,λ_ c hc=> ?_⟩
  ·intro e;subst e
   exact ne (qH (by rw[<-la];rfl))
  ·subst e
   have ey:ys=[]:=qH (by rw[<-lb];rfl)
   subst ey
   rw[bI]at hq
   exact cl _ _ _ _ hq ⟨a,vs,rfl,sa,da⟩ rp .refl
  ·have kn:Keep X.K H (upd H c (.tup (vs++us))):=bK hc
   exact cl _ _ _ _ hq ⟨c,_,rfl,.of cb,(da.append db).keep kn⟩ (rp.tup hc) kn
 ·rename_i a b
  split at h
  ·rename_i ps qs e1 e2
   obtain⟨hl,hq⟩:=h
   obtain rfl:x= .ref a:=d1
   obtain rfl:y= .ref b:=d2
   obtain⟨vs,sa,da⟩:=fN rp e1
   obtain⟨us,sb,db⟩:=fN rp e2
   refine sC pins s σ H _ _ v u Q I rx ry ⟨a,b,vs,us,rfl,rfl,sa,sb,by rw[da.length,db.length];exact big hl,λc hc=> ?_⟩
   exact cl _ _ _ _ (hq c (rp.none hc)) rfl (rp.new hc (da.append db)) (bK hc)
  ·exact h.elim
 ·rename_i a qs
  split at h
  ·rename_i ps e1
   obtain⟨hl,hq⟩:=h
   obtain rfl:x= .ref a:=d1
   obtain⟨b,us,rfl,sb,db⟩:=d2
   obtain⟨vs,sa,da⟩:=fN rp e1
   refine sC pins s σ H _ _ v u Q I rx ry ⟨a,b,vs,us,rfl,rfl,sa,sb.sq,by rw[da.length,db.length];exact big hl,λc hc=> ?_⟩
   exact cl _ _ _ _ (hq c (rp.none hc)) rfl (rp.new hc (da.append db)) (bK hc)
  ·exact h.elim
 ·exact h.elim
theorem Dvs.rep{K:PySem.W.Frag}{H:Hp}{ps:List PV}{vs:List V}(d:Dvs K H ps vs):∀n,Dvs K H (aE n ps).flatten (aE n vs).flatten
 |0=>rfl
 |n+1=>by
  rw[bF,bF,cP,cP]
  exact d.append (Dvs.rep d n)
theorem KG:gW X (cx .Mult) (fL X.K EB):=by
 intro pins s σ H x y v u Q I rx ry h
 obtain⟨p,q,G,Q2,d1,d2,rp,h,cl⟩:=h
 unfold EB at h
 split at h
 ·rename_i i j
  obtain rfl:x= .int i:=d1
  obtain rfl:y= .int j:=d2
  exact Hz pins s σ H _ _ v u Q I rx ry ⟨i,j,rfl,rfl,h.1,cl _ _ _ _ h.2 rfl rp .refl⟩
 ·rename_i a k
  split at h
  ·rename_i ps e
   obtain⟨hk,hl,hq⟩:=h
   obtain rfl:x= .ref a:=d1
   obtain rfl:y= .int k:=d2
   obtain⟨vs,ha,da⟩:=rp.lst e
   refine Hx pins s σ H _ _ v u Q I rx ry ⟨a,k,vs,rfl,rfl,ha,hk.1,hk.2,by rw[da.length];exact big hl,λc hc=> ?_⟩
   exact cl _ _ _ _ (hq c (rp.none hc)) rfl (rp.new hc (da.rep _)) (bK hc)
  ·exact h.elim
 ·exact h.elim
end
noncomputable abbrev Lr:B2:=λp q G Q=>match p,q with
 | .non,.non=>Q (.bl true) G
 |_,.non=>Q (.bl false) G
 |_,_=>False
noncomputable def j5:PV->Bool
 | .non=>true
 | .bl _=>true
 | .int _=>true
 | .str _=>true
 |_=>false
noncomputable def IX(x:PV)(ps:List PV):Bool:=ps.any λy=>iP y x
noncomputable def Ls(neg:Bool):B2:=λp q G Q=>match q with
 | .tup ps=>j5 p=true/\ps.all j5=true/\Q (.bl (if neg then !IX p ps else IX p ps)) G
 | .ref a=>match lk G a with
  |some ps=>j5 p=true/\ps.all j5=true/\Q (.bl (if neg then !IX p ps else IX p ps)) G
  |none=>False
 | .str j=>match p with
  | .str i=>Q (.bl (if neg then !(!(fV j i 0 j.length 1).isEmpty)else !(fV j i 0 j.length 1).isEmpty)) G
  |_=>False
 |_=>False
section
variable{X:Cx}
theorem wG{K:PySem.W.Frag}{H:Hp}{p:PV}{v:V}(f:j5 p=true)(d:Dv K H p v):kY v=true:=by
 cases p with
 |non=>obtain rfl:v= .non:=d;rfl
 |bl b=>obtain rfl:v= .bl b:=d;rfl
 |int b=>obtain rfl:v= .int b:=d;rfl
 |str b=>obtain rfl:v= .str b:=d;rfl
 |_=>cases f
theorem Ff{K:PySem.W.Frag}{H:Hp}{p q:PV}{v u:V}(f1:j5 p=true)(f2:j5 q=true)(d1:Dv K H p v)(d2:Dv K H q u):Fh v u=iP p q:=by
 cases p with
 |non=>
  obtain rfl:v= .non:=d1
  cases q with
  |non=>obtain rfl:u= .non:=d2;rfl
  |bl b=>obtain rfl:u= .bl b:=d2;rfl
  |int b=>obtain rfl:u= .int b:=d2;rfl
  |str b=>obtain rfl:u= .str b:=d2;rfl
  |_=>cases f2
 |bl a=>
  obtain rfl:v= .bl a:=d1
  cases q with
  |non=>obtain rfl:u= .non:=d2;rfl
  |bl b=>obtain rfl:u= .bl b:=d2;rfl
  |int b=>obtain rfl:u= .int b:=d2;rfl
  |str b=>obtain rfl:u= .str b:=d2;rfl
  |_=>cases f2
 |int a=>
  obtain rfl:v= .int a:=d1
  cases q with
  |non=>obtain rfl:u= .non:=d2;rfl
  |bl b=>obtain rfl:u= .bl b:=d2;rfl
  |int b=>obtain rfl:u= .int b:=d2;rfl
  |str b=>obtain rfl:u= .str b:=d2;rfl
  |_=>cases f2
 |str a=>
  obtain rfl:v= .str a:=d1
  cases q with
  |non=>obtain rfl:u= .non:=d2;rfl
  |bl b=>obtain rfl:u= .bl b:=d2;rfl
  |int b=>obtain rfl:u= .int b:=d2;rfl
  |str b=>obtain rfl:u= .str b:=d2;rfl
  |_=>cases f2
 |_=>cases f1
theorem sR{K:PySem.W.Frag}{H:Hp}{x:PV}{xv:V}(fx:j5 x=true)(dx:Dv K H x xv):∀{ps:List PV} {vs:List V},ps.all j5=true->Dvs K H ps vs->vs.all kY=true/\Mg xv vs=IX x ps
 |[],vs,_,d=>by rw[show vs=[]from d];exact⟨rfl,rfl⟩
 |p::ps,vs,f,d=>by
  obtain⟨v,r,rfl,d1,d2⟩:=d
  rw[eK,av]at f
  obtain⟨h1,h2⟩:=sR fx dx f.2 d2
  refine⟨by rw[eK,wG f.1 d1,h1];rfl,?_⟩
  unfold Mg IX at h2⊢
  rw[cK,cK,Ff f.1 fx d1 dx,h2]
theorem Nm:gW X (cr .In) (fL X.K (Ls false)):=by
 intro pins s σ H x y v u Q I rx ry h
 obtain⟨p,q,G,Q2,d1,d2,rp,h,cl⟩:=h
 unfold Ls at h
 split at h
 ·rename_i ps
  obtain⟨f1,f2,hq⟩:=h
  obtain⟨b,us,rfl,sb,db⟩:=d2
  obtain⟨g1,g2⟩:=sR f1 d1 f2 db
  refine rb pins s σ H _ _ v u Q I rx ry ⟨b,us,rfl,.inr sb,wG f1 d1,g1,?_⟩
  rw[g2]
  exact cl _ _ _ _ hq rfl rp .refl
 ·rename_i b
  split at h
  ·rename_i ps e
   obtain⟨f1,f2,hq⟩:=h
   obtain rfl:y= .ref b:=d2
   obtain⟨us,sb,db⟩:=fN rp e
   obtain⟨g1,g2⟩:=sR f1 d1 f2 db
   refine rb pins s σ H _ _ v u Q I rx ry ⟨b,us,rfl,.inl sb,wG f1 d1,g1,?_⟩
   rw[g2]
   exact cl _ _ _ _ hq rfl rp .refl
  ·exact h.elim
 ·rename_i j
  split at h
  ·rename_i i
   obtain rfl:x= .str i:=d1
   obtain rfl:y= .str j:=d2
   exact y6 pins s σ H _ _ v u Q I rx ry ⟨i,j,rfl,rfl,cl _ _ _ _ h rfl rp .refl⟩
  ·exact h.elim
 ·exact h.elim
theorem Ey{K:PySem.W.Frag}{H:Hp}{p:PV}{v:V}(d:Dv K H p v):(v= .non)↔(p= .non):=by
 cases p with
 |non=>obtain rfl:v= .non:=d;simp
 |tup ps=>obtain⟨a,vs,rfl,_⟩:=d;simp
 |bl b=>obtain rfl:v= .bl b:=d;simp
 |int b=>obtain rfl:v= .int b:=d;simp
 |str b=>obtain rfl:v= .str b:=d;simp
 |ref b=>obtain rfl:v= .ref b:=d;simp
 |ty b=>obtain rfl:v= .ty b:=d;simp
 |ro b=>obtain⟨a,vs,rfl,_⟩:=d;simp
theorem KJ:gW X (cr .Is) (fL X.K Lr):=by
 intro pins s σ H x y v u Q I rx ry h
 obtain⟨p,q,G,Q2,d1,d2,rp,h,cl⟩:=h
 have z:=Ey d1
 cases q with
 |non=>
  obtain rfl:y= .non:=d2
  refine HB pins s σ H _ _ v u Q I rx ry ⟨rfl,?_⟩
  cases p with
  |non=>rw[decide_eq_true (z.mpr rfl)];exact cl _ _ _ _ h rfl rp .refl
  |_=>rw[decide_eq_false (λe=>nomatch (z.mp e))];exact cl _ _ _ _ h rfl rp .refl
 |_=>cases p<;>exact bG h
end
noncomputable def De:B2:=λp q G Q=>match p,q with
 | .tup ps,.int i=>match mW ps i with
  |some x=>Q x G
  |none=>False
 | .ref a,.int i=>match lk G a with
  |some ps=>match mW ps i with
   |some x=>Q x G
   |none=>False
  |none=>False
 | .str z,.int i=>z.length<=16000000/\match mW z.cps.toList i with
  |some c=>Q (.str ⟨#[c]⟩) G
  |none=>False
 |_,_=>False
theorem CV{K:PySem.W.Frag}{H:Hp}{ps:List PV}{vs:List V}{i:Int}{p:PV}(d:Dvs K H ps vs)(h:mW ps i=some p):∃v,mW vs i=some v/\Dv K H p v:=by
 unfold mW at h⊢
 rw[d.length]
 cases e:zC ps.length i with
 |none=>rw[e]at h;cases h
 |some j=>
  rw[e]at h
  exact d.at h
theorem JM{X:Cx}:JK X (fL X.K De):=by
 intro va sl pins s σ H x y v u Q I rx ry h hs
 obtain⟨p,q,G,Q2,d1,d2,rp,h,cl⟩:=h
 unfold De at h
 split at h
 ·rename_i ps i
  split at h
  ·rename_i z e
   obtain⟨a,vs,rfl,sa,da⟩:=d1
   obtain rfl:y= .int i:=d2
   obtain⟨w,ew,dw⟩:=CV da e
   exact IL va sl pins s σ H _ _ v u Q I rx ry ⟨a,vs,i,w,rfl,rfl,sa,ew,cl _ _ _ _ h dw rp .refl⟩ hs
  ·exact h.elim
 ·rename_i a i
  split at h
  ·rename_i ps e0
   split at h
   ·rename_i z e
    obtain rfl:x= .ref a:=d1
    obtain rfl:y= .int i:=d2
    obtain⟨vs,sa,da⟩:=fN rp e0
    obtain⟨w,ew,dw⟩:=CV da e
    exact E6 va sl pins s σ H _ _ v u Q I rx ry ⟨a,vs,i,w,rfl,rfl,sa,ew,cl _ _ _ _ h dw rp .refl⟩ hs
   ·exact h.elim
  ·exact h.elim
 ·rename_i z i
  obtain⟨hz,h⟩:=h
  split at h
  ·rename_i c e
   obtain rfl:x= .str z:=d1
   obtain rfl:y= .int i:=d2
   exact IM va sl pins s σ H _ _ v u Q I rx ry ⟨z,i,c,rfl,rfl,big hz,e,cl _ _ _ _ h rfl rp .refl⟩ hs
  ·exact h.elim
 ·exact h.elim
noncomputable def lv:C2:=λps G Q=>match ps with
 |[.tup xs]=>Q (.int xs.length) G
 |[.ref a]=>match lk G a with
  |some xs=>Q (.int xs.length) G
  |none=>False
 |[.str z]=>z.length<=16000000/\Q (.int z.length) G
 |_=>False
theorem fQ{K:PySem.W.Frag}{H:Hp}{p:PV}{vs:List V}(d:Dvs K H [p] vs):∃v,vs=[v]/\Dv K H p v:=by
 obtain⟨v,r,rfl,d1,d2⟩:=d
 obtain rfl:r=[]:=d2
 exact⟨v,rfl,d1⟩
theorem rW{K:PySem.W.Frag}{H:Hp}{p q:PV}{vs:List V}(d:Dvs K H [p,q] vs):∃v u,vs=[v,u]/\Dv K H p v/\Dv K H q u:=by
 obtain⟨v,r,rfl,d1,d2⟩:=d
 obtain⟨u,rfl,d3⟩:=fQ d2
 exact⟨v,u,rfl,d1,d3⟩
section
variable{X:Cx}
theorem LU:gE X (.builtin "len") (pN X.K lv):=by
 intro pins s σ H xs us Q I rs h
 obtain⟨ps,G,Q2,d,rp,h,cl⟩:=h
 unfold lv at h
 split at h
 ·rename_i ys
  obtain⟨v,rfl,dv⟩:=fQ d
  obtain⟨a,vs,rfl,sa,da⟩:=dv
  refine mK pins s σ H _ us Q I rs ⟨a,vs,rfl,.inr sa,?_⟩
  rw[da.length]
  exact cl _ _ _ _ h rfl rp .refl
 ·rename_i a
  split at h
  ·rename_i ys e
   obtain⟨v,rfl,dv⟩:=fQ d
   obtain rfl:v= .ref a:=dv
   obtain⟨vs,sa,da⟩:=fN rp e
   refine mK pins s σ H _ us Q I rs ⟨a,vs,rfl,.inl sa,?_⟩
   rw[da.length]
   exact cl _ _ _ _ h rfl rp .refl
  ·exact h.elim
 ·rename_i z
  obtain⟨v,rfl,dv⟩:=fQ d
  obtain rfl:v= .str z:=dv
  exact tq pins s σ H _ us Q I rs ⟨z,rfl,big h.1,cl _ _ _ _ h.2 rfl rp .refl⟩
 ·exact h.elim
noncomputable def BI:C2:=λps G Q=>match ps with
 |[.int i,.int j]=>Q (.int (if j>i then j else i)) G
 |_=>False
theorem Jj(hc:X.calm=true):gE X (.builtin "max") (pN X.K BI):=by
 intro pins s σ H xs us Q I rs h
 obtain⟨ps,G,Q2,d,rp,h,cl⟩:=h
 unfold BI at h
 split at h
 ·rename_i i j
  obtain⟨v,u,rfl,dv,du⟩:=rW d
  obtain rfl:v= .int i:=dv
  obtain rfl:u= .int j:=du
  exact zP hc pins s σ H _ us Q I rs ⟨i,j,rfl,cl _ _ _ _ h rfl rp .refl⟩
 ·exact h.elim
noncomputable def pd:C2:=λps G Q=>match ps with
 |[.tup xs]=>Q (.tup xs) G
 |[.ref a]=>match lk G a with
  |some xs=>Q (.tup xs) G
  |none=>False
 |_=>False
theorem Fs:gE X (.type "tuple") (pN X.K pd):=by
 intro pins s σ H xs us Q I rs h
 obtain⟨ps,G,Q2,d,rp,h,cl⟩:=h
 unfold pd at h
 split at h
 ·rename_i ys
  obtain⟨v,rfl,dv⟩:=fQ d
  obtain⟨a,vs,rfl,sa,da⟩:=dv
  exact lc pins s σ H _ us Q I rs ⟨a,vs,rfl,.inr ⟨sa,cl _ _ _ _ h ⟨a,vs,rfl,sa,da⟩ rp .refl⟩⟩
 ·rename_i a
  obtain⟨v,rfl,dv⟩:=fQ d
  obtain rfl:v= .ref a:=dv
  split at h
  ·rename_i ys e
   obtain⟨vs,sa,da⟩:=fN rp e
   refine lc pins s σ H _ us Q I rs ⟨a,vs,rfl,.inl ⟨sa,λc hc=> ?_⟩⟩
   have kn:Keep X.K H (upd H c (.tup vs)):=bK hc
   exact cl _ _ _ _ h ⟨c,vs,rfl,.of cb,da.keep kn⟩ (rp.tup hc) kn
  ·exact h.elim
 ·exact h.elim
noncomputable def ly:List PV->Option (List Int)
 |[]=>some []
 | .int b::r=>(ly r).map (b::·)
 |_=>none
theorem uR{K:PySem.W.Frag}{H:Hp}:∀{ps:List PV} {bs:List Int} {vs:List V},ly ps=some bs->Dvs K H ps vs->vs=bs.map V.int
 |[],bs,vs,h,d=>by cases h;exact d
 |p::ps,bs,vs,h,d=>by
  obtain⟨v,r,rfl,d1,d2⟩:=d
  cases p with
  |int b=>
   unfold ly at h
   cases e:ly ps with
   |none=>rw[e]at h;cases h
   |some cs=>
    rw[e]at h
    cases h
    obtain rfl:v= .int b:=d1
    rw[uR e d2]
    rfl
  |_=>cases h
theorem wC(ns:List Int):ly (ns.map PV.int)=some ns:=by
 induction ns with
 |nil=>rfl
 |cons n ns ih=>rw[aD];unfold ly;rw[ih];rfl
theorem yA{K:PySem.W.Frag}{H:Hp}:∀(l:List Int),Dvs K H (l.map PV.int) (l.map V.int)
 |[]=>rfl
 |i::l=>⟨_,_,rfl,rfl,yA l⟩
noncomputable def Au:C2:=λps G Q=>match ps with
 |[.ref a]=>match lk G a with
  |some xs=>match ly xs with
   |some ns=>Q (.int ns.sum) G
   |none=>False
  |none=>False
 |_=>False
theorem LS(hc:X.calm=true):gE X (.builtin "sum") (pN X.K Au):=by
 intro pins s σ H xs us Q I rs h
 obtain⟨ps,G,Q2,d,rp,h,cl⟩:=h
 unfold Au at h
 split at h
 ·rename_i a
  split at h
  ·rename_i ys e
   split at h
   ·rename_i ns eb
    obtain⟨v,rfl,dv⟩:=fQ d
    obtain rfl:v= .ref a:=dv
    obtain⟨vs,sa,da⟩:=fN rp e
    obtain rfl:=uR eb da
    obtain⟨u,rfl,ru⟩:=rs.one
    cases ru
    obtain⟨its,r,pl,_⟩:=I.list sa
    have hi:=wD r
    obtain⟨zs,ez⟩:=hi.allInts.items
    refine sum_intListG (I.ok.hd hc) (xs:=zs) (by rw[<-ez];exact pl.isList) λh' tk t' hk=> ?_
    refine⟨.int ns.sum,H,I.kept (t':=tk) λb o e=>hk b o e,⟨t',?_⟩,cl _ _ _ _ h rfl rp .refl⟩
    have e1:numsOf its=ns:=hi.numsOf
    have e2:its.toArray.toList=its:=rfl
    rw[<-e2,ez,nums_intItems]at e1
    rw[preSum_eq,List.take_of_length_le (by simp)]
    rw[<-e1]
   ·exact h.elim
  ·exact h.elim
 ·exact h.elim
end
noncomputable def NB(p:PV)(G:Gp):Prop:=match p with
 | .ref a=>∃ps,G a=some (.lst ps)
 |_=>False
noncomputable abbrev Jc(r:M2)(to:E2)(t:A2):E2:=λτ G Q=>to τ G λx G1=>NB x G1/\t τ G1 λps G2=>r x ps G2 Q
noncomputable abbrev Gj(r:M2)(to:E2):E2:=λτ G Q=>to τ G λx G1=>NB x G1/\r x [] G1 Q
noncomputable abbrev LI(r:M2)(to:E2)(t:A2):E2:=λτ G Q=>to τ G λx G1=>match x with
 | .str _=>t τ G1 λps G2=>r x ps G2 Q
 |_=>False
section
variable{X:Cx}{o e:Expr}{es:List Expr}{to:E2}{t:A2}{name:Str}{apos cpos:Pos}{id:String}{r:M2}
theorem B9{K:PySem.W.Frag}{H:Hp}{p:PV}{v:V}{G:Gp}(h:NB p G)(d:Dv K H p v)(rp:Rep K H G):Mc K "list" v H:=by
 cases p with
 |ref a=>
  obtain⟨ps,e⟩:=h
  obtain rfl:v= .ref a:=d
  obtain⟨vs,hv,_⟩:=rp.lst e
  exact .inl ⟨rfl,vs,.of hv⟩
 |_=>exact h.elim
theorem Gc(slot:Slot "list" name id)(hty:typeOf (.builtin id)=pure (.type "method_descriptor"))(hm:zT X id (sH X.K r))(ho:JE X o to)(ha:JA X (e::es) t)
  (hbase:bL o name X.env (eval o X.env)=eval o X.env:=by rfl)
  (hfew:((bC cpos (al (e::es) X.env)).all (λx=> !x.1)&&(gJ cpos (dW [] X.env)).all (λx=>x.1.isSome)&&decide ((e::es).length+([]:List fT).length+(if([]:List fT).isEmpty then 0 else 1)<30))=true:=by rfl)
  (hline:(apos.endLine==cpos.line)=true:=by rfl) (hs:al (e::es) X.env=(false,eval e X.env)::al es X.env:=by rfl) (hplain:(bC cpos (al es X.env)).any (·.1)=false:=by rfl):
  JE X (.Call (.Attribute o name apos) (e::es) [] cpos) (Jc r to t):= .of (FZ PySem.F.plainAttrs_list slot hty hm ho.h ha.h hbase hfew hline hs hplain) λσ H Q ⟨τ,G,Q2,rs,rp,q,cl⟩=>by
 refine⟨τ,G,_,rs,rp,q,λp G1 v H1 q1 d1 r1 k1=>⟨B9 q1.1 d1 r1,τ,G1,_,rs.keep k1,r1,q1.2,λps G2 vs H2 q2 d2 r2 k2=> ?_⟩⟩
 exact⟨p,ps,G2,Q2,d1.keep k2,d2,r2,q2,cl.keep (k1.trans k2)⟩
theorem IB(slot:Slot "list" name id)(hty:typeOf (.builtin id)=pure (.type "method_descriptor"))(hm:zT X id (sH X.K r))(ho:JE X o to)
  (hbase:bL o name X.env (eval o X.env)=eval o X.env:=by rfl) (hline:(apos.endLine==cpos.line)=true:=by rfl):
  JE X (.Call (.Attribute o name apos) [] [] cpos) (Gj r to):= .of (Bd PySem.F.plainAttrs_list slot hty hm ho.h hbase hline) λσ H Q ⟨τ,G,Q2,rs,rp,q,cl⟩=>by
 refine⟨τ,G,_,rs,rp,q,λp G1 v H1 q1 d1 r1 k1=>⟨B9 q1.1 d1 r1,?_⟩⟩
 exact⟨p,[],G1,Q2,d1,.nil,r1,q1.2,cl.keep k1⟩
theorem Lj(slot:Slot "str" name id)(hty:typeOf (.builtin id)=pure (.type "method_descriptor"))(hm:zT X id (sH X.K r))(ho:JE X o to)(ha:JA X (e::es) t)
  (hbase:bL o name X.env (eval o X.env)=eval o X.env:=by rfl)
  (hfew:((bC cpos (al (e::es) X.env)).all (λx=> !x.1)&&(gJ cpos (dW [] X.env)).all (λx=>x.1.isSome)&&decide ((e::es).length+([]:List fT).length+(if([]:List fT).isEmpty then 0 else 1)<30))=true:=by rfl)
  (hline:(apos.endLine==cpos.line)=true:=by rfl) (hs:al (e::es) X.env=(false,eval e X.env)::al es X.env:=by rfl) (hplain:(bC cpos (al es X.env)).any (·.1)=false:=by rfl):
  JE X (.Call (.Attribute o name apos) (e::es) [] cpos) (LI r to t):= .of (FZ PySem.F.plainAttrs_str slot hty hm ho.h ha.h hbase hfew hline hs hplain) λσ H Q ⟨τ,G,Q2,rs,rp,q,cl⟩=>by
 refine⟨τ,G,_,rs,rp,q,λp G1 v H1 q1 d1 r1 k1=> ?_⟩
 cases p with
 |str z=>
  obtain rfl:v= .str z:=d1
  refine⟨rfl,τ,G1,_,rs.keep k1,r1,q1,λps G2 vs H2 q2 d2 r2 k2=> ?_⟩
  exact⟨.str z,ps,G2,Q2,rfl,d2,r2,q2,cl.keep (k1.trans k2)⟩
 |_=>exact bG q1
noncomputable def mM:M2:=λp ps G Q=>match p,ps with
 | .ref a,[y]=>match G a with
  |some (.lst xs)=>xs.length<16000000/\Q .non (up G a (.lst (xs++[y])))
  |_=>False
 |_,_=>False
theorem BL:zT X "list.append" (sH X.K mM):=by
 intro pins s σ H x xs v us Q I rx rs h
 obtain⟨p,ps,G,Q2,d,ds,rp,h,cl⟩:=h
 unfold mM at h
 split at h
 ·rename_i a y
  split at h
  ·rename_i zs e
   obtain rfl:x= .ref a:=d
   obtain⟨w,rfl,dw⟩:=fQ ds
   obtain⟨vs,hv,dv⟩:=rp.lst e
   exact nv pins s σ H _ _ v us Q I rx rs ⟨a,vs,w,rfl,rfl,hv,by rw[dv.length];exact CK (gS h.1),cl _ _ _ _ h.2 rfl (rp.put hv (dv.append (.cons dw .nil))) (fO hv)⟩
  ·exact h.elim
 ·exact h.elim
noncomputable def ji:M2:=λp ps G Q=>match p,ps with
 | .ref a,[.tup ys]=>match G a with
  |some (.lst xs)=>xs.length+ys.length<=16000000/\Q .non (up G a (.lst (xs++ys)))
  |_=>False
 | .ref a,[.ref b]=>match G a,G b with
  |some (.lst xs),some (.lst ys)=>xs.length+ys.length<=16000000/\Q .non (up G a (.lst (xs++ys)))
  |_,_=>False
 |_,_=>False
theorem BK:zT X "list.extend" (sH X.K ji):=by
 intro pins s σ H x xs v us Q I rx rs h
 obtain⟨p,ps,G,Q2,d,ds,rp,h,cl⟩:=h
 unfold ji at h
 split at h
 ·rename_i a ys
  split at h
  ·rename_i zs e
   obtain rfl:x= .ref a:=d
   obtain⟨w,rfl,dw⟩:=fQ ds
   obtain⟨b,ws,rfl,sb,db⟩:=dw
   obtain⟨vs,hv,dv⟩:=rp.lst e
   exact wl pins s σ H _ _ v us Q I rx rs ⟨a,b,vs,ws,rfl,rfl,hv,sb,by rw[dv.length,db.length];exact big h.1,cl _ _ _ _ h.2 rfl (rp.put hv (dv.append db)) (fO hv)⟩
  ·exact h.elim
 ·rename_i a b
  split at h
  ·rename_i zs ys e1 e2
   obtain rfl:x= .ref a:=d
   obtain⟨w,rfl,dw⟩:=fQ ds
   obtain rfl:w= .ref b:=dw
   obtain⟨vs,hv,dv⟩:=rp.lst e1
   obtain⟨ws,hb,db⟩:=rp.lst e2
   exact zi pins s σ H _ _ v us Q I rx rs ⟨a,b,vs,ws,rfl,rfl,hv,hb,by rw[dv.length,db.length];exact big h.1,cl _ _ _ _ h.2 rfl (rp.put hv (dv.append db)) (fO hv)⟩
  ·exact h.elim
 ·exact h.elim
noncomputable def A3:M2:=λp ps G Q=>match p,ps with
 | .ref a,[]=>match G a with
  |some (.lst xs)=>match xs[xs.length-1]? with
   |some y=>Q y (up G a (.lst xs.dropLast))
   |none=>False
  |_=>False
 |_,_=>False
theorem Dvs.dropLast{K:PySem.W.Frag}{H:Hp}{ps:List PV}{vs:List V}(d:Dvs K H ps vs):Dvs K H ps.dropLast vs.dropLast:=by
 rw[List.dropLast_eq_take,List.dropLast_eq_take,d.length]
 exact d.take _
theorem KS:zT X "list.pop" (sH X.K A3):=by
 intro pins s σ H x xs v us Q I rx rs h
 obtain⟨p,ps,G,Q2,d,ds,rp,h,cl⟩:=h
 unfold A3 at h
 split at h
 ·rename_i a
  split at h
  ·rename_i zs e
   split at h
   ·rename_i y ey
    obtain rfl:x= .ref a:=d
    obtain rfl:xs=[]:=ds
    obtain⟨vs,hv,dv⟩:=rp.lst e
    obtain⟨w,ew,dw⟩:=dv.at ey
    refine HS pins s σ H _ _ v us Q I rx rs ⟨a,vs,w,rfl,rfl,hv,by rw[dv.length];exact ew,cl _ _ _ _ h (dw.keep (fO hv)) (rp.put hv dv.dropLast) (fO hv)⟩
   ·exact h.elim
  ·exact h.elim
 ·exact h.elim
noncomputable def lq:List PV->Option (List Str)
 |[]=>some []
 | .str b::r=>(lq r).map (b::·)
 |_=>none
theorem tX{K:PySem.W.Frag}{H:Hp}:∀{ps:List PV} {bs:List Str} {vs:List V},lq ps=some bs->Dvs K H ps vs->vs=bs.map V.str
 |[],bs,vs,h,d=>by cases h;exact d
 |p::ps,bs,vs,h,d=>by
  obtain⟨v,r,rfl,d1,d2⟩:=d
  cases p with
  |str b=>
   unfold lq at h
   cases e:lq ps with
   |none=>rw[e]at h;cases h
   |some cs=>
    rw[e]at h
    cases h
    obtain rfl:v= .str b:=d1
    rw[tX e d2]
    rfl
  |_=>cases h
theorem vO(ns:List Str):lq (ns.map PV.str)=some ns:=by
 induction ns with
 |nil=>rfl
 |cons n ns ih=>rw[aD];unfold lq;rw[ih];rfl
noncomputable def uN:M2:=λp ps G Q=>match p,ps with
 | .str z,[.ref a]=>match lk G a with
  |some xs=>match lq xs with
   |some ys=>(ys.map (·.length)).sum+ys.length*z.length<=16000000/\Q (.str (kc z ys)) G
   |none=>False
  |none=>False
 |_,_=>False
theorem HU:zT X "str.join" (sH X.K uN):=by
 intro pins s σ H x xs v us Q I rx rs h
 obtain⟨p,ps,G,Q2,d,ds,rp,h,cl⟩:=h
 unfold uN at h
 split at h
 ·rename_i z a
  split at h
  ·rename_i ws e
   split at h
   ·rename_i ys ey
    obtain rfl:x= .str z:=d
    obtain⟨w,rfl,dw⟩:=fQ ds
    obtain rfl:w= .ref a:=dw
    obtain⟨vs,sa,da⟩:=fN rp e
    obtain rfl:=tX ey da
    exact EC pins s σ H _ _ v us Q I rx rs ⟨z,a,ys,rfl,rfl,sa,aZ h.1 (by decide),cl _ _ _ _ h.2 rfl rp .refl⟩
   ·exact h.elim
  ·exact h.elim
 ·exact h.elim
end
noncomputable abbrev O2:=jc->Gp->(Option Int->Gp->Prop)->Prop
noncomputable def Np(K:PySem.W.Frag)(t:O2):TO:=λσ H Q=>∃τ G Q2,RSt K H σ τ/\Rep K H G/\t τ G Q2/\∀o G' H',Q2 o G'->Rep K H' G'->Keep K H H'->Q o H'
structure JO(X:Cx)(e:Option Expr)(t:O2):Prop where
 h:PO X e (Np X.K t)
noncomputable abbrev oNo:O2:=λ_ G Q=>Q none G
noncomputable abbrev KM(t:E2):O2:=λτ G Q=>t τ G λx G1=>match x with
 | .int i=>Q (some i) G1
 |_=>False
noncomputable def sY(xs:List PV)(lo hi:Option Int):List PV:=(xs.drop (HT.sIx xs.length 0 lo)).take (HT.sIx xs.length xs.length hi-HT.sIx xs.length 0 lo)
noncomputable def Dd:PV->Option Int->Option Int->Gp->K2->Prop:=λp lo hi G Q=>match p with
 | .tup xs=>¬(HT.sIx xs.length 0 lo=0/\HT.sIx xs.length xs.length hi=xs.length)/\Q (.tup (sY xs lo hi)) G
 | .ref a=>match lk G a with
  |some xs=>∀c,G c=none->Q (.ref c) (up G c (.lst (sY xs lo hi)))
  |none=>False
 | .str z=>z.length<=16000000/\Q (.str (fD z lo hi)) G
 |_=>False
noncomputable def Gb(K:PySem.W.Frag)(r:PV->Option Int->Option Int->Gp->K2->Prop):V->Option Int->Option Int->Hp->VK->Prop:=λx lo hi H Q=>∃p G Q2,Dv K H p x/\Rep K H G/\r p lo hi G Q2/\Cl K H Q2 Q
noncomputable abbrev eSl(te:E2)(tl th:O2):E2:=λτ G Q=>te τ G λx G1=>tl τ G1 λl G2=>th τ G2 λu G3=>Dd x l u G3 Q
section
variable{X:Cx}{e:Expr}{te:E2}{lo hi:Option Expr}{tl th:O2}{pos p2:Pos}
theorem EO:JO X none oNo:=⟨λpins s σ H Q I ⟨τ,G,Q2,rs,rp,q,cl⟩=>DW pins s σ H Q I (cl _ _ _ q rp .refl)⟩
theorem EN(h:JE X e te):JO X (some e) (KM te):=⟨λpins s σ H Q I ⟨τ,G,Q2,rs,rp,q,cl⟩=>DV h.h pins s σ H Q I ⟨τ,G,_,rs,rp,q,λp G1 v H1 q1 d1 r1 k1=>by
 cases p with
 |int i=>
  obtain rfl:v= .int i:=d1
  exact⟨i,rfl,cl _ _ _ q1 r1 k1⟩
 |_=>exact bG q1⟩⟩
theorem Gn{K:PySem.W.Frag}{H:Hp}{ps:List PV}{vs:List V}(d:Dvs K H ps vs)(lo hi:Option Int):Dvs K H (sY ps lo hi) (sX vs lo hi):=by
 unfold sY sX
 rw[d.length]
 exact(d.drop _).take _
theorem AK:Jr X (Gb X.K Dd):=by
 intro pins s σ H x v vl vu lo hi sl Q I rx hs pl pu h
 obtain⟨p,G,Q2,d,rp,h,cl⟩:=h
 unfold Dd at h
 split at h
 ·rename_i xs
  obtain⟨a,vs,rfl,sa,da⟩:=d
  refine GL pins s σ H _ v vl vu lo hi sl Q I rx hs pl pu ⟨a,vs,rfl,sa,by rw[da.length];exact h.1,λc hc=> ?_⟩
  have kn:Keep X.K H (upd H c (.tup (sX vs lo hi))):=bK hc
  exact cl _ _ _ _ h.2 ⟨c,_,rfl,.of cb,(Gn da lo hi).keep kn⟩ (rp.tup hc) kn
 ·rename_i a
  split at h
  ·rename_i xs e
   obtain rfl:x= .ref a:=d
   obtain⟨vs,sa,da⟩:=fN rp e
   exact Dz pins s σ H _ v vl vu lo hi sl Q I rx hs pl pu ⟨a,vs,rfl,sa,λc hc=>cl _ _ _ _ (h c (rp.none hc)) rfl (rp.new hc (Gn da lo hi)) (bK hc)⟩
  ·exact h.elim
 ·rename_i z
  obtain rfl:x= .str z:=d
  exact GM pins s σ H _ v vl vu lo hi sl Q I rx hs pl pu ⟨z,rfl,big h.1,cl _ _ _ _ h.2 rfl rp .refl⟩
 ·exact h.elim
theorem E3(he:JE X e te)(hl:JO X lo tl)(hu:JO X hi th):JE X (.Subscript e (.Slice lo hi none p2) pos) (eSl te tl th):= .of (uw AK he.h hl.h hu.h) λσ H Q hPl=>by
 obtain⟨τ,G,Q2,rs,rp,q,cl⟩:=hPl
 refine⟨τ,G,_,rs,rp,q,λp G1 v H1 q1 d1 r1 k1=>⟨τ,G1,_,rs.keep k1,r1,q1,λl G2 H2 q2 r2 k2=>⟨τ,G2,_,rs.keep (k1.trans k2),r2,q2,λu G3 H3 q3 r3 k3=> ?_⟩⟩⟩
 exact⟨p,G3,Q2,d1.keep (k2.trans k3),r3,q3,cl.keep ((k1.trans k2).trans k3)⟩
end
theorem yZ(its:Array ae):slicePick its none none (some (-1))=its.toList.reverse.toArray:=by
 rw[<-HT.pick_rev its]
 unfold slicePick
 show(List.filterMap (λx=>its[x]?) (sliceRange ((its.size:Int)-1) (-1) (-1))).toArray=_
 have e:sliceRange ((its.size:Int)-1) (-1) (-1)=(dC its.size).map fun(k:Nat)=>((its.size:Int)-1+(-1)*(k:Int)).toNat:=by
  unfold sliceRange
  have c:(if(-1:Int)>0 then(if((its.size:Int)-1)< -1 then(-1-((its.size:Int)-1)+ -1-1)/ -1 else 0)else(if((its.size:Int)-1)> -1 then(((its.size:Int)-1)- -1- -1-1)/(-(-1))else 0)).toNat=its.size:=by
   rw[if_neg (by decide),show(-(-1:Int))=1 from rfl,Int.ediv_one]
   split<;>ac_nf
  simp only[c]
 rw[e,List.filterMap_map]
 have f:((λx=>its[x]?)∘fun(k:Nat)=>((its.size:Int)-1+(-1)*(k:Int)).toNat)=fun(m:Nat)=>its[((its.size:Int)-1+(m:Int)*(-1)).toNat]? :=by
  funext m
  show its[((its.size:Int)-1+(-1)*(m:Int)).toNat]? =_
  rw[Int.mul_comm]
 rw[f]
noncomputable abbrev NH(te:E2):E2:=λτ G Q=>te τ G λx G1=>match x with
 | .tup xs=>Q (.tup xs.reverse) G1
 | .ref a=>match lk G1 a with
  |some xs=>∀c,G1 c=none->Q (.ref c) (up G1 c (.lst xs.reverse))
  |none=>False
 |_=>False
section
variable{X:Cx}
theorem Lg{e:Expr}{te:E2}{k:Nat}{p1 p2 p3 pos:Pos}(he:JE X e te):JE X (.Subscript e (.Slice none none (some (.UnaryOp .USub (.Constant (.int 1) k p1) p3)) p2) pos) (NH te):=⟨by
 intro pins s σ H Q I h
 obtain⟨τ,G,Q2,rs,rp,h,cl⟩:=h
 refine PyProof.Rows.Subscript_ (eB (he.h pins s σ H (λv H1=>∃p G1,Dv X.K H1 p v/\Rep X.K H1 G1/\Keep X.K H H1/\(match p with
  | .tup xs=>Q2 (.tup xs.reverse) G1
  | .ref a=>match lk G1 a with
   |some xs=>∀c,G1 c=none->Q2 (.ref c) (up G1 c (.lst xs.reverse))
   |none=>False
  |_=>False)) I ⟨τ,G,_,rs,rp,h,λp G1 v H1 q d r k=>⟨p,G1,d,r,k,q⟩⟩) λv s1 ⟨x,H1,I1,r1,q,G1,d1,rp1,k1,q1⟩=> ?_)
 refine wpAny_Slice ?_
 rw[evalPart_none]
 refine am (am ?_)
 have hm:PE X (.UnaryOp .USub (.Constant (.int 1) k p1) p3) (tUn (rU λi=> .int (-i)) (tC (.int 1))):=FY Ai A7
 refine eB (hm pins s1 σ H1 (λv H'=>v= .int (-1)/\H'=H1) I1 ⟨1,rfl,rfl,rfl⟩) λst s3 hPl=> ?_
 obtain⟨v3,H3,I3,r3,e3,eh⟩:=hPl
 subst e3 eh
 obtain⟨tk,rfl⟩:=r3
 have I4:=I3.kept (t':=s3.toks) (h':=s3.heap.push {cls:= .type "slice",data:= .fields #[.none,.none,.int (-1) tk]}) λb ob q=>ai _ q
 have hfr:=I4.hok.fresh (aq _)
 cases q with
 |tup ps=>
  obtain⟨a,xs,rfl,hq,da⟩:=d1
  cases r1
  obtain⟨its,rv,pl,hz⟩:=I4.tuple hq
  have hl:=rv.length
  refine PyProof.Rows.tail_any (ops:=[.ref a,.ref s3.heap.objs.size]) pl.typeIs bf.lookup ?_ (by with_unfolding_all rfl)
  refine HT.getItem_tuple_rev pl (jK ..) ?_ (by rw[ap]<;>ac_nf)
  have kn:=bK (K:=X.K) (o:= .tup xs.reverse) hfr
  refine⟨.ref _,_,I4.laid (t':=s3.toks) (o:= .tup xs.reverse) (λb ob q=>ai _ q) (aq _) ?_,rfl,cl _ _ _ _ q1 ⟨_,_,rfl,.of cb,da.reverse.keep kn⟩ (rp1.tup hfr) (k1.trans kn)⟩
  exact⟨by rw[cf];exact hz,its.reverse,rv.reverse,⟨_,aH _ rfl,rfl,0,by simp⟩⟩
 |ref a=>
  dsimp only at q1
  split at q1
  ·rename_i ps e
   obtain rfl:x= .ref a:=d1
   cases r1
   obtain⟨xs,hq,da⟩:=fN rp1 e
   obtain⟨its,rv,pl,hz⟩:=I4.list hq
   have hl:=rv.length
   refine PyProof.Rows.tail_any (ops:=[.ref a,.ref s3.heap.objs.size]) pl.isList.typeIs ss.lookup ?_ (by with_unfolding_all rfl)
   refine Ag pl.isList (jK ..) .none .none (.int (-1) tk) (by simp) ?_ (by rw[ap]<;>ac_nf)
   rw[yZ]
   refine⟨.ref _,_,I4.laid (t':=s3.toks) (o:= .lst xs.reverse) (λb ob q=>ai _ q) (aq _) ?_,rfl,cl _ _ _ _ (q1 _ (rp1.none hfr)) rfl (rp1.new hfr da.reverse) (k1.trans (bK hfr))⟩
   exact⟨by rw[cf];exact hz,its.reverse,0,rv.reverse,by rw[aH _ rfl]⟩
  ·exact q1.elim
 |_=>exact bG q1⟩
end
noncomputable def tyN(p:PV)(G:Gp):Option String:=match p with
 | .non=>some "NoneType"
 | .bl _=>some "bool"
 | .int _=>some "int"
 | .str _=>some "str"
 | .tup _=>some "tuple"
 | .ref a=>match G a with
  |some (.lst _)=>some "list"
  |some (.dK _)=>some "dict"
  |_=>none
 |_=>none
noncomputable def NA(ty T:String):Bool:=ty==T||(ty== "bool" &&T== "int")
noncomputable abbrev tys:List String:=["NoneType", "bool", "int", "str", "tuple", "list", "dict"]
noncomputable abbrev Tys:List String:=["bool", "int", "str", "tuple", "list"]
theorem lw{K:PySem.W.Frag}{ty T:String}(h1:ty∈tys)(h2:T∈Tys):PySem.W.kitOne K (.type ty) (.type T)=some (NA ty T):=by
 simp only[aA,aP,or_false]at h1 h2
 rcases h1 with rfl|rfl|rfl|rfl|rfl|rfl|rfl<;>rcases h2 with rfl|rfl|rfl|rfl|rfl<;>kernel_rfl
noncomputable def Cb:C2:=λps G Q=>match ps with
 |[p,.ty T]=>match tyN p G with
  |some ty=>T∈Tys/\Q (.bl (NA ty T)) G
  |none=>False
 |_=>False
section
variable{X:Cx}
theorem Jl:gE X (.builtin "isinstance") (pN X.K Cb):=by
 intro pins s σ H xs us Q I rs h
 obtain⟨ps,G,Q2,d,rp,h,cl⟩:=h
 unfold Cb at h
 split at h
 ·rename_i p T
  split at h
  ·rename_i ty e
   obtain⟨hT,hq⟩:=h
   obtain⟨v,w,rfl,dv,dw⟩:=rW d
   obtain rfl:w= .ty T:=dw
   cases rs with
   |cons r1 rs=>
    obtain⟨u,rfl,ru⟩:=Vals.one rs
    cases ru
    have fin:∀tk,EP X pins σ Q (.bool (NA ty T)) {s with toks:=tk}:=λtk=>⟨.bl _,H,I.tok tk,rfl,cl _ _ _ _ hq rfl rp .refl⟩
    unfold tyN at e
    split at e
    ·cases e;obtain rfl:v= .non:=dv;cases r1;exact PySem.W.kia_one PySem.W.kitx_none I.kIn ck (lw (by decide) hT) (λz=>nomatch z) fin
    ·cases e;rename_i b;obtain rfl:v= .bl b:=dv;cases r1;exact PySem.W.kia_one PySem.W.kitx_bool I.kIn ck (lw (by decide) hT) (λz=>nomatch z) fin
    ·cases e;rename_i b;obtain rfl:v= .int b:=dv;obtain⟨t,rfl⟩:=r1;exact PySem.W.kia_one PySem.W.kitx_int I.kIn ck (lw (by decide) hT) (λz=>nomatch z) fin
    ·cases e;rename_i b;obtain rfl:v= .str b:=dv;obtain⟨t,rfl⟩:=r1;exact PySem.W.kia_one PySem.W.kitx_str I.kIn ck (lw (by decide) hT) (λz=>nomatch z) fin
    ·cases e
     obtain⟨a,vs,rfl,sq,_⟩:=dv
     cases r1
     obtain⟨its,_,pl,_⟩:=I.tuple sq
     obtain⟨o,h1,h2,_⟩:=pl
     exact PySem.W.kia_one PySem.W.kitx_tuple I.kIn ⟨o,h1,h2⟩ (lw (by decide) hT) (λz=>nomatch z) fin
    ·rename_i a
     split at e
     ·cases e
      rename_i qs eg
      obtain rfl:v= .ref a:=dv
      cases r1
      obtain⟨vs,hv,_⟩:=rp.lst eg
      obtain⟨_,_,n,_,h1⟩:=(show ObjOk X.prog X.w H s.heap a (.lst vs)from I.hok a _ hv)
      exact PySem.W.kia_one PySem.W.kitx_list I.kIn ⟨_,h1,rfl⟩ (lw (by decide) hT) (λz=>nomatch z) fin
     ·cases e
      rename_i qs eg
      obtain rfl:v= .ref a:=dv
      obtain⟨vs,hv,_⟩:=rp a _ eg
      exact zD I r1 (.dK hv) (lw (by decide) hT) fin
     ·cases e
    ·cases e
  ·exact h.elim
 ·exact h.elim
end
end L3
namespace PySem.SeqAt
open AutoSeq1 (wpAny_loadPart')
open MeetsSeq MeetsSeq2 MeetsSeq3 SeqRoads2
open Builtin Builtin.Range
end PySem.SeqAt
namespace L3
open PySem L2
section
end
noncomputable def Itd(lo:Int)(n:Nat):It:=⟨λi _=>i<n,λi H x H'=>H'=H/\x= .int (lo-i),λi _=>n<=i⟩
noncomputable def i4(lo:Int)(n:Nat):List PV:=(dC n).map fun(i:Nat)=> .int (lo-i)
theorem Fa{K:PySem.W.Frag}{H1:Hp}(lo:Int)(n:Nat):vj K H1 (Itd lo n) (i4 lo n) (λ_=>True):=λi H G k r _=>by
 have hl:(i4 lo n).length=n:=by unfold i4;simp
 refine⟨λhi=> ?_,λhi=> ?_,λx H' hi y=> ?_⟩
 ·show i<n
  ac_nf
 ·show n<=i
  ac_nf
 ·obtain⟨rfl,rfl⟩:=y
  refine⟨.int (lo-i),?_,.refl,r,rfl⟩
  unfold i4
  rw[aI,eQ (by ac_nf)]
  rfl
theorem yR{P:aF}{w:aS}{K:PySem.W.Frag}{tg:Expr}(it:Addr)(lo:Int)(n:Nat):qG P w K tg (Itd lo n) [it] it (λi h=>IsRangeIter h it (lo+(i:Nat)*(-1)) ((n:Int)-(i:Nat)) (-1)) where
 mem:=by simp
 obj:=λi h st b hb=>by
  have e:b=it:=by simpa using hb
  subst e
  exact⟨_,st,λv z=>by
   have z':cZ _=Data.cell v:=z
   cases z'⟩
 keep:=λi h h' st k=>k it (by simp) _ st
 item:=by
  intro X hP hw hK hc i pins s σ H E I hf st hg
  subst hP hw hK
  obtain⟨f0,f1,f2,f3,f4,f5⟩:=hf it (by simp)
  have W:=Walks.range (prog:=X.prog) (w:=X.w) (I.ok.hd hc) it lo (-1) n
  refine W.item i s _ _ hg st λv h' tk hv st' kk=> ?_
  obtain⟨t,rfl⟩:=hv
  have I1:Inv X pins σ H {s with heap:=h',toks:=tk}:=I.turned (λb o hb e=>kk b o (by simpa using hb) e) f0 f1 f3 f4 f5
  refine⟨_,rfl,uU (s:={s with heap:=h',toks:=tk}) (n:= "range_iterator") st' rfl rfl (by decide) ⟨.int (lo-i),H,I1,⟨t,?_⟩,⟨rfl,rfl⟩,st',λb hb=>(hf b hb).1⟩⟩
  rw[show lo+(i:Int)*(-1)=lo-i by ac_nf]
 done:=by
  intro X hP hw hK hc i pins s σ H E I hf st hg
  subst hP hw hK
  obtain⟨f0,f1,f2,f3,f4,f5⟩:=hf it (by simp)
  exact wpAny_pyNext_range_end (I.ok.hd hc) st (by have:n<=i:=hg;ac_nf) λh' eb=>⟨rfl,I.turned (t':=s.toks) (λb o hb e=>eb b o hb e) f0 f1 f3 f4 f5⟩
 self:=λ_ _ _ _ _ st h=>wpAny_pyIter_rangeiter st h
theorem jT(a b:Int):fM a b (-1)=(((a-b).toNat:Nat):Int):=by
 unfold fM
 rw[if_neg (by decide),show(-(-1:Int))=1 from rfl,Int.ediv_one]
 split<;>ac_nf
theorem vU{a b:Int}(ha: -(2^62)<=a)(ha':a<2^62)(hb: -(2^62)<=b)(hb':b<2^62):bH.Range.small a b (-1)=true:=by
 unfold bH.Range.small
 rw[jT]
 simp only[bH.Range.rangeFitsLong,av,Bool.or_eq_true,decide_eq_true_eq,beq_iff_eq,show¬((-1:Int)>0)by decide,if_false]
 ac_nf
noncomputable abbrev itD(t:A2):rL:=λτ G R=>t τ G λps G1=>match ps with
 |[.int a,.int b,.int c]=>c= -1/\(-(2^62)<=a/\a<2^62/\-(2^62)<=b/\b<2^62)/\R (i4 a (a-b).toNat) (λ_=>True) G1
 |_=>False
section
variable{X:Cx}{tg a b c:Expr}{ta:A2}{p pos:Pos}
theorem zA(hm:X.mg "range" =none)(ha:JA X [a,b,c] ta)(hg:Gl X "range" :=by rfl)(hs:al [a,b,c] X.env=(false,eval a X.env)::al [b,c] X.env:=by rfl)(hs2:(bC pos (al [b,c] X.env)).any (·.1)=false:=by rfl):
  JI X tg (.Call (.Name "range" p) [a,b,c] [] pos) (itD ta):=⟨by
 intro pins s σ H R I h
 obtain⟨τ,G,R2,rs,rp,h,cl⟩:=h
 refine PyProof.Rows.Call_ (nz I hg hm PyProof.Rows.boot_range (eX (eB (ha.h pos pins s σ H (λvs H1=>∃ps G1,Dvs X.K H1 ps vs/\Rep X.K H1 G1/\Keep X.K H H1/\(match ps with
  |[.int a,.int b,.int c]=>c= -1/\(-(2^62)<=a/\a<2^62/\-(2^62)<=b/\b<2^62)/\R2 (i4 a (a-b).toNat) (λ_=>True) G1
  |_=>False)) I ⟨τ,G,_,rs,rp,h,λps G1 vs H1 q d r k=>⟨ps,G1,d,r,k,q⟩⟩) λus s1 ⟨vs,H1,I1,r1,ps,G1,d1,rp1,k1,q1⟩=> ?_) hs hs2))
 split at q1
 ·rename_i a b c
  obtain⟨rfl,⟨b1,b2,b3,b4⟩,q⟩:=q1
  obtain⟨v1,z,rfl,e1,d1⟩:=d1
  obtain⟨v2,v3,rfl,e2,e3⟩:=rW d1
  obtain rfl:v1= .int a:=e1
  obtain rfl:v2= .int b:=e2
  obtain rfl:v3= .int (-1):=e3
  cases r1 with
  |cons r1 r2=>
   cases r2 with
   |cons r2 r3=>
    cases r3 with
    |cons r3 r4=>
     cases r4
     obtain⟨t1,rfl⟩:=r1
     obtain⟨t2,rfl⟩:=r2
     obtain⟨t3,rfl⟩:=r3
     refine call_range_3 (by decide) ?_ (.inl (PyProof.noPylong_small (by decide)))
     refine wpAny_pyIter_range (IsRange.new ..) (vU b1 b2 b3 b4) ?_
     have I2:Inv X pins σ H1 {s1 with heap:=s1.heap.push {cls:= .type "range",data:= .fields #[.int a t1,.int b t2,.int (-1) t3]},toks:=s1.toks}:=I1.kept λb o e=>ai _ e
     refine⟨(s1.heap.push {cls:= .type "range",data:= .fields #[.int a t1,.int b t2,.int (-1) t3]}).objs.size,[(s1.heap.push {cls:= .type "range",data:= .fields #[.int a t1,.int b t2,.int (-1) t3]}).objs.size],_,_,H1,rfl,
      I2.kept (t':=s1.toks) λb o e=>ai _ e,yR _ a (a-b).toNat,?_,λad hb=> ?_,cl _ _ _ _ _ q rp1 k1 (Fa _ _)⟩
     ·have e1:a+((0:Nat):Int)*(-1)=a:=by simp
      show IsRangeIter _ _ (a+((0:Nat):Int)*(-1)) ((((a-b).toNat:Nat):Int)-((0:Nat):Int)) (-1)
      rw[e1,show(((a-b).toNat:Nat):Int)-((0:Nat):Int)=fM a b (-1)by rw[jT];simp]
      exact aH _ rfl
     ·rw[aC.mp hb]
      exact I2.fpOk (aq _) (I2.hok.fresh (aq _))
 ·exact q1.elim⟩
end
noncomputable abbrev No:U2:=λp G Q=>match p with
 | .int i=>Q (.int (-i)) G
 |_=>False
theorem JQ{X:Cx}:L7 X (unaryOp .USub) (KU X.K No):=by
 intro pins s σ H x v Q I rx h
 obtain⟨p,G,Q2,d,rp,h,cl⟩:=h
 cases p with
 |int i=>
  obtain rfl:x= .int i:=d
  exact Ai pins s σ H _ v Q I rx ⟨i,rfl,cl _ _ _ _ h rfl rp .refl⟩
 |_=>exact bG h
noncomputable abbrev Ge:B2:=IY λi j=> .int (i+j)
theorem pG{X:Cx}:JJ X .Add (fL X.K Ge):=by
 intro pins s σ H x y v u Q I rx ry h
 obtain⟨p,q,G,Q2,d1,d2,rp,h,cl⟩:=h
 unfold Ge IY at h
 split at h
 ·rename_i i j
  obtain rfl:x= .int i:=d1
  obtain rfl:y= .int j:=d2
  exact IU pins s σ H _ _ v u Q I rx ry ⟨i,j,rfl,rfl,cl _ _ _ _ h rfl rp .refl⟩
 ·exact h.elim
noncomputable def E7:B2:=λp q G Q=>match p,q with
 | .ref a,.int i=>match lk G a with
  |some ps=>match mW ps i with
   |some x=>Q x G
   |none=>False
  |none=>False
 |_,_=>False
theorem Lx{X:Cx}:Js X (fL X.K E7):=by
 intro pins s σ H o i ov iv Q I r1 r2 h
 obtain⟨p,q,G,Q2,d1,d2,rp,h,cl⟩:=h
 unfold E7 at h
 split at h
 ·rename_i a k
  split at h
  ·rename_i ps e0
   split at h
   ·rename_i z e
    obtain rfl:o= .ref a:=d1
    obtain rfl:i= .int k:=d2
    obtain⟨vs,sa,da⟩:=fN rp e0
    obtain⟨w,ew,dw⟩:=CV da e
    cases r1
    obtain⟨t,rfl⟩:=r2
    obtain⟨its,r,pl,hz⟩:=I.list sa
    obtain⟨j,h1,h2,h3,h4,h5⟩:=oY ew
    obtain⟨u,eu,ru⟩:=r.get h2
    have hl:=r.length
    have hn:=lu
    have fin:EP X pins σ Q u s:=⟨w,H,I,ru,cl _ _ _ _ h dw rp .refl⟩
    by_cases h0:0<=k
    ·have hj:k.toNat=j:=by
      rw[PySem.seqIndex_of h0 h5]at h1
      exact a8 h1
     exact wpAny_getItem_list pl.isList h0 (by ac_nf) (by rw[hj];simpa using eu) fin
    ·have hj:(k+(its.toArray.size:Int)).toNat=j:=by
      rw[PySem.seqIndex_neg (by ac_nf) h4]at h1
      rw[ap,<-hl]
      exact a8 h1
     exact wpAny_getItem_list_neg pl.isList (by ac_nf) (by rw[ap];ac_nf) (by ac_nf) (by rw[hj];simpa using eu) fin
   ·exact h.elim
  ·exact h.elim
 ·exact h.elim
theorem HQ{M:Model}{A:Around}{E:ae->af->Prop}{s:af}{T:String}{vs:List ae}{Q:ae->af->Prop}(h:Q (.ref s.heap.objs.size) {s with heap:=s.heap.push {cls:= .type T,dict:=none,data:= .fields vs.toArray}})(hs:sizeOk (.fields vs.toArray)):
  wpAny M A (bH.SmallTypes.newRecord (.type T) vs) Q E s:=by
 show wpAny M A (newObj (.type T) (.fields vs.toArray)) Q E s
 exact bE h hs
theorem nd5(n:Nat):[n+4,n+2,n+3,n,n+1].Nodup:=by
 simp only[bp,aA,aP,or_false,not_or,not_false_eq_true,List.nodup_nil,and_true]
 ac_nf
end L3
namespace L2
open PySem PySem.Spec PyProof.Rows
noncomputable abbrev FF(x y:Str)(px py:Pos)(kt:Nat)(pt:Pos):Expr:= .Tuple [.Name x px,.Name y py] kt pt
structure o4(scope:e8)(M:List Str)(ix:List (Option Nat))(j2:Nat)(y:Str):Prop where
 tgt:M[j2]? =some y
 loc:scope.names.lookup y=some .local
 own:ix[j2]? =some none
theorem yV{c:St}{j j2:Nat}{v u:V}(h:c[j]? =some none)(h2:c[j2]? =some none):∀(i:Nat) (z:V),c[i]? =some (some z)->((c.set j (some v)).set j2 (some u))[i]? =some (some z):=λi z e=>by
 have n1:j≠i:=λq=>by subst q;rw[h]at e;cases e
 have n2:j2≠i:=λq=>by subst q;rw[h2]at e;cases e
 rw[bW n2,bW n1];exact e
noncomputable def yM(K:PySem.W.Frag)(J:It)(ix:List (Option Nat))(j j2:Nat)(σ:St)(tf:TT)(te:TE)(Q:VK)(H1:Hp)(acc:Addr):Prop:=∃W:Nat->Nat->Hp->Prop,(∃m,W 0 m (upd H1 acc (.lst [])))/\∀i m H',W i m H'->
 (J.stop i H'/\Q (.ref acc) H')\/(J.go i H'/\∀x H2,J.yld i H' x H2->∃a u1 u2,x= .ref a/\SqT K H2 a [u1,u2]/\tf (((ka ix σ).set j (some u1)).set j2 (some u2)) H2 λb H3=>
  if b=true then te (((ka ix σ).set j (some u1)).set j2 (some u2)) H3 λy H4=>∃ys,H4 acc=some (.lst ys)/\ys.length<aJ/\∃m',m'<m/\W (i+1) m' (upd H4 acc (.lst (ys++[y])))
  else∃m',m'<m/\W (i+1) m' H3)
noncomputable def Ao(K:PySem.W.Frag)(wi:TI)(ix:List (Option Nat))(j j2:Nat)(tf:TT)(te:TE):TE:=λσ H Q=>wi σ H λJ H1=>∀acc,H1 acc=none->yM K J ix j j2 σ tf te Q H1 acc
section
variable{X:Cx}{scope:e8}{M:List Str}{ix:List (Option Nat)}{j:Nat}{x:Str}
theorem vc{elt iter:Expr}{px py pt:Pos}{kt j2:Nat}{y:Str}{ifs:List Expr}{pos:Pos}{tf:TT}{te:TE}{pins:List (Addr×Obj)}{σ:St}{H:Hp}{s:af}{fp:List Addr}{it:Addr}{tn:Nat->Heap->Prop}{J:It}{h1:Heap}{tk:Nat}{Q:VK}{R:Result->af->Prop}
  (S:gK X.env.scope X.N scope M ix j x) (S2:o4 scope M ix j2 y) (hc:X.calm=true) (I:Inv X pins σ H s)
  (hF:PF (bO X M scope (s.heap.objs.size+1) s H fp) ifs tf) (hE:PE (bO X M scope (s.heap.objs.size+1) s H fp) elt te)
  (T:qG X.prog X.w X.K (FF x y px py kt pt) J fp it tn) (st:tn 0 s.heap) (hf:∀b∈fp,oA X pins H b)
  (I0:Inv (bO X M scope (s.heap.objs.size+1) s H fp) [] (ka ix σ) (upd H s.heap.objs.size (.lst [])) {s with heap:=h1,toks:=tk}) (old:∀b o,s.heap.get? b=some o->h1.get? b=some o)
  (q:yM X.K J ix j j2 σ tf te Q H s.heap.objs.size)
  (hR:∀H' s',Inv (bO X M scope (s.heap.objs.size+1) s H fp) [] (ka ix σ) H' s'->Q (.ref s.heap.objs.size) H'->R (.ok .next) s'):
  codeAny (aN X.prog X.w) X.A (.compLoop (.ListComp elt [⟨FF x y px py kt pt,iter,ifs,0⟩] scope pos) 0 (.ref it) (.ref s.heap.objs.size) (compEnvC scope (kH X.env.cells scope.names []) (s.heap.objs.size+1) X.env)) R {s with heap:=h1,toks:=tk}:=by
 obtain⟨W,⟨m0,w0⟩,turn⟩:=q
 have hD:s.heap.objs.size∉fp:=λz=>by
  obtain⟨o,e,_⟩:=T.obj 0 s.heap st _ z
  exact absurd (aw e) (cL _)
 have hlt:∀b∈fp,b<s.heap.objs.size:=λb hb=>by
  obtain⟨o,e,_⟩:=T.obj 0 s.heap st b hb
  exact aw e
 have stat:∀{H':Hp},(∀b∈fp,H' b=none)->∀b∈fp,oA (bO X M scope (s.heap.objs.size+1) s H fp) [] H' b:=λhn b hb=>
  ⟨hn b hb,aQ (eJ (hlt b hb)),I0.ok.exfs b hb,.inl hb,(I0.ok.exf b hb).2,λp hp=>absurd (show p∈([]:List (Addr×Obj))from hp) (by simp)⟩
 have own:=tj S.own σ
 have own2:=tj S2.own σ
 refine mF rfl (λn s'=>∃i H',Inv (bO X M scope (s.heap.objs.size+1) s H fp) [] (ka ix σ) H' s'/\tn i s'.heap/\(∀b∈fp,H' b=none)/\W i n H') ?_ m0
  ⟨0,_,I0,T.keep 0 _ _ st λb _ o e=>old b o e,λb hb=>by rw[bo (aQ (hlt b hb))];exact(hf b hb).1,w0⟩
 rintro n s3 ⟨i,H3,I3,st3,fr3,w3⟩
 rcases turn i n H3 w3 with⟨stop,qn⟩|⟨go,step⟩
 ·refine aW (T.done (bO X M scope (s.heap.objs.size+1) s H fp) rfl rfl rfl hc i [] s3 (ka ix σ) H3 (λ_ _=>False) I3 (stat fr3) st3 stop) (λr s4 hPl=> ?_) (λ_ _ z=>z.elim)
  obtain⟨hr,I4⟩:=hPl
  subst hr
  exact hR H3 s4 I4 qn
 ·refine aW (T.item (bO X M scope (s.heap.objs.size+1) s H fp) rfl rfl rfl hc i [] s3 (ka ix σ) H3 (λ_ _=>False) I3 (stat fr3) st3 go) (λr s4 hPl=> ?_) (λ_ _ z=>z.elim)
  obtain⟨u,hr,h4⟩:=hPl
  subst hr
  refine aW h4 (λ_ s5 hPl=> ?_) (λ_ _ z=>z.elim)
  obtain⟨yv,H5,I5,r5,y5,st5,fr5⟩:=hPl
  have I5':=I5.pinned (stat fr5) (T.obj _ _ st5)
  have pg:PG (bO X M scope (s.heap.objs.size+1) s H fp) (FF x y px py kt pt) (Ly X.K 2 (Cg (pZ j) (Cg (pZ j2) LA))):=
   Hi hc (uv (oR S.nd S.tgt (.inl (by show(relabel scope X.env).names.lookup x=some .local;exact eP S.loc)) (.inr (by show(relabel scope X.env).names.lookup x=some .local;exact eP S.loc)))
    (uv (oR S.nd S2.tgt (.inl (by show(relabel scope X.env).names.lookup y=some .local;exact eP S2.loc)) (.inr (by show(relabel scope X.env).names.lookup y=some .local;exact eP S2.loc))) D8))
  obtain⟨ta,u1,u2,et,sq,step⟩:=step yv _ y5
  refine aW (pg _ s5 (ka ix σ) H5 yv u (λσ2 H2=>σ2=((ka ix σ).set j (some u1)).set j2 (some u2)/\H2=H5) I5' r5 ⟨ta,[u1,u2],et,sq,rfl,u1,[u2],rfl,u2,[],rfl,rfl,rfl,rfl⟩) (λ_ s6 hPl=> ?_) (λ_ _ z=>z.elim)
  obtain⟨σ6,H6,I6,e6,eh6⟩:=hPl
  subst e6;subst eh6
  have again:∀{H7:Hp} {s7:af},Inv (bO X M scope (s.heap.objs.size+1) s H fp) ([]++nq fp s5.heap) (((ka ix σ).set j (some u1)).set j2 (some u2)) H7 s7->(∃m',m'<n/\W (i+1) m' H7)->
    ∃m,m<n/\∃i H',Inv (bO X M scope (s.heap.objs.size+1) s H fp) [] (ka ix σ) H' s7/\tn i s7.heap/\(∀b∈fp,H' b=none)/\W i m H':=fun{H7 s7} I7 ⟨m',hm,w7⟩=>by
   have Iw:Inv (bO X M scope (s.heap.objs.size+1) s H fp) [] (ka ix σ) H7 s7:=(Inv.unpinned (pins:=[]) I7).weak (by simp) (yV own own2)
   refine⟨m',hm,i+1,H7,Iw,T.keep _ _ _ st5 λb hb o e=>(I7.pin (b,o) (aT _ (aT _ (gI hb e)))).1,λb hb=> ?_,w7⟩
   obtain⟨o,e,d⟩:=T.obj _ _ st5 b hb
   exact(I7.pin (b,o) (aT _ (aT _ (gI hb e)))).2.1
  refine aW (hF _ s6 _ _ _ I6 step) (λb s7 hPl=> ?_) (λ_ _ z=>z.elim)
  obtain⟨H7,I7,q7⟩:=hPl
  cases b with
  |false=>
   simp only[oh,if_false]at q7⊢
   exact again I7 q7
  |true=>
   simp only[if_true]at q7⊢
   refine aW (hE _ s7 _ H7 _ I7 q7) (λv s8 hPl=> ?_) (λ_ _ z=>z.elim)
   obtain⟨z,H8,I8,r8,ys,hy,hz,q8⟩:=hPl
   refine aW (nv (X:=bO X M scope (s.heap.objs.size+1) s H fp) _ s8 _ H8 (.ref s.heap.objs.size) [z] (.ref s.heap.objs.size) [v] (λ_ H'=>H'=upd H8 s.heap.objs.size (.lst (ys++[z]))) I8 rfl (.cons r8 .nil) ⟨s.heap.objs.size,ys,z,rfl,rfl,hy,hz,rfl⟩) (λw s9 hPl=> ?_) (λ_ _ z=>z.elim)
   obtain⟨_,H9,I9,_,e9⟩:=hPl
   subst e9
   exact again I9 q8
theorem Bb{elt iter:Expr}{px py pt:Pos}{kt j2:Nat}{y:Str}{ifs:List Expr}{pos:Pos}{wi:TI}{tf:TT}{te:TE}(S:gK X.env.scope X.N scope M ix j x)(S2:o4 scope M ix j2 y)(hc:X.calm=true)(hi:PI X (FF x y px py kt pt) iter wi)
  (hb:∀C s H fp,PF (bO X M scope C s H fp) ifs tf/\PE (bO X M scope C s H fp) elt te) (hs:∀x,dI iter X.env x=pure x:=by intro _;rfl):
  PE X (.ListComp elt [⟨FF x y px py kt pt,iter,ifs,0⟩] scope pos) (Ao X.K wi ix j j2 tf te):=by
 intro pins s σ H Q I h
 rw[eval_ListComp]
 refine kD (use:=none) rfl hs (iQ λy hy e=>I.ok.has y.1 (S.free y hy e)) S.kind S.names (aW (hi pins s σ H _ I h) (λxv s₁ h₁=>aW h₁ (λit s₂ h₂=> ?_) λ_ _ e=>e) λ_ _ e=>e)
 obtain⟨it,fp,tn,J,H2,rfl,I2,T,st2,f2,q⟩:=h₂
 refine bE (oo S.nocell (by intro y hy;simp at hy) (λh₁ hns₁ hsb₁=> ?_) S.kind)
 dsimp only at hns₁ hsb₁⊢
 have hC:(s₂.heap.push {cls:= .type "list",dict:=none,data:= .seq ([]:List ae).toArray}).objs.size=s₂.heap.objs.size+1:=cQ ..
 rw[hC]at hns₁ hsb₁⊢
 have below:∀b,b<s₂.heap.objs.size->b≠s₂.heap.objs.size+1:=λb hb=>aQ (eJ hb)
 have old:∀b o,s₂.heap.get? b=some o->h₁.get? b=some o:=λb o e=>hsb₁.extBut b o (below b (aw e)) (ai _ (ai _ e))
 have hD:h₁.get? s₂.heap.objs.size=some {cls:= .type "list",data:= .seq ([]:List ae).toArray 0}:=hsb₁.extBut _ _ (aQ (fZ _)) (ai _ (aH _ rfl))
 have ns:h₁.Ns (s₂.heap.objs.size+1) λ_=>none:=hns₁
 have hft:∀b∈fp,b<s₂.heap.objs.size:=λb hb=>by
  obtain⟨o,e,_⟩:=T.obj 0 s₂.heap st2 b hb
  exact aw e
 have I0:=(lA (h1:=h₁) S I2 f2 hft old hD ns).tok s₂.toks
 have hfr:H2 s₂.heap.objs.size=none:=I2.hok.fresh (aq _)
 have loop:codeAny (aN X.prog X.w) X.A (.compLoop (.ListComp elt [⟨FF x y px py kt pt,iter,ifs,0⟩] scope pos) 0 (.ref it) (.ref s₂.heap.objs.size) (compEnvC scope (kH X.env.cells scope.names []) (s₂.heap.objs.size+1) X.env))
   (compPost (aN X.prog X.w) X.A X.xe none (EP X pins σ Q) (.ref s₂.heap.objs.size) (s₂.heap.objs.size+1)) {s₂ with heap:=h₁,toks:=s₂.toks}:=by
  refine vc (Q:=Q) S S2 hc I2 (hb _ _ _ _).1 (hb _ _ _ _).2 T st2 f2 I0 old (q _ hfr) λH' s' I' qq=> ?_
  obtain⟨m,hn,_⟩:=I'.loc
  exact⟨m,hn,λh' hb'=>⟨.ref s₂.heap.objs.size,H',qf I2 (fP _) f2 I' hb',rfl,qq⟩⟩
 exact mH loop (T.self _ 0 _ _ _ (T.keep 0 _ _ st2 λb _ o e=>old b o e) loop)
end
end L2
namespace L3
open PySem L2
theorem en{k:Nat}{A:Around}(r:Room k A):A.units+200<fS:=by have:=r.un;ac_nf
theorem iW{α:Type}{P Q:α->Prop}{t:α}(a:P t)(b:Q t):∃t,P t/\Q t:=⟨t,a,b⟩
theorem oa:cj "isinstance" =some (.builtin "isinstance"):=by decide+kernel
theorem CH:cj "int" =some (.type "int"):=by decide+kernel
theorem wN:cj "tuple" =some (.type "tuple"):=by decide+kernel
theorem zR:cj "list" =some (.type "list"):=by decide+kernel
theorem CG:cj "max" =some (.builtin "max"):=by decide+kernel
theorem Cz:cj "sum" =some (.builtin "sum"):=by decide+kernel
noncomputable def CJ:List Str:=["isinstance", "int", "bool", "str", "tuple", "list", "range", "all", "any", "max", "sum", "sorted", "len", "enumerate", "min", "zip", "set", "dict"]
noncomputable def BN(mg:Str->Option ae):Prop:=∀x:Str,CJ.contains x=true->mg x=none
theorem BN.len{mg:Str->Option ae}(h:BN mg):mg "len" =none:=h _ (by decide+kernel)
theorem BN.isinstance{mg:Str->Option ae}(h:BN mg):mg "isinstance" =none:=h _ (by decide+kernel)
theorem BN.int{mg:Str->Option ae}(h:BN mg):mg "int" =none:=h _ (by decide+kernel)
theorem BN.tuple{mg:Str->Option ae}(h:BN mg):mg "tuple" =none:=h _ (by decide+kernel)
theorem BN.list{mg:Str->Option ae}(h:BN mg):mg "list" =none:=h _ (by decide+kernel)
theorem BN.range{mg:Str->Option ae}(h:BN mg):mg "range" =none:=h _ (by decide+kernel)
theorem BN.max{mg:Str->Option ae}(h:BN mg):mg "max" =none:=h _ (by decide+kernel)
theorem BN.sum{mg:Str->Option ae}(h:BN mg):mg "sum" =none:=h _ (by decide+kernel)
section
variable{X:Cx}{e:Expr}{es:List Expr}{t:A2}{p pos:Pos}
theorem Io(B:BN X.mg)(ha:JA X (e::es) t)(hg:Gl X "len" :=by rfl)(he:al (e::es) X.env=(false,eval e X.env)::al es X.env:=by rfl)(hpl:(bC pos (al es X.env)).any (·.1)=false:=by rfl):JE X (.Call (.Name "len" p) (e::es) [] pos) (zX lv t):=mv LU B.len PySem.boot_len ha hg (by decide) (by decide) he hpl
theorem EU(B:BN X.mg)(ha:JA X (e::es) t)(hg:Gl X "isinstance" :=by rfl)(he:al (e::es) X.env=(false,eval e X.env)::al es X.env:=by rfl)(hpl:(bC pos (al es X.env)).any (·.1)=false:=by rfl):JE X (.Call (.Name "isinstance" p) (e::es) [] pos) (zX Cb t):=mv Jl B.isinstance oa ha hg (by decide) (by decide) he hpl
theorem Im(B:BN X.mg)(hc:X.calm=true)(ha:JA X (e::es) t)(hg:Gl X "max" :=by rfl)(he:al (e::es) X.env=(false,eval e X.env)::al es X.env:=by rfl)(hpl:(bC pos (al es X.env)).any (·.1)=false:=by rfl):JE X (.Call (.Name "max" p) (e::es) [] pos) (zX BI t):=mv (Jj hc) B.max CG ha hg (by decide) (by decide) he hpl
theorem Il(B:BN X.mg)(hc:X.calm=true)(ha:JA X (e::es) t)(hg:Gl X "sum" :=by rfl)(he:al (e::es) X.env=(false,eval e X.env)::al es X.env:=by rfl)(hpl:(bC pos (al es X.env)).any (·.1)=false:=by rfl):JE X (.Call (.Name "sum" p) (e::es) [] pos) (zX Au t):=mv (LS hc) B.sum Cz ha hg (by decide) (by decide) he hpl
theorem BZ(B:BN X.mg)(ha:JA X (e::es) t)(hg:Gl X "tuple" :=by rfl)(he:al (e::es) X.env=(false,eval e X.env)::al es X.env:=by rfl)(hpl:(bC pos (al es X.env)).any (·.1)=false:=by rfl):JE X (.Call (.Name "tuple" p) (e::es) [] pos) (zX pd t):=pT Fs B.tuple wN ha hg (by decide) (by decide) he hpl
end
section
variable{X:Cx}{a b:Expr}{ta tb:E2}{pos:Pos}
theorem Iy(ha:JE X a ta)(hb:JE X b tb):JE X (.BinOp a .Add b pos) (mz Da ta tb):=qD F0 ha hb
theorem Ip(ha:JE X a ta)(hb:JE X b tb):JE X (.BinOp a .Sub b pos) (mz Kd ta tb):=qD KB ha hb
theorem Iv(ha:JE X a ta)(hb:JE X b tb):JE X (.BinOp a .Mult b pos) (mz EB ta tb):=qD KG ha hb
theorem Ix(ha:JE X a ta)(hb:JE X b tb):JE X (.BinOp a .Mod b pos) (mz KR ta tb):=qD KH ha hb
theorem EW(ha:JE X a ta)(hb:JE X b tb):JE X (.BinOp a .FloorDiv b pos) (mz Gg ta tb):=qD HN ha hb
theorem Iq(ha:JE X a ta)(hb:JE X b tb):JE X (.BinOp a .Pow b pos) (mz Kq ta tb):=qD KC ha hb
theorem Lb(hu:X.A.units+200<fS)(ha:JE X a ta)(hb:JE X b tb):JE X (.Compare a [.NotEq] [b] pos) (mz Jz ta tb):=B5 (Be hu) ha hb (jV _)
theorem Lc(ha:JE X a ta)(hb:JE X b tb):JE X (.Compare a [.Lt] [b] pos) (mz Mf ta tb):=B5 KI ha hb (jV _)
theorem Ld(ha:JE X a ta)(hb:JE X b tb):JE X (.Compare a [.Gt] [b] pos) (mz ND ta tb):=B5 KL ha hb (jV _)
theorem K7(hu:X.A.units+200<fS)(ha:JE X a ta)(hb:JE X b tb):JT X (.Compare a [.Eq] [b] pos) (Aq (mz LG ta tb)):=iO (HC hu) ha hb (jV _)
theorem K1(hu:X.A.units+200<fS)(ha:JE X a ta)(hb:JE X b tb):JT X (.Compare a [.NotEq] [b] pos) (Aq (mz Jz ta tb)):=iO (Be hu) ha hb (jV _)
theorem K3(ha:JE X a ta)(hb:JE X b tb):JT X (.Compare a [.Lt] [b] pos) (Aq (mz Mf ta tb)):=iO KI ha hb (jV _)
theorem K5(ha:JE X a ta)(hb:JE X b tb):JT X (.Compare a [.Gt] [b] pos) (Aq (mz ND ta tb)):=iO KL ha hb (jV _)
theorem K6(ha:JE X a ta)(hb:JE X b tb):JT X (.Compare a [.GtE] [b] pos) (Aq (mz lz ta tb)):=iO Nn ha hb (jV _)
theorem K4(ha:JE X a ta)(hb:JE X b tb)(hm:eW .In b=false):JT X (.Compare a [.In] [b] pos) (Aq (mz (Ls false) ta tb)):=iO Nm ha hb hm
theorem Ic(ha:JE X a ta)(hb:JE X b tb)(hm:eW .Is b=false):JT X (.Compare a [.Is] [b] pos) (Aq (mz Lr ta tb)):=iO KJ ha hb hm
theorem Ll(ha:JE X a ta)(hb:JE X b tb)(hs:tF b:=by exact λ_ _=>rfl):JE X (.Subscript a b pos) (mz De ta tb):=Nw JM ha hb hs
theorem Nr(h:JW X a tA):JT X a tA:=h.jt
end
section
variable{X:Cx}{o e:Expr}{to:E2}{t:A2}{apos cpos:Pos}
theorem zy(ho:JE X o to)(ha:JA X [e] t)
  (hbase:bL o "append" X.env (eval o X.env)=eval o X.env:=by rfl) (hfew:((bC cpos (al [e] X.env)).all (λx=> !x.1)&&(gJ cpos (dW [] X.env)).all (λx=>x.1.isSome)&&decide (([e]:List Expr).length+([]:List fT).length+(if([]:List fT).isEmpty then 0 else 1)<30))=true:=by rfl)
  (hline:(apos.endLine==cpos.line)=true:=by rfl) (hs:al [e] X.env=(false,eval e X.env)::al [] X.env:=by rfl):JE X (.Call (.Attribute o "append" apos) [e] [] cpos) (Jc mM to t):=Gc PySem.F.slot_list_append PySem.F.type_list_append BL ho ha hbase hfew hline hs rfl
theorem zx(ho:JE X o to)(ha:JA X [e] t)
  (hbase:bL o "extend" X.env (eval o X.env)=eval o X.env:=by rfl) (hfew:((bC cpos (al [e] X.env)).all (λx=> !x.1)&&(gJ cpos (dW [] X.env)).all (λx=>x.1.isSome)&&decide (([e]:List Expr).length+([]:List fT).length+(if([]:List fT).isEmpty then 0 else 1)<30))=true:=by rfl)
  (hline:(apos.endLine==cpos.line)=true:=by rfl) (hs:al [e] X.env=(false,eval e X.env)::al [] X.env:=by rfl):JE X (.Call (.Attribute o "extend" apos) [e] [] cpos) (Jc ji to t):=Gc PySem.F.slot_list_extend PySem.F.type_list_extend BK ho ha hbase hfew hline hs rfl
theorem EQ(ho:JE X o to)(ha:JA X [e] t)
  (hbase:bL o "join" X.env (eval o X.env)=eval o X.env:=by rfl) (hfew:((bC cpos (al [e] X.env)).all (λx=> !x.1)&&(gJ cpos (dW [] X.env)).all (λx=>x.1.isSome)&&decide (([e]:List Expr).length+([]:List fT).length+(if([]:List fT).isEmpty then 0 else 1)<30))=true:=by rfl)
  (hline:(apos.endLine==cpos.line)=true:=by rfl) (hs:al [e] X.env=(false,eval e X.env)::al [] X.env:=by rfl):JE X (.Call (.Attribute o "join" apos) [e] [] cpos) (LI uN to t):=Lj PySem.F.slot_str_join PySem.F.type_str_join HU ho ha hbase hfew hline hs rfl
theorem Ii(ho:JE X o to)(hbase:bL o "pop" X.env (eval o X.env)=eval o X.env:=by rfl)(hline:(apos.endLine==cpos.line)=true:=by rfl):JE X (.Call (.Attribute o "pop" apos) [] [] cpos) (Gj A3 to):=IB PySem.F.slot_list_pop PySem.F.type_list_pop KS ho hbase hline
end
noncomputable def NK(items:List PV)(c:Gp->Prop)(ix:List (Option Nat))(j j2:Nat)(τ:jc)(tf:T2)(te:E2)(Q:K2)(G1:Gp)(acc:Addr):Prop:=
 ∃W:Nat->List PV->Gp->Prop,W 0 [] (up G1 acc (.lst []))/\(∀i ys G,i<=items.length->W i ys G->c G/\G acc=some (.lst ys)/\ys.length<16000000)/\
  (∀i ys G x,items[i]? =some x->W i ys G->∃p q,x= .tup [p,q]/\tf (st (st (mJ ix τ) j (some p)) j2 (some q)) G λb G2=>o8 b (te (st (st (mJ ix τ) j (some p)) j2 (some q)) G2 λy G3=>G3 acc=some (.lst ys)/\W (i+1) (ys++[y]) (up G3 acc (.lst (ys++[y])))) (W (i+1) ys G2))/\∀ys G,W items.length ys G->Q (.ref acc) G
noncomputable abbrev Cp(ti:rL)(ix:List (Option Nat))(j j2:Nat)(tf:T2)(te:E2):E2:=λτ G Q=>ti τ G λitems c G1=>∀acc,G1 acc=none->NK items c ix j j2 τ tf te Q G1 acc
section
variable{X:Cx}
theorem zm{ti:rL}{ix:List (Option Nat)}{j j2:Nat}{tf:T2}{te:E2}{σ:L2.St}{H:Hp}{Q:VK}(q:ou X.K (Cp ti ix j j2 tf te) σ H Q):Ao X.K (EF X.K ti) ix j j2 (uE X.K tf) (ou X.K te) σ H Q:=by
 obtain⟨τ,G,Q2,rs,rp,q,cl⟩:=q
 refine⟨τ,G,_,rs,rp,q,λitems c G1 J H1 q1 r1 k1 ok acc hacc=> ?_⟩
 obtain⟨W,w0,hW,turn,done⟩:=q1 acc (r1.none hacc)
 have kn:Keep X.K H1 (upd H1 acc (.lst [])):=bK hacc
 refine⟨λi m H'=>m=items.length-i/\i<=items.length/\∃ys G',W i ys G'/\Rep X.K H' G'/\Keep X.K H1 H',⟨_,rfl,cg _,[],_,w0,r1.new hacc .nil,kn⟩,?_⟩
 rintro i m H2 ⟨rfl,hi,ys,G2,w2,r2,k2⟩
 obtain⟨hc,hacc2,hys⟩:=hW i ys G2 hi w2
 obtain⟨o1,o2,o3⟩:=ok i H2 G2 k2 r2 hc
 by_cases hlt:i<items.length
 ·refine .inr ⟨o1 hlt,λx H3 y=> ?_⟩
  obtain⟨p,ep,k3,r3,d3⟩:=o3 x H3 hlt y
  obtain⟨pa,pb,rfl,turn'⟩:=turn i ys G2 p ep w2
  obtain⟨ta,vs,rfl,sq,u1,vr,rfl,du1,u2,vr2,rfl,du2,e3⟩:=d3
  obtain rfl:vr2=[]:=e3
  have k13:=k2.trans k3
  refine⟨ta,u1,u2,rfl,sq,?_⟩
  have rs3:RSt X.K H3 (((ka ix σ).set j (some u1)).set j2 (some u2)) (st (st (mJ ix τ) j (some pa)) j2 (some pb)):=((yJ ix (rs.keep (k1.trans k13))).set du1 j).set du2 j2
  refine⟨_,G2,_,rs3,r3,turn',λb G4 H4 q4 r4 k4=> ?_⟩
  have k14:=k13.trans k4
  cases b with
  |false=>exact uP ⟨items.length-(i+1),by ac_nf,rfl,hlt,ys,G4,q4,r4,k14⟩
  |true=>
   refine uO ⟨_,G4,_,rs3.keep k4,r4,q4,λy G5 v H5 q5 d5 r5 k5=> ?_⟩
   obtain⟨ea,w5⟩:=q5
   obtain⟨vs,hv,dv⟩:=r5.lst ea
   refine⟨vs,hv,by rw[dv.length];exact CK (gS hys),items.length-(i+1),by ac_nf,rfl,hlt,ys++[y],_,w5,r5.put hv (dv.append (.cons d5 .nil)),(k14.trans k5).trans (fO hv)⟩
 ·have e:i=items.length:=by ac_nf
  subst e
  exact .inl ⟨o2 rfl,cl _ _ _ _ (done ys G2 w2) rfl r2 (k1.trans k2)⟩
theorem E5{scope:e8}{M:List Str}{ix:List (Option Nat)}{j j2 kt:Nat}{x y:Str}{elt iter:Expr}{px py pt pos:Pos}{ifs:List Expr}{ti:rL}{tf:T2}{te:E2}(S:fq X.env.scope X.N scope M ix j x=true)(S2:o4 scope M ix j2 y)(hc:X.calm=true)(hi:JI X (FF x y px py kt pt) iter ti)
  (hb:∀C s H fp,JF (bO X M scope C s H fp) ifs tf/\JE (bO X M scope C s H fp) elt te) (hs:∀x,dI iter X.env x=pure x:=by intro _;rfl):
  JE X (.ListComp elt [⟨FF x y px py kt pt,iter,ifs,0⟩] scope pos) (Cp ti ix j j2 tf te):= .of (Bb (Cw S) S2 hc hi.h (λC s H fp=>⟨(hb C s H fp).1.h,(hb C s H fp).2.h⟩) hs) λσ H Q q=>zm q
end
section
end
section
variable{X:Cx}{e:Expr}{t:A2}{es:List Expr}{p pos:Pos}
noncomputable def uS:C2:=λps G Q=>match ps with
 |[.bl k]=>Q (.int (if k then 1 else 0)) G
 |_=>False
theorem Jk:gE X (.type "int") (pN X.K uS):=by
 intro pins s σ H xs us Q I rs h
 obtain⟨ps,G,Q2,d,rp,h,cl⟩:=h
 unfold uS at h
 split at h
 ·rename_i k
  obtain⟨v,vr,rfl,d1,d2⟩:=d
  obtain rfl:vr=[]:=d2
  obtain rfl:v= .bl k:=d1
  exact zQ pins s σ H _ us Q I rs (.inr ⟨k,rfl,cl _ _ _ _ h rfl rp .refl⟩)
 ·exact h.elim
theorem ww(B:BN X.mg)(ha:JA X (e::es) t)(hg:Gl X "int" :=by rfl)(he:al (e::es) X.env=(false,eval e X.env)::al es X.env:=by rfl)(hpl:(bC pos (al es X.env)).any (·.1)=false:=by rfl):JE X (.Call (.Name "int" p) (e::es) [] pos) (zX uS t):=pT Jk B.int CH ha hg (by decide) (by decide) he hpl
end
theorem BN.zip{mg:Str->Option ae}(h:BN mg):mg "zip" =none:=h _ (by decide+kernel)
theorem IG{X:Cx}{x:Str}{i:Int}{t:Tok}{pos:Pos}(hm:X.mg x=some (.int i t))(hg:Gl X x:=by rfl)(hd:(x==("__debug__" :Str))=false:=by decide):JE X (.Name x pos) (eC (.int i)):=wx (v:= .int i) hm ⟨t,rfl⟩ (λ_=>rfl) hg hd
theorem dH{n:Nat}(h:Nat.ble n 1000=true:=by rfl):n<=1000:=aV h
theorem a9{G:Gp}{a:Addr}{ps:List PV}(h:G a=some (.lst ps)):lk G a=some ps:=by unfold lk;rw[h]
theorem jY{G:Gp}{a:Addr}{ps:List PV}:lk (up G a (.lst ps)) a=some ps:=a9 ao
theorem bT{G:Gp}{a b:Addr}{o:MO}(h:up G a o b=none):b≠a/\G b=none:=by
 have ne:b≠a:=λz=>by subst z;rw[ao]at h;cases h
 exact⟨ne,by rw[aK ne]at h;exact h⟩
theorem w9{G:Gp}{a b:Addr}{o u:MO}(h:a≠b):up (up G a o) b u=up (up G b u) a o:=by
 funext c;unfold up
 by_cases h1:c=b
 ·subst h1;simp[aG h]
 ·simp[h1]
theorem GE.mod{G0 G:Gp}{a:Addr}{o:MO}(h:GE G0 G)(n:G0 a=none):GE G0 (up G a o):=λb u q=>by
 have:b≠a:=λz=>by subst z;rw[n]at q;cases q
 rw[aK this];exact h b u q
theorem GE.at{G0 G:Gp}{a:Addr}{o:MO}(h:GE G0 G)(n:G a=some o):GE (up G0 a o) G:=λb u q=>by
 by_cases hb:b=a
 ·subst hb;rw[ao]at q;cases q;exact n
 ·rw[aK hb]at q;exact h b u q
section
variable{G:Gp}{a b:Addr}{xs ys:List PV}{x y:PV}{i k:Int}{j:Nat}{Q:K2}
theorem FW(h:G a=some (.lst (xs++[y])))(q:Q y (up G a (.lst xs))):A3 (.ref a) [] G Q:=by
 unfold A3
 simp only[h]
 rw[aM,bS (by simp)]
 simp only[aX,iw,Nat.add_sub_cancel,Nat.sub_self,wV,List.dropLast_concat]
 exact q
theorem i8(h:G a=some (.lst xs))(hl:xs.length<16000000)(q:Q .non (up G a (.lst (xs++[y])))):mM (.ref a) [y] G Q:=by
 unfold mM;simp only[h];exact⟨hl,q⟩
theorem Cm(h:G a=some (.lst xs))(hl:xs.length+ys.length<=16000000)(q:Q .non (up G a (.lst (xs++ys)))):ji (.ref a) [.tup ys] G Q:=by
 unfold ji;simp only[h];exact⟨hl,q⟩
theorem Ja(h:G a=some (.lst xs))(h2:G b=some (.lst ys))(hl:xs.length+ys.length<=16000000)(q:Q .non (up G a (.lst (xs++ys)))):ji (.ref a) [.ref b] G Q:=by
 unfold ji;simp only[h,h2];exact⟨hl,q⟩
theorem uF(h:lk G a=some xs)(q:Q (.int xs.length) G):lv [.ref a] G Q:=by
 unfold lv;simp only[h];exact q
theorem cU(h:lk G a=some xs)(e:mW xs i=some x)(q:Q x G):De (.ref a) (.int i) G Q:=by
 unfold De;simp only[h,e];exact q
theorem Lq(h:lk G a=some xs)(e:mW xs i=some x)(q:Q x G):E7 (.ref a) (.int i) G Q:=by
 unfold E7;simp only[h,e];exact q
theorem ib(e:mW xs i=some x)(q:Q x G):De (.tup xs) (.int i) G Q:=by
 unfold De;simp only[e];exact q
theorem pU{z:Str}{c:Nat}(hz:z.length<=16000000)(e:mW z.cps.toList i=some c)(q:Q (.str ⟨#[c]⟩) G):De (.str z) (.int i) G Q:=by
 unfold De;simp only[e];exact⟨hz,q⟩
theorem sv{v:PV}{R:Gp->Prop}(h:G a=some (.lst xs))(e:zC xs.length k=some j)(q:R (up G a (.lst (xs.set j v)))):DC (.ref a) (.int k) v G R:=by
 unfold DC;simp only[h,e];exact q
theorem rY(h:lk G a=some xs)(q:Q (.tup xs) G):pd [.ref a] G Q:=by
 unfold pd;simp only[h];exact q
theorem At{ns:List Int}(h:lk G a=some (ns.map PV.int))(q:Q (.int ns.sum) G):Au [.ref a] G Q:=by
 unfold Au;simp only[h,wC];exact q
theorem EM{z:Str}{zs:List Str}(h:lk G a=some (zs.map PV.str))(hl:(zs.map (·.length)).sum+zs.length*z.length<=16000000)(q:Q (.str (kc z zs)) G):uN (.str z) [.ref a] G Q:=by
 unfold uN;simp only[h,vO];exact⟨hl,q⟩
end
noncomputable def Ch(l:List Addr)(G G':Gp):Prop:=∀c o,c∉l->G c=some o->G' c=some o
theorem Ch.refl{l:List Addr}{G:Gp}:Ch l G G:=λ_ _ _ h=>h
theorem Ch.trans{l:List Addr}{G G1 G2:Gp}(a:Ch l G G1)(b:Ch l G1 G2):Ch l G G2:=λc o n h=>b c o n (a c o n h)
theorem Ch.new{l:List Addr}{G G1:Gp}{a:Addr}{o:MO}(h:Ch l G G1)(n:G1 a=none):Ch l G (up G1 a o):=λb u hb q=>by
 have:=h b u hb q
 have ne:b≠a:=λz=>by subst z;rw[n]at this;cases this
 rw[aK ne];exact this
theorem Ch.put{l:List Addr}{G G1:Gp}{a:Addr}{o:MO}(h:Ch l G G1)(n:a∈l):Ch l G (up G1 a o):=λb u hb q=>by
 have ne:b≠a:=λz=>by subst z;exact hb n
 rw[aK ne];exact h b u hb q
theorem Ch.mod'{l:List Addr}{G G1:Gp}{a:Addr}{o:MO}(h:Ch l G G1)(n:G a=none):Ch l G (up G1 a o):=λb u hb q=>by
 have ne:b≠a:=λz=>by subst z;rw[n]at q;cases q
 rw[aK ne];exact h b u hb q
theorem GE.ch{l:List Addr}{G G1:Gp}(h:GE G G1):Ch l G G1:=λb u _ q=>h b u q
noncomputable def Pool(G:Gp)(a:Addr):Prop:=∃x y z:Int,G a=some (.lst [.int x,.int y,.int z])/\0<=x
theorem Pool.new{G:Gp}{a b:Addr}{o:MO}(h:Pool G a)(n:G b=none):Pool (up G b o) a:=by
 obtain⟨x,y,z,e,hx⟩:=h
 exact⟨x,y,z,by rw[aK (λq=>by subst q;rw[n]at e;cases e)];exact e,hx⟩
theorem Pool.ne{G:Gp}{a b:Addr}{o:MO}(h:Pool G a)(n:b≠a):Pool (up G b o) a:=by
 obtain⟨x,y,z,e,hx⟩:=h
 exact⟨x,y,z,by rw[aK (aG n)];exact e,hx⟩
theorem bt{G:Gp}{a b:Addr}{o:MO}(h:G a=some o)(n:G b=none):a≠b:=λz=>by subst z;rw[h]at n;cases n
theorem Pool.some{G:Gp}{a:Addr}(h:Pool G a):∃o,G a=some o:=by obtain⟨x,y,z,e,_⟩:=h;exact⟨_,e⟩
theorem ml{P:aF}{w:aS}{K:PySem.W.Frag}{mg:Str->Option ae}{base:Heap}{k:Nat}{f:Addr}{fd:aR}{ps:List Str}{sp:gP}(h:∀as G Q,¬sp as G Q):ic P w K mg base k f fd ps sp:=
 ⟨λvs H Q E ⟨as,G,Q2,_,_,q,_⟩=>absurd q (h as G Q2),λA outer s H args us vs Q E _ _ _ _ ⟨as,G,Q2,_,_,q,_⟩=>absurd q (h as G Q2)⟩
noncomputable def vQ:gP:=λps G Q=>∃c:Int,ps=[.int c]/\∀a G',G a=none->Pool G' a->Ch [a] G G'->Q (.ref a) G'
noncomputable def pB:gP:=λps G Q=>∃(a:Addr) (b:Int),ps=[.ref a,.int b]/\Pool G a/\1<=b/\b<=1000000/\∀(n:Int) G',0<=n->n<b->Pool G' a->Ch [a] G G'->Q (.int n) G'
inductive Pt where
 |none|blank|sign (s:Str)|row (ps:List Pt)|pick (ps:List Pt)|again (p:Pt)|held (n:Str) (p:Pt)|price (n:Int) (p:Pt)
mutual
noncomputable def n5:Pt->PV
 | .none=> .tup [.str "none"]
 | .blank=> .tup [.str "blank"]
 | .sign s=> .tup [.str "sign",.str s]
 | .row ps=> .tup [.str "row",.tup (eI ps)]
 | .pick ps=> .tup [.str "pick",.tup (eI ps)]
 | .again p=> .tup [.str "again",n5 p]
 | .held n p=> .tup [.str "held",.str n,n5 p]
 | .price n p=> .tup [.str "price",.int n,n5 p]
noncomputable def eI:List Pt->List PV
 |[]=>[]
 |p::ps=>n5 p::eI ps
end
theorem gx:∀ps:List Pt,eI ps=ps.map n5
 |[]=>rfl
 |p::ps=>by show n5 p::eI ps=_;rw[gx ps];rfl
theorem j7(ps qs:List Pt):eI (ps++qs)=eI ps++eI qs:=by rw[gx,gx,gx,bD]
theorem sT(ps:List Pt):eI ps.reverse=(eI ps).reverse:=by rw[gx,gx,List.map_reverse]
theorem fB(ps:List Pt):(eI ps).length=ps.length:=by rw[gx,aB]
noncomputable def cy:Pt->List Pt
 | .row ps=>ps
 | .pick ps=>ps
 | .again p=>[p]
 | .held _ p=>[p]
 | .price _ p=>[p]
 |_=>[]
mutual
noncomputable def size:Pt->Nat
 | .row ps=>1+dE ps
 | .pick ps=>1+dE ps
 | .again p=>1+size p
 | .held _ p=>1+size p
 | .price _ p=>1+size p
 |_=>1
noncomputable def dE:List Pt->Nat
 |[]=>0
 |p::ps=>size p+dE ps
end
theorem jf(p:Pt):size p=1+dE (cy p):=by
 cases p<;>simp[size,cy,dE]
theorem uc(p:Pt):0<size p:=by rw[jf];ac_nf
theorem md(ps qs:List Pt):dE (ps++qs)=dE ps+dE qs:=by
 induction ps with
 |nil=>simp[dE]
 |cons p ps ih=>simp[dE,ih];ac_nf
theorem fR:∀ps:List Pt,ps.length<=dE ps
 |[]=>cg _
 |p::ps=>by
  have:=fR ps
  have:=uc p
  simp[dE];ac_nf
mutual
noncomputable def makes:Pt->List Pt
 | .row ps=> .row ps::dF ps
 | .pick ps=> .pick ps::dF ps
 | .again p=> .again p::makes p
 | .held n p=> .held n p::makes p
 | .price n p=> .price n p::makes p
 |p=>[p]
noncomputable def dF:List Pt->List Pt
 |[]=>[]
 |p::ps=>makes p++dF ps
end
theorem iH(p:Pt):makes p=p::dF (cy p):=by
 cases p<;>simp[makes,cy,dF]
theorem kW(ps qs:List Pt):dF (ps++qs)=dF ps++dF qs:=by
 induction ps with
 |nil=>simp[dF]
 |cons p ps ih=>simp[dF,ih]
mutual
theorem bJ:∀p:Pt,(makes p).length=size p
 | .row ps=>by simp[makes,size,e7 ps];ac_nf
 | .pick ps=>by simp[makes,size,e7 ps];ac_nf
 | .again p=>by simp[makes,size,bJ p];ac_nf
 | .held n p=>by simp[makes,size,bJ p];ac_nf
 | .price n p=>by simp[makes,size,bJ p];ac_nf
 | .none=>rfl
 | .blank=>rfl
 | .sign s=>rfl
theorem e7:∀ps:List Pt,(dF ps).length=dE ps
 |[]=>rfl
 |p::ps=>by simp[dF,dE,bJ p,e7 ps]
end
noncomputable def Nl(c:Nat):Str:=⟨#[c]⟩
theorem uM:∀zs:List Str,(Str.join (aY "") zs).cps.toList=(zs.map λz=>z.cps.toList).flatten
 |[]=>rfl
 |[z]=>by simp[Str.join]
 |z::y::r=>by
  show(z++aY "" ++Str.join (aY "") (y::r)).cps.toList=_
  have h:=uM (y::r)
  rw[aD,cP,<-h]
  show(z.cps++(aY "").cps++(Str.join (aY "") (y::r)).cps).toList=_
  rw[mT,mT]
  simp[show(aY "").cps.toList=[]from rfl]
theorem zu(zs:List Str):(kc (aY "") zs).cps.toList=(zs.map λz=>z.cps.toList).flatten:=by
 have e:kc (aY "") zs=Str.join (aY "") zs:=StrLaws.glued_eq_join _ _
 rw[e,uM]
mutual
noncomputable def depth:Pt->Nat
 | .row ps=>1+j9 ps
 | .pick ps=>1+j9 ps
 | .again p=>1+depth p
 | .held _ p=>1+depth p
 | .price _ p=>1+depth p
 |_=>1
noncomputable def j9:List Pt->Nat
 |[]=>0
 |p::ps=>max (depth p) (j9 ps)
end
mutual
noncomputable def gU:Pt->Bool
 | .none=>false
 | .blank=>true
 | .sign _=>false
 | .row ps=>CZ ps
 | .pick ps=>CY ps
 | .again _=>true
 | .held _ p=>gU p
 | .price _ p=>gU p
noncomputable def CZ:List Pt->Bool
 |[]=>true
 |p::ps=>gU p&&CZ ps
noncomputable def CY:List Pt->Bool
 |[]=>false
 |p::ps=>gU p||CY ps
end
theorem wO{α:Type}{xs:List α}{n:Int}(h0:0<=n)(h1:n<xs.length):∃x,mW xs n=some x/\x∈xs:=by
 have hl:n.toNat<xs.length:=by ac_nf
 refine⟨xs[n.toNat],?_,jF hl⟩
 have:=bX (xs:=xs) (j:=n.toNat) (v:=xs[n.toNat]) (ak hl)
 rwa [show((n.toNat:Nat):Int)=n by ac_nf]at this
noncomputable def cz:Nat->List Pt->List Nat
 |_,[]=>[]
 |b,p::ps=>b::cz (b+size p) ps
theorem kZ(b:Nat)(ps qs:List Pt):cz b (ps++qs)=cz b ps++cz (b+dE ps) qs:=by
 induction ps generalizing b with
 |nil=>simp[cz,dE]
 |cons p ps ih=>simp[cz,dE,ih,Nat.add_assoc]
theorem dX(b:Nat)(ps:List Pt):(cz b ps).length=ps.length:=by
 induction ps generalizing b with
 |nil=>rfl
 |cons p ps ih=>simp[cz,ih]
mutual
theorem Jy:∀(p:Pt) (j:Nat) (q:Pt),(makes p)[j]? =some q->∃r,(makes p).drop j=makes q++r
 | .row ps,j,q,h=>by
  cases j with
  |zero=>simp[makes]at h;subst h;exact⟨[],by simp⟩
  |succ j=>simp[makes]at h⊢;exact GQ ps j q h
 | .pick ps,j,q,h=>by
  cases j with
  |zero=>simp[makes]at h;subst h;exact⟨[],by simp⟩
  |succ j=>simp[makes]at h⊢;exact GQ ps j q h
 | .again p,j,q,h=>by
  cases j with
  |zero=>simp[makes]at h;subst h;exact⟨[],by simp⟩
  |succ j=>simp[makes]at h⊢;exact Jy p j q h
 | .held n p,j,q,h=>by
  cases j with
  |zero=>simp[makes]at h;subst h;exact⟨[],by simp⟩
  |succ j=>simp[makes]at h⊢;exact Jy p j q h
 | .price n p,j,q,h=>by
  cases j with
  |zero=>simp[makes]at h;subst h;exact⟨[],by simp⟩
  |succ j=>simp[makes]at h⊢;exact Jy p j q h
 | .none,j,q,h=>by
  cases j with
  |zero=>simp[makes]at h;subst h;exact⟨[],by simp⟩
  |succ j=>simp[makes]at h
 | .blank,j,q,h=>by
  cases j with
  |zero=>simp[makes]at h;subst h;exact⟨[],by simp⟩
  |succ j=>simp[makes]at h
 | .sign s,j,q,h=>by
  cases j with
  |zero=>simp[makes]at h;subst h;exact⟨[],by simp⟩
  |succ j=>simp[makes]at h
theorem GQ:∀(ps:List Pt) (j:Nat) (q:Pt),(dF ps)[j]? =some q->∃r,(dF ps).drop j=makes q++r
 |[],j,q,h=>by simp[dF]at h
 |p::ps,j,q,h=>by
  simp only[dF]at h⊢
  by_cases hj:j<(makes p).length
  ·rw[c6 hj]at h
   obtain⟨r,e⟩:=Jy p j q h
   refine⟨r++dF ps,?_⟩
   rw[List.drop_append_of_le_length (gS hj),e,eD]
  ·rw[bS (by ac_nf)]at h
   obtain⟨r,e⟩:=GQ ps _ q h
   refine⟨r,?_⟩
   rw[List.drop_append,List.drop_of_length_le (by ac_nf),kO,e]
end
theorem yW{p q:Pt}{j:Nat}(h:(makes p)[j]? =some q):∃r,(makes p).drop (j+1)=dF (cy q)++r:=by
 obtain⟨r,e⟩:=Jy p j q h
 refine⟨r,?_⟩
 have:(makes p).drop (j+1)=((makes p).drop j).drop 1:=by rw[List.drop_drop]
 rw[this,e,iH q]
 rfl
theorem ue{p q c:Pt}{j:Nat}{pre post:List Pt}(h:(makes p)[j]? =some q)(hi:cy q=pre++c::post):(makes p)[j+1+dE pre]? =some c:=by
 obtain⟨r,e⟩:=yW h
 have e2:((makes p).drop (j+1))[dE pre]? =some c:=by
  rw[e,hi,kW,eD,bS (by rw[e7];exact aq _),e7,Nat.sub_self]
  simp only[dF]
  rw[iH c]
  rfl
 rw[List.getElem?_drop]at e2
 exact e2
theorem ud{p q:Pt}{j:Nat}(h:(makes p)[j]? =some q):j+size q<=size p:=by
 obtain⟨r,e⟩:=Jy p j q h
 have:=congrArg lJ e
 rw[List.length_drop,aM,bJ,bJ]at this
 have hj:=(aj.mp h).1
 rw[bJ]at hj
 ac_nf
noncomputable def dM(n:Nat):PV:= .int n
noncomputable def fY(p:Pt):List PV:=(dC (size p)).map λj=> .tup ((cz (j+1) (cy ((makes p).getD j .none))).map dM)
theorem qA(p:Pt):(fY p).length=size p:=by unfold fY;simp
theorem fH{p q:Pt}{j:Nat}(h:(makes p)[j]? =some q):(fY p)[j]? =some (.tup ((cz (j+1) (cy q)).map dM)):=by
 have hj:=(aj.mp h).1
 rw[bJ]at hj
 unfold fY
 rw[aI,eQ hj]
 show some (PV.tup ((cz (j+1) (cy ((makes p).getD j .none))).map dM))=_
 rw[List.getD_eq_getElem?_getD,h]
 rfl
mutual
theorem u0:∀(n:Nat) (p:PV),dj n p=true->iP p p=true
 |_,.non,_=>rfl
 |_,.bl b,_=>by unfold iP;simp
 |_,.int b,_=>by unfold iP;simp
 |_,.str b,_=>by unfold iP;simp
 |n,.tup xs,h=>by
  cases n with
  |zero=>cases h
  |succ n=>unfold iP;exact rA n xs h
 |n,.ref _,h=>by cases n<;>cases h
 |n,.ty _,h=>by cases n<;>cases h
 |n,.ro _,h=>by cases n<;>cases h
theorem rA:∀(n:Nat) (xs:List PV),fk n xs=true->iC xs xs=true
 |_,[],_=>rfl
 |n,x::xs,h=>by
  unfold fk at h
  rw[av]at h
  unfold iC
  rw[u0 n x h.1,rA n xs h.2]
  rfl
end
section
variable{G:Gp}{a:Addr}{xs:List PV}{x y p:PV}{i:Int}{j:Nat}{Q:K2}
theorem Cc(f1:j5 p=true)(f2:xs.all j5=true)(q:Q (.bl (IX p xs)) G):Ls false p (.tup xs) G Q:=⟨f1,f2,q⟩
theorem BB(f1:dj 100 x=true)(f2:dj 100 y=true)(q:Q (.bl (!iP x y)) G):Jz x y G Q:=by
 cases x with
 |ref a=>cases f1
 |ty a=>cases f1
 |ro a=>cases f1
 |_=>cases y with
  |ref a=>cases f2
  |ty a=>cases f2
  |ro a=>cases f2
  |_=>exact⟨f1,f2,q⟩
theorem j6(f1:dj 100 x=true)(f2:dj 100 y=true)(q:Q (.bl (iP x y)) G):LG x y G Q:=by
 cases x with
 |ref a=>cases f1
 |ty a=>cases f1
 |ro a=>cases f1
 |_=>cases y with
  |ref a=>cases f2
  |ty a=>cases f2
  |ro a=>cases f2
  |_=>exact⟨f1,f2,q⟩
theorem wS{i j:Int}(q:Q (.int (i+j)) G):Da (.int i) (.int j) G Q:=q
end
end L3
namespace PyProof.Rows
open PySem
section
end
end PyProof.Rows
namespace PySem
open Sem (wp)
open Builtin
theorem iZ:fillsNumberSlot (.type "tuple") "mul" =pure false:=
 fillsNumberSlot_seq (id:= "tuple.__mul__") (r:=some (.builtin "tuple.__rmul__")) kS.lookup (by decide+kernel) JL.lookup (by decide+kernel)
theorem me:seqRepeat? (.type "tuple")=pure (some (.builtin "tuple.__mul__")):=by
 unfold seqRepeat?
 rw[seqSlot_of (T:= "tuple") (name:= "__mul__") (id:= "tuple.__mul__") kS.lookup (by decide+kernel),seqSlot_of (T:= "tuple") (name:= "__rmul__") (id:= "tuple.__rmul__") JL.lookup (by decide+kernel)]
 rfl
theorem gr(a:Int)(t:Tok)(l:Addr)(items:Array ae)(n:Nat)(dd:Option Addr)(sl:Array (Option ae)):
  Meets (bH.«int.__rmul__» ⟨[.int a t,.ref l],[]⟩) (λ_ R s=>s.heap.get? l=some {cls:= .type "tuple",dict:=dd,data:= .seq items n,slots:=sl}/\R (.ok (.ret ae.notImplemented)) s):=
 .of_wp λprog w A R s h=>by obtain⟨hp,g,d,tk,os⟩:=s;obtain⟨hl,h⟩:=h;wp_walk;exact⟨_,rfl,h⟩
theorem rX(l:Addr)(items:Array ae)(n:Nat)(dd:Option Addr)(sl:Array (Option ae))(k:Int)(t:Tok)(h0:¬(k< -(2^63)||k≥2^63)=true)(h1:¬(items.isEmpty||k==1)=true)(h2:¬(k<=0||items.isEmpty)=true)(h3:¬((items.size:Int)*k>(2^63-1)/8))(h4:¬hJ ((items.size:Int)*k)=true)(h5:((aE k.toNat items).foldl (· ++·) #[]).size<=aJ):
  Meets (bH.«tuple.__mul__» ⟨[.ref l,.int k t],[]⟩) (λ_ R s=>s.heap.get? l=some {cls:= .type "tuple",dict:=dd,data:= .seq items n,slots:=sl}/\R (.ok (.ret (.ref s.heap.objs.size))) {s with heap:=s.heap.push {cls:= .type "tuple",data:= .seq ((aE k.toNat items).foldl (· ++·) #[])}}):=
 .of_wp λprog w A R s h=>by
  obtain⟨hp,g,d,tk,os⟩:=s;obtain⟨hl,h⟩:=h
  wp_walk using fW hl
  rw[if_neg h0]
  wp_walk using fW hl
  rw[if_neg h3]
  wp_walk using fW hl
  exact⟨_,rfl,h⟩
end PySem
namespace L3
open PySem L2
section
variable{X:Cx}
noncomputable def Ga:B2:=λp q G Q=>match p,q with
 | .tup xs,.int k=>xs≠[]/\2<=k/\xs.length*k.toNat<=16000000/\k<=16000000/\Q (.tup (aE k.toNat xs).flatten) G
 |_,_=>False
theorem HK:gW X (cx .Mult) (fL X.K Ga):=by
 intro pins s σ H x y v u Q I rx ry h
 obtain⟨p,q,G,Q2,d1,d2,rp,h,cl⟩:=h
 unfold Ga at h
 split at h
 ·rename_i xs k
  obtain⟨hne,hk2,hl,hkm,hq⟩:=h
  obtain⟨a,vs,rfl,sa,da⟩:=d1
  obtain rfl:y= .int k:=d2
  cases rx
  obtain⟨t,rfl⟩:=ry
  obtain⟨its,r,pl,hz⟩:=I.tuple sa
  obtain⟨⟨cls,dd,data,sl⟩,ho,hc,n,hd⟩:=pl
  simp only at hc hd
  subst hc hd
  have li:its.length=xs.length:=by rw[<-r.length,da.length]
  have hx:0<xs.length:=by
   cases xs with
   |nil=>exact absurd rfl hne
   |cons a b=>simp
  have e0:its.toArray.isEmpty=false:=by
   cases its with
   |nil=>simp at li;ac_nf
   |cons a b=>rfl
  have hnew:List.foldl (λx1 x2=>x1++x2) #[] (aE k.toNat its.toArray)=(aE k.toNat its).flatten.toArray:=by
   have:=nJ its k.toNat []
   rw[kO]at this
   exact this
  have hlen:(its.toArray.size:Int)*k<=16000000:=by
   rw[ap,li]
   have:((xs.length*k.toNat:Nat):Int)=(xs.length:Int)*k:=by
    rw[Int.natCast_mul];congr 1;ac_nf
   ac_nf
  have hsz:(aE k.toNat its).flatten.length<=aJ:=by
   rw[sI,li,kK];exact big hl
  have hTM:¬hJ ((its.toArray.size:Int)*k)=true:=by
   unfold hJ
   have h8:=fC
   have h9:(its.length:Int)*k<=16000000:=by simpa using hlen
   simp
   ac_nf
  refine jM (T:= "tuple") (U:= "int") (by decide) ⟨_,ho,rfl⟩ (λs'=>jw s' k t) iZ F.fills_int_mul gD me tG.lookup
   (eU gD (jw s k t) F.entry_int_rmul (qJ _ _) (gr k t a its.toArray n dd sl)
    ⟨ho,rfl,⟨_,ho,rfl⟩,eU kS ⟨_,ho,rfl⟩ F.entry_tuple_mul (F.args_tuple_mul_2 _ _) (rX a its.toArray n dd sl k t (by simp;ac_nf) (by rw[e0];simp;ac_nf) (by rw[e0];simp;ac_nf) (by ac_nf) hTM (by rw[hnew,ap];exact hsz)) ⟨ho,?_⟩⟩)
  rw[hnew]
  have hfr:H s.heap.objs.size=none:=I.hok.fresh (aq _)
  have kn:Keep X.K H (upd H s.heap.objs.size (.tup (aE k.toNat vs).flatten)):=bK hfr
  refine⟨.ref s.heap.objs.size,_,I.laid (t':=s.toks) (o:= .tup (aE k.toNat vs).flatten) (λb ob q=>ai _ q) (aq _) ?_,rfl,cl _ _ _ _ hq ⟨_,_,rfl,.of cb,(da.rep _).keep kn⟩ (rp.tup hfr) kn⟩
  refine⟨?_,(aE k.toNat its).flatten,r.rep k.toNat,⟨_,aH _ rfl,rfl,0,rfl⟩⟩
  rw[sI,da.length,kK];exact big hl
 ·exact h.elim
end
end L3
namespace PySem
open PyProof.Rows (StrsAre)
section
end
end PySem
namespace PySem
open PyProof.Rows (StrsAre)
section
end
section
end
end PySem
namespace PySem
open PyProof.Rows (StrsAre)
section
end
namespace F
end F
end PySem
namespace PySem
open PyProof.Rows (StrsAre)
section
end
end PySem
namespace PySem
open PyProof.Rows (StrsAre)
section
end
end PySem
namespace PySem
open PyProof.Rows (StrsAre)
section
end
end PySem
namespace PySem
open PyProof.Rows
section
end
end PySem
namespace L3
open PySem L2
noncomputable abbrev B6:B2:=λp q G Q=>match p,q with
 | .bl a,.bl b=>Q (.bl (!(a==b))) G
 |_,_=>False
section
variable{X:Cx}{a b:Expr}{ta tb:E2}{pos:Pos}
theorem HM:gW X (cr .IsNot) (fL X.K B6):=by
 intro pins s σ H x y v u Q I rx ry h
 obtain⟨p,q,G,Q2,d1,d2,rp,h,cl⟩:=h
 unfold B6 at h
 split at h
 ·rename_i a b
  obtain rfl:x= .bl a:=d1
  obtain rfl:y= .bl b:=d2
  cases rx
  cases ry
  have e:(c7 a==c7 b)=(a==b):=by cases a<;>cases b<;>rfl
  show wpAny _ _ (do let r <-isSame (.bool a) (.bool b);pure (c7 !r)) _ _ _
  refine aa (am (am ?_))
  rw[e]
  exact⟨.bl _,H,I,rfl,cl _ _ _ _ h rfl rp .refl⟩
 ·exact h.elim
theorem EI(ha:JE X a ta)(hb:JE X b tb)(hm:eW .IsNot b=false):JT X (.Compare a [.IsNot] [b] pos) (Aq (mz B6 ta tb)):=iO HM ha hb hm
end
end L3
namespace PySem
open Sem (wp)
open Builtin
theorem qv(l:Addr)(items:Array ae)(n:Nat)(dd:Option Addr)(sl:Array (Option ae))(t:Tok)(h0:¬((1:Int)< -(2^63)||(1:Int)≥2^63)=true):
  Meets (bH.«tuple.__mul__» ⟨[.ref l,.int 1 t],[]⟩) (λ_ R s=>s.heap.get? l=some {cls:= .type "tuple",dict:=dd,data:= .seq items n,slots:=sl}/\R (.ok (.ret (.ref l))) s):=
 .of_wp λprog w A R s h=>by
  obtain⟨hp,g,d,tk,os⟩:=s;obtain⟨hl,h⟩:=h
  wp_walk using fW hl
  exact⟨_,rfl,h⟩
end PySem
namespace L3
open PySem L2
noncomputable def BE:B2:=λp q G Q=>match p,q with
 | .tup xs,.int k=>xs≠[]/\1<=k/\xs.length*k.toNat<=16000000/\k<=16000000/\Q (.tup (aE k.toNat xs).flatten) G
 |_,_=>False
section
variable{X:Cx}{a b:Expr}{ta tb:E2}{pos:Pos}
theorem HJ:gW X (cx .Mult) (fL X.K BE):=by
 intro pins s σ H x y v u Q I rx ry h
 obtain⟨p,q,G,Q2,d1,d2,rp,h,cl⟩:=h
 unfold BE at h
 split at h
 ·rename_i xs k
  obtain⟨hne,hk1,hl,hkm,hq⟩:=h
  by_cases hk2:2<=k
  ·exact HK pins s σ H x y v u Q I rx ry ⟨.tup xs,.int k,G,Q2,d1,d2,rp,⟨hne,hk2,hl,hkm,hq⟩,cl⟩
  have hk:k=1:=by ac_nf
  subst hk
  have e1:(aE (1:Int).toNat xs).flatten=xs:=by simp
  rw[e1]at hq
  have d1':=d1
  obtain⟨a,vs,rfl,sa,da⟩:=d1
  obtain rfl:y= .int 1:=d2
  cases rx
  obtain⟨t,rfl⟩:=ry
  obtain⟨its,r,pl,hz⟩:=I.tuple sa
  obtain⟨⟨cls,dd,data,sl⟩,ho,hc,n,hd⟩:=pl
  simp only at hc hd
  subst hc hd
  refine jM (T:= "tuple") (U:= "int") (by decide) ⟨_,ho,rfl⟩ (λs'=>jw s' 1 t) iZ F.fills_int_mul gD me tG.lookup
   (eU gD (jw s 1 t) F.entry_int_rmul (qJ _ _) (gr 1 t a its.toArray n dd sl)
    ⟨ho,rfl,⟨_,ho,rfl⟩,eU kS ⟨_,ho,rfl⟩ F.entry_tuple_mul (F.args_tuple_mul_2 _ _) (qv a its.toArray n dd sl t (by decide)) ⟨ho,?_⟩⟩)
  exact⟨.ref a,H,I,rfl,cl _ _ _ _ hq d1' rp .refl⟩
 ·exact h.elim
theorem EV(ha:JE X a ta)(hb:JE X b tb):JE X (.BinOp a .Mult b pos) (mz BE ta tb):=qD HJ ha hb
end
theorem nO:∀{ps:List Pt} {c:Pt},c∈ps->depth c<=j9 ps
 |p::ps,c,h=>by
  rcases aA.mp h with rfl|h
  ·simp only[j9];ac_nf
  ·have:=nO h;simp only[j9];ac_nf
inductive Tr where
 |blank|sign (s:Str)|row (ts:List Tr)|pick (k:Int) (t:Tr)|again (ts:List Tr)|held (n:Str) (t:Tr)|price (n:Int) (t:Tr)
mutual
noncomputable def fI:Tr->PV
 | .blank=> .tup [.str "blank"]
 | .sign s=> .tup [.str "sign",.str s]
 | .row ts=> .tup [.str "row",.tup (c8 ts)]
 | .pick k t=> .tup [.str "pick",.int k,fI t]
 | .again ts=> .tup [.str "again",.tup (c8 ts)]
 | .held n t=> .tup [.str "held",.str n,fI t]
 | .price n t=> .tup [.str "price",.int n,fI t]
noncomputable def c8:List Tr->List PV
 |[]=>[]
 |t::ts=>fI t::c8 ts
end
theorem dS:∀ts:List Tr,c8 ts=ts.map fI
 |[]=>rfl
 |t::ts=>by show fI t::c8 ts=_;rw[dS ts];rfl
theorem gR(ts us:List Tr):c8 (ts++us)=c8 ts++c8 us:=by rw[dS,dS,dS,bD]
theorem sS(ts:List Tr):c8 ts.reverse=(c8 ts).reverse:=by rw[dS,dS,List.map_reverse]
theorem eO(ts:List Tr):(c8 ts).length=ts.length:=by rw[dS,aB]
noncomputable def lp:Tr->List Tr
 | .row ts=>ts
 | .again ts=>ts
 | .pick _ t=>[t]
 | .held _ t=>[t]
 | .price _ t=>[t]
 |_=>[]
mutual
noncomputable def r9:Tr->Nat
 | .row ts=>1+gn ts
 | .again ts=>1+gn ts
 | .pick _ t=>1+r9 t
 | .held _ t=>1+r9 t
 | .price _ t=>1+r9 t
 |_=>1
noncomputable def gn:List Tr->Nat
 |[]=>0
 |t::ts=>r9 t+gn ts
end
mutual
noncomputable def qQ:Tr->Nat
 | .row ts=>1+Al ts
 | .again ts=>1+Al ts
 | .pick _ t=>1+qQ t
 | .held _ t=>1+qQ t
 | .price _ t=>1+qQ t
 |_=>1
noncomputable def Al:List Tr->Nat
 |[]=>0
 |t::ts=>max (qQ t) (Al ts)
end
theorem oH(t:Tr):r9 t=1+gn (lp t):=by cases t<;>simp[r9,lp,gn]
theorem rZ(t:Tr):0<r9 t:=by rw[oH];ac_nf
theorem tN(ts us:List Tr):gn (ts++us)=gn ts+gn us:=by
 induction ts with
 |nil=>simp[gn]
 |cons p ps ih=>simp[gn,ih];ac_nf
theorem pe:∀ts:List Tr,ts.length<=gn ts
 |[]=>cg _
 |t::ts=>by
  have:=pe ts
  have:=rZ t
  simp[gn];ac_nf
mutual
noncomputable def qt:Tr->List Tr
 | .row ts=> .row ts::fG ts
 | .again ts=> .again ts::fG ts
 | .pick k t=> .pick k t::qt t
 | .held n t=> .held n t::qt t
 | .price n t=> .price n t::qt t
 |t=>[t]
noncomputable def fG:List Tr->List Tr
 |[]=>[]
 |t::ts=>qt t++fG ts
end
theorem lZ(t:Tr):qt t=t::fG (lp t):=by cases t<;>simp[qt,lp,fG]
theorem tT(ps qs:List Tr):fG (ps++qs)=fG ps++fG qs:=by
 induction ps with
 |nil=>simp[fG]
 |cons p ps ih=>simp[fG,ih]
theorem lY:∀(n:Nat) (t:Tr),r9 t<=n->(qt t).length=r9 t
 |0,t,h=>by have:=rZ t;ac_nf
 |n+1,t,h=>by
  have key:∀ts:List Tr,gn ts<=n->(fG ts).length=gn ts:=by
   intro ts
   induction ts with
   |nil=>intro _;rfl
   |cons a l ih=>
    intro h
    simp only[gn]at h⊢
    simp only[fG,aM]
    rw[lY n a (by ac_nf),ih (by ac_nf)]
  have e:=oH t
  rw[lZ,aX,key _ (by ac_nf)]
  ac_nf
noncomputable def Mb:Tr->Prop
 | .sign s=>s.length=1
 | .held n _=>n.length<=100
 |_=>True
noncomputable abbrev wt(t:Tr):Prop:=∀c∈qt t,Mb c
theorem tS:∀{ts:List Tr} {c:Tr},c∈fG ts↔∃t∈ts,c∈qt t
 |[],c=>by simp[fG]
 |p::ps,c=>by
  show c∈qt p++fG ps↔_
  rw[bj,tS (ts:=ps)]
  simp
theorem Ae{t:Tr}(h:Mb t)(hi:∀c∈lp t,wt c):wt t:=λd hd=>by
 rw[lZ]at hd
 rcases aA.mp hd with rfl|hd
 ·exact h
 ·obtain⟨c,hc,hd⟩:=tS.mp hd
  exact hi c hc d hd
noncomputable def GP:Tr->Option Str
 | .sign s=>some s
 |_=>none
noncomputable def gG(l:List Tr):List Nat:=((l.filterMap GP).map λz=>z.cps.toList).flatten
noncomputable abbrev tH(t:Tr):List Nat:=gG (qt t)
theorem nU(a b:List Tr):gG (a++b)=gG a++gG b:=by unfold gG;rw[gZ,bD,List.flatten_append]
theorem Am(s:Str):tH (.sign s)=s.cps.toList:=by simp[tH,gG,qt,GP]
theorem l5{t:Tr}(h:GP t=none):tH t=gG (fG (lp t)):=by
 unfold tH
 rw[lZ]
 unfold gG
 rw[cW,h]
theorem pj(t:Tr)(ts:List Tr):gG (fG (t::ts))=tH t++gG (fG ts):=nU _ _
noncomputable def tx(t:Tr):Str:=⟨(tH t).toArray⟩
theorem BX(zs:List Str):kc (aY "") zs=⟨((zs.map λz=>z.cps.toList).flatten).toArray⟩:=by
 have h:=zu zs
 generalize kc (aY "") zs=y at h
 obtain⟨⟨l⟩⟩:=y
 have h':l=_:=h
 rw[h']
theorem xx:∀{l:List Tr},(∀c∈l,Mb c)->(gG l).length<=l.length
 |[],_=>cg _
 |c::l,h=>by
  have ih:=xx (l:=l) λd hd=>h d (by simp[hd])
  have e:gG (c::l)=gG [c]++gG l:=nU [c] l
  rw[e,aM,aX]
  have:(gG [c]).length<=1:=by
   cases c with
   |sign s=>
    have hs:s.length=1:=h (.sign s) (by simp)
    have e1:s.cps.toList.length=s.length:=by simp[Str.length]
    simp only[gG,GP,cW,List.filterMap_nil,aD,kz,cP,List.flatten_nil,bI]
    ac_nf
   |_=>exact cg 1
  ac_nf
mutual
noncomputable def zL:Tr->Int
 | .row ts=>sZ ts
 | .again ts=>sZ ts
 | .pick _ t=>zL t
 | .held _ t=>zL t
 | .price n t=>zL t+n
 |_=>0
noncomputable def sZ:List Tr->Int
 |[]=>0
 |t::ts=>zL t+sZ ts
end
noncomputable def FV:Tr->Option Int
 | .price n _=>some n
 |_=>none
theorem Fl(t:Tr):zL t=sZ (lp t)+(FV t).getD 0:=by
 cases t<;>simp[zL,sZ,lp,FV]
theorem yH:∀(n:Nat) (t:Tr),r9 t<=n->((qt t).filterMap FV).sum=zL t
 |0,t,h=>by have:=rZ t;ac_nf
 |n+1,t,h=>by
  have key:∀ts:List Tr,gn ts<=n->((fG ts).filterMap FV).sum=sZ ts:=by
   intro ts
   induction ts with
   |nil=>intro _;rfl
   |cons a l ih=>
    intro h
    simp only[gn]at h
    show((qt a++fG l).filterMap FV).sum=zL a+sZ l
    rw[gZ,List.sum_append,yH n a (by ac_nf),ih (by ac_nf)]
  have e:=oH t
  rw[lZ,cW,Fl]
  cases hp:FV t with
  |none=>simp[key _ (show gn (lp t)<=n by ac_nf)]
  |some m=>simp[key _ (show gn (lp t)<=n by ac_nf)];ac_nf
mutual
theorem gu:∀(p:Tr) (n:Nat),2*qQ p<=n->dj n (fI p)=true
 | .blank,n,h=>by
  simp[qQ]at h
  obtain⟨n,rfl⟩:∃m,n=m+1:=⟨n-1,by ac_nf⟩
  simp[fI,dj,fk]
 | .sign s,n,h=>by
  simp[qQ]at h
  obtain⟨n,rfl⟩:∃m,n=m+1:=⟨n-1,by ac_nf⟩
  simp[fI,dj,fk]
 | .row ps,n,h=>by
  simp[qQ]at h
  obtain⟨n,rfl⟩:∃m,n=m+2:=⟨n-2,by ac_nf⟩
  simp[fI,dj,fk,nM ps n (by ac_nf)]
 | .again ps,n,h=>by
  simp[qQ]at h
  obtain⟨n,rfl⟩:∃m,n=m+2:=⟨n-2,by ac_nf⟩
  simp[fI,dj,fk,nM ps n (by ac_nf)]
 | .pick s p,n,h=>by
  simp[qQ]at h
  obtain⟨n,rfl⟩:∃m,n=m+1:=⟨n-1,by ac_nf⟩
  simp[fI,dj,fk,gu p n (by ac_nf)]
 | .held s p,n,h=>by
  simp[qQ]at h
  obtain⟨n,rfl⟩:∃m,n=m+1:=⟨n-1,by ac_nf⟩
  simp[fI,dj,fk,gu p n (by ac_nf)]
 | .price s p,n,h=>by
  simp[qQ]at h
  obtain⟨n,rfl⟩:∃m,n=m+1:=⟨n-1,by ac_nf⟩
  simp[fI,dj,fk,gu p n (by ac_nf)]
theorem nM:∀(ps:List Tr) (n:Nat),2*Al ps<=n->fk n (c8 ps)=true
 |[],n,h=>by simp[c8,fk]
 |p::ps,n,h=>by
  simp[Al]at h
  simp[c8,fk,gu p n (by ac_nf),nM ps n (by ac_nf)]
end
section
end
end L3
namespace L2
open PySem PySem.Spec PyProof.Rows
section
end
end L2
namespace L3
open PySem L2
section
end
section
variable{prog:aF}{w:aS}{A:Around}{E:ae->af->Prop}{s:af}
theorem iG{it l:Addr}{i:Nat}{items:Array ae}{x:ae}{Q:ae->af->Prop}(hit:s.heap.IsTupleIter it l i)
  (hl:s.heap.IsTuple l items) (hx:items[i]? =some x)
  (hQ:∀h':Heap,h'.IsTupleIter it l (i+1)->dJ it s.heap h'->Q x {s with heap:=h'}):
  wpAny (aN prog w) A (bw (.ref it)) Q E s:=by
 obtain⟨o,ho,hc,hd⟩:=id hit
 obtain⟨ol,hol,_,nl,hdl⟩:=hl
 unfold bw
 refine aa (cq (name:=aY "__next__") hit.typeIs gf
  (c9 gf hit.typeIs vt ?_ (vm _)))
 show wpAny _ _ (field (.ref it) 0>>=_) _ _ s
 refine aa (bu ho hd (x:= .ref l) rfl ?_)
 show wpAny _ _ (if(au l==bc)=true then _ else _) _ _ s
 rw[if_neg (show¬((au l==bc)=true)from bi)]
 show wpAny _ _ (field (.ref it) 1>>=_) _ _ s
 refine aa (bu ho hd (x:= .int i 0) rfl ?_)
 show wpAny _ _ (seqItems? (.ref l)>>=_) _ _ s
 refine aa (dD hol hdl ?_)
 simp only[qr,hx]
 refine aa (oj ho hd (by simp) (am ⟨x,rfl,am (hQ _ ?_ (dJ.update ..))⟩))
 exact⟨_,fE _ ho (Obj.isFreed_of_fields (Obj.data_mapFields hd _)),(Obj.cls_mapFields ..).trans hc,by
  rw[Obj.data_mapFields hd];simp[rawInt]⟩
theorem nu{it l:Addr}{i:Nat}{items:Array ae}{Q:ae->af->Prop}(hh:A.handled=none)
  (hit:s.heap.IsTupleIter it l i) (hl:s.heap.IsTuple l items) (hx:items[i]? =none)
  (hE:∀(h':Heap) (e:Addr),Heap.ExtBut it s.heap h'->(∃o,h'.get? e=some o/\o.cls= .type "StopIteration")->E (.ref e) {s with heap:=h'}):
  wpAny (aN prog w) A (bw (.ref it)) Q E s:=by
 obtain⟨o,ho,hc,hd⟩:=id hit
 obtain⟨ol,hol,_,nl,hdl⟩:=hl
 unfold bw
 refine aa (cq (name:=aY "__next__") hit.typeIs gf
  (c9 gf hit.typeIs vt ?_ (vm _)))
 show wpAny _ _ (field (.ref it) 0>>=_) _ _ s
 refine aa (bu ho hd (x:= .ref l) rfl ?_)
 show wpAny _ _ (if(au l==bc)=true then _ else _) _ _ s
 rw[if_neg (show¬((au l==bc)=true)from bi)]
 show wpAny _ _ (field (.ref it) 1>>=_) _ _ s
 refine aa (bu ho hd (x:= .int i 0) rfl ?_)
 show wpAny _ _ (seqItems? (.ref l)>>=_) _ _ s
 refine aa (dD hol hdl ?_)
 simp only[qr,hx]
 refine aa (iy (aa (oj ho hd (by simp) ?_)))
 show wpAny _ _ (newExc (.type "StopIteration") []>>=_) _ _ _
 refine aa ?_
 simp only[newExc,newTuple]
 refine aa (bE ?_ (by size_fits))
 refine aa (m:=firstArgMember _ _) (om (a:=bc) (by first|rfl|(simp only[firstArgMember];rfl)) ?_)
 refine bE ?_ (by size_fits)
 simp only[raiseNew]
 refine aa (wpAny_handled ?_)
 first|rw[show A.in1.handled=none from hh]|rw[hh]
 refine aa (am (wpAny_throw ?_))
 exact hE _ _ (((dJ.update ..).extBut.push _).push _) ⟨_,aH _ rfl,rfl⟩
end
theorem z0{prog:aF}{w:aS}{A:Around}{E:ae->af->Prop}{s:af}{z TI TO i1 i2 l1:Addr}{k:Nat}{xs:Array ae}{a b:ae}{Q:Fin->af->Prop}
  (hh:A.handled=none) (d:[z,TI,TO,i1,i2].Nodup) (hz:IsZip s.heap z TI TO .none) (hTI:dO s.heap TI (.ref i1) (.ref i2)) (hTO:dO s.heap TO a b)
  (h1:s.heap.IsTupleIter i1 l1 k) (t1:s.heap.IsTuple l1 xs) (n1:l1∉[z,TI,TO,i1,i2]) (hx:xs[k]? =none)
  (hE:∀(h':Heap) (e:Addr),(∀c o,c≠z->c≠TO->c≠i1->c≠i2->s.heap.get? c=some o->h'.get? c=some o)->(∃o,h'.get? e=some o/\o.cls= .type "StopIteration")->E (.ref e) {s with heap:=h'}):
  wpAny (aN prog w) A (bH.«zip.__next__» {pos:=[.ref z]}) Q E s:=by
 simp only[bp,aA,aP,or_false,not_or]at d n1
 obtain⟨⟨zTI,zTO,z1,z2⟩,⟨TITO,TI1,rL⟩,⟨TO1,TO2⟩,i12,_⟩:=d
 obtain⟨lz1,_,lO1,l11,l12⟩:=n1
 refine aa (show wpAny _ _ (pure (au z,([]:List ae))) _ _ _ from am ?_)
 refine aa (bu hz rfl rfl ?_)
 refine aa (bu hz rfl rfl ?_)
 refine aa (dD hTI rfl ?_)
 refine aa (aa (bu hz rfl rfl (am ?_)))
 simp only[if_true]
 refine aa (iy (aa (bu hz rfl rfl ?_)))
 refine aa (dZ hz (by simp) λh₁ hz₁ hs₁=> ?_)
 have hz1:IsZip h₁ z TI TO .ellipsis:=hz₁
 refine aa ?_
 simp only[List.zipIdx_cons,List.zipIdx_nil,kQ,List.forIn_nil]
 refine aa (aa (kC ?_))
 change wpAny _ _ (bind (bw (au i1)) λx=>pure (some x)) _ _ _
 refine aa (nu hh (h1.extBut hs₁.extBut (aG z1)) (t1.extBut hs₁.extBut lz1) hx λh₄ e sb4 he=> ?_)
 have hz4:IsZip h₄ z TI TO .ellipsis:=sb4 _ _ z1 hz1
 obtain⟨o,ho,hc⟩:=he
 refine dZ hz4 (by simp) λh₅ hz5 sb5=>hE h₅ e (λc u n1 n2 n3 n4 q=> ?_) ⟨o,sb5.extBut _ _ (λq=> ?_) ho,hc⟩
 ·exact sb5.extBut _ _ n1 (sb4 _ _ n3 (hs₁.extBut _ _ n1 q))
 ·subst q
  rw[show h₄.get? e=_ from hz4]at ho
  cases ho
  exact absurd (br.inj hc) (by decide)
theorem sD{prog:aF}{w:aS}{A:Around}{E:ae->af->Prop}{s:af}{z TI TO i1 i2 l1:Addr}{k:Nat}{xs:Array ae}{a b:ae}{Q:Option ae->af->Prop}
  (hh:A.handled=none) (d:[z,TI,TO,i1,i2].Nodup) (hz:IsZip s.heap z TI TO .none) (hTI:dO s.heap TI (.ref i1) (.ref i2)) (hTO:dO s.heap TO a b)
  (h1:s.heap.IsTupleIter i1 l1 k) (t1:s.heap.IsTuple l1 xs) (n1:l1∉[z,TI,TO,i1,i2]) (hx:xs[k]? =none)
  (hQ:∀h':Heap,(∀c o,c≠z->c≠TO->c≠i1->c≠i2->s.heap.get? c=some o->h'.get? c=some o)->Q none {s with heap:=h'}):
  wpAny (aN prog w) A (pyNext (.ref z)) Q E s:=by
 have hT:s.TypeIs (.ref z) "zip" :=⟨_,hz,rfl⟩
 exact aa (kE (cq hT gC (c9 gC hT F.entry_zip_next
  (z0 hh d hz hTI hTO h1 t1 n1 hx λh' e hk ⟨o,ho,hc⟩=>aa (wpAny_isInstance ⟨o,ho,hc⟩ isSubtype_stop (am (hQ h' hk)))) (qI (au z)))))
noncomputable def iM:List PV->List PV->List PV
 |x::xs,y::ys=> .tup [x,y]::iM xs ys
 |_,_=>[]
theorem nr:∀{xs ys:List PV} {i:Nat} {x y:PV},xs[i]? =some x->ys[i]? =some y->(iM xs ys)[i]? =some (.tup [x,y])
 |a::xs,b::ys,0,x,y,h,g=>by
  cases h;cases g;rfl
 |a::xs,b::ys,i+1,x,y,h,g=>by
  show(iM xs ys)[i]? =_
  exact nr (by simpa using h) (by simpa using g)
section
end
@[reducible] noncomputable def gF (kvs:List (Key×PV)) (k:Key):Option PV:=(kvs.find? λkv=>decide (kv.1=k)).map (·.2)
noncomputable def iY(kvs:List (Key×PV))(k:Key)(v:PV):List (Key×PV):=
 if(kvs.any λkv=>decide (kv.1=k))=true then kvs.map (λkv=>if kv.1=k then(kv.1,v)else kv)else kvs++[(k,v)]
@[reducible] noncomputable def sM:PV->Option Key
 | .int i=>some (.inl i)
 | .str x=>some (.inr x)
 |_=>none
noncomputable def kP:Key->PV
 | .inl i=> .int i
 | .inr x=> .str x
theorem sL{K:PySem.W.Frag}{H:Hp}{p:PV}{v:V}{k:Key}(h:sM p=some k)(d:Dv K H p v):v=kV k:=by
 cases p with
 |int i=>cases h;exact d
 |str x=>cases h;exact d
 |_=>cases h
theorem KZ{K:PySem.W.Frag}{H:Hp}(k:Key):Dv K H (kP k) (kV k):=by cases k<;>rfl
section
variable{K:PySem.W.Frag}{H:Hp}
theorem DKv.val:∀{ps:List (Key×PV)} {vs:List (Key×V)},DKv K H ps vs->∀k,(∀p,gF ps k=some p->∃v,oq vs k=some v/\Dv K H p v)/\(gF ps k=none->oq vs k=none)
 |[],vs,h,k=>by
  obtain rfl:vs=[]:=h
  exact⟨(λp e=>nomatch (show(none:Option PV)=some p from e)),λ_=>rfl⟩
 |(x,p)::ps,vs,h,k=>by
  obtain⟨v,r,rfl,d,z⟩:=h
  by_cases e:x=k
  ·have e1:gF ((x,p)::ps) k=some p:=by simp[gF,eA,e]
   rw[e1,lU (p:=(x,v)) e]
   exact⟨λq hq=>by cases hq;exact⟨v,rfl,d⟩,λh=>by cases h⟩
  ·have e1:gF ((x,p)::ps) k=gF ps k:=by simp[gF,eA,e]
   rw[e1,lV (p:=(x,v)) e]
   exact DKv.val z k
theorem DKv.any:∀{ps:List (Key×PV)} {vs:List (Key×V)},DKv K H ps vs->∀k,(ps.any λkv=>decide (kv.1=k))=(vs.any λkv=>decide (kv.1=k))
 |[],vs,h,k=>by obtain rfl:vs=[]:=h;rfl
 |(x,p)::ps,vs,h,k=>by
  obtain⟨v,r,rfl,d,z⟩:=h
  rw[cK,cK,DKv.any z k]
theorem DKv.map{k:Key}{q:PV}{u:V}(dq:Dv K H q u):∀{ps:List (Key×PV)} {vs:List (Key×V)},DKv K H ps vs->DKv K H (ps.map λkv=>if kv.1=k then(kv.1,q)else kv) (vs.map λkv=>if kv.1=k then(kv.1,u)else kv)
 |[],vs,h=>by obtain rfl:vs=[]:=h;rfl
 |(x,p)::ps,vs,h=>by
  obtain⟨v,r,rfl,d,z⟩:=h
  rw[aD,aD]
  by_cases e:x=k
  ·rw[if_pos e,if_pos e]
   exact⟨u,_,rfl,dq,DKv.map dq z⟩
  ·rw[if_neg e,if_neg e]
   exact⟨v,_,rfl,d,DKv.map dq z⟩
theorem DKv.snoc{k:Key}{q:PV}{u:V}(dq:Dv K H q u):∀{ps:List (Key×PV)} {vs:List (Key×V)},DKv K H ps vs->DKv K H (ps++[(k,q)]) (vs++[(k,u)])
 |[],vs,h=>by obtain rfl:vs=[]:=h;exact⟨u,[],rfl,dq,rfl⟩
 |(x,p)::ps,vs,h=>by
  obtain⟨v,r,rfl,d,z⟩:=h
  exact⟨v,_,rfl,d,DKv.snoc dq z⟩
theorem DKv.put{k:Key}{q:PV}{u:V}(dq:Dv K H q u){ps:List (Key×PV)}{vs:List (Key×V)}(h:DKv K H ps vs):DKv K H (iY ps k q) (jx vs k u):=by
 unfold iY jx
 rw[h.any k]
 split
 ·exact h.map dq
 ·exact h.snoc dq
theorem DKv.length:∀{ps:List (Key×PV)} {vs:List (Key×V)},DKv K H ps vs->vs.length=ps.length
 |[],vs,h=>by obtain rfl:vs=[]:=h;rfl
 |(x,p)::ps,vs,h=>by
  obtain⟨v,r,rfl,d,z⟩:=h
  rw[aX,aX,DKv.length z]
theorem Rep.dK{G:Gp}{a:Addr}{kvs:List (Key×PV)}(r:Rep K H G)(e:G a=some (.dK kvs)):∃vs,H a=some (.dK vs)/\DKv K H kvs vs:=r a _ e
theorem Rep.newD{G:Gp}{p:Addr}{vs:List (Key×V)}{ps:List (Key×PV)}(r:Rep K H G)(h:H p=Option.none)(d:DKv K H ps vs):Rep K (L2.upd H p (.dK vs)) (up G p (.dK ps)):=by
 refine r.upd (bK h) (λa o e ne=>by rw[aK ne]at e;exact e) λo e=> ?_
 rw[ao]at e;cases e
 exact⟨vs,cb,d.keep (bK h)⟩
theorem Rep.putD{G:Gp}{p:Addr}{vs vs0:List (Key×V)}{ps:List (Key×PV)}(r:Rep K H G)(h:H p=i9 (.dK vs0))(d:DKv K H ps vs):Rep K (L2.upd H p (.dK vs)) (up G p (.dK ps)):=by
 refine r.upd (kl h) (λa o e ne=>by rw[aK ne]at e;exact e) λo e=> ?_
 rw[ao]at e;cases e
 exact⟨vs,cb,d.keep (kl h)⟩
end
noncomputable abbrev LN:E2:=λ_ G Q=>∀p,G p=none->Q (.ref p) (up G p (.dK []))
noncomputable def DD:wU:=λo i v G Q=>match o with
 | .ref a=>match G a,sM i with
  |some (.dK kvs),some k=>kvs.length<16000000/\Q (up G a (.dK (iY kvs k v)))
  |_,_=>False
 |_=>False
theorem vV{a:Addr}{G:Gp}{q v:PV}{kvs:List (Key×PV)}{k:Key}{Q:Gp->Prop}(h:G a=some (.dK kvs))(hk:sM q=some k)(hl:kvs.length<16000000)(hq:Q (up G a (.dK (iY kvs k v)))):DD (.ref a) q v G Q:=by
 unfold DD
 simp only[h,hk]
 exact⟨hl,hq⟩
section
variable{X:Cx}{pos p:Pos}
theorem IJ:JE X (.Dict [] [] pos) LN:= .of A9 λσ H Q ⟨τ,G,Q2,rs,rp,q,cl⟩ p hp=>
 cl _ _ _ _ (q p (rp.none hp)) rfl (rp.newD hp rfl) (bK hp)
theorem xH(hu:X.A.units+200<fS):PSet X (sG X.K DD):=λpins s σ H o i v ov iv z Q I r1 r2 r3 q=>by
 obtain⟨po,pi,pv,G,Q2,d1,d2,d3,rp,q,cl⟩:=q
 unfold DD at q
 split at q
 ·rename_i a
  split at q
  ·rename_i kvs k eg ek
   obtain rfl:o= .ref a:=d1
   obtain rfl:=sL ek d2
   cases r1
   obtain⟨vs,hv,dv⟩:=rp.dK eg
   exact zJ (by ac_nf) I (DPut.k hv (by rw[dv.length,fC];ac_nf)) r2 r3 λs' I'=>⟨_,I',cl _ _ q.2 (rp.putD hv (dv.put d3)) (kl hv)⟩
  ·exact q.elim
 ·exact q.elim
end
section
end
noncomputable def rK:B2:=λp q G Q=>match p,q with
 | .tup [],.tup ys=>Q (.tup ys) G
 |p,q=>Da p q G Q
theorem mO{x y:Str}{G:Gp}{Q:K2}(hl:x.length+y.length<=16000000)(q:Q (.str (x++y)) G):rK (.str x) (.str y) G Q:=⟨hl,q⟩
theorem oZ{x y:Int}{G:Gp}{Q:K2}(q:Q (.int (x+y)) G):rK (.int x) (.int y) G Q:=q
section
variable{X:Cx}{a b:Expr}{ta tb:E2}{pos:Pos}
theorem HP:gW X (cx .Add) (fL X.K rK):=by
 intro pins s σ H x y v u Q I rx ry h
 obtain⟨p,q,G,Q2,d1,d2,rp,h,cl⟩:=h
 unfold rK at h
 split at h
 ·rename_i ys
  obtain⟨a,vs,rfl,sa,da⟩:=d1
  obtain⟨b,us,rfl,sb,db⟩:=d2
  obtain rfl:vs=[]:=da
  cases rx
  cases ry
  obtain⟨its,r1,p1,_⟩:=I.tuple sa
  obtain⟨its2,r2,p2,_⟩:=I.tuple sb
  obtain rfl:its=[]:=r1.nil_iff.mpr rfl
  obtain⟨⟨cls,dd,data,sl⟩,ho,hc,n,hd⟩:=id p1
  obtain⟨⟨cls2,dd2,data2,Dd⟩,ho2,hc2,n2,hd2⟩:=id p2
  simp only at hc hd hc2 hd2
  subst hc hd hc2 hd2
  exact PySem.concat_meets ⟨_,ho,rfl⟩ ⟨_,ho2,rfl⟩ PySem.noFill_tuple_add PySem.seq_tuple_add PySem.F.slot_tuple_add PySem.F.entry_tuple_add (PySem.F.args_tuple_add_2 _ _)
   (PyProof.Rows.tuple_addW0 a b _ _ n n2 dd dd2 sl Dd rfl) ⟨ho,ho2,.ref b,H,I,rfl,cl _ _ _ _ h ⟨b,us,rfl,sb,db⟩ rp .refl⟩
 ·exact F0 pins s σ H x y v u Q I rx ry ⟨p,q,G,Q2,d1,d2,rp,h,cl⟩
theorem EZ(ha:JE X a ta)(hb:JE X b tb):JE X (.BinOp a .Add b pos) (mz rK ta tb):=qD HP ha hb
end
end L3
namespace PySem
open PyProof.Rows (StrsAre)
section
end
end PySem
namespace L3
open PySem L2
section
end
end L3
namespace L2
open PySem PySem.Spec PyProof.Rows
theorem yB(h:Heap):∀S:List Addr,∃b:Heap,(∀a∈S,b.get? a=none)/\∀a,a∉S->b.get? a=h.get? a
 |[]=>⟨h,by simp,λ_ _=>rfl⟩
 |x::S=>by
  obtain⟨b,h1,h2⟩:=yB h S
  refine⟨b.update x λo=>{o with data:= .freed},λa ha=> ?_,λa ha=> ?_⟩
  ·by_cases e:x=a
   ·subst e
    cases hq:(b.update x λo=>{o with data:= .freed}).get? x with
    |none=>rfl
    |some o=>
     obtain⟨e1,e2⟩:=Heap.get?_some_iff.mp hq
     obtain⟨objs,l⟩:=b
     have e3:(objs.modify x λo=>{o with data:= .freed})[x]? =some o:=e1
     rw[Array.getElem?_modify,if_pos rfl]at e3
     cases hx:objs[x]? with
     |none=>rw[hx]at e3;cases e3
     |some u=>
      rw[hx]at e3
      cases e3
      cases e2
   ·rw[bY _ _ e]
    exact h1 a ((aA.mp ha).resolve_left (aG e))
  ·rw[bY _ _ λe=>ha (by simp[e])]
   exact h2 a λhm=>ha (by simp[hm])
theorem ko{h base b:Heap}:∀{l:List Env},h.FunFrames base l->(∀a∈km l,b.get? a=none)->h.FunFrames b l
 |[],_,_=>trivial
 |env::l,⟨hk,⟨L,o,hf,hn,ho,hd⟩,hr⟩,q=>by
  have e:km (env::l)=L::km l:=by unfold km;rw[cW,hf]
  rw[e]at q
  exact⟨hk,⟨L,o,hf,q L (by simp),ho,hd⟩,ko hr λa ha=>q a (by simp[ha])⟩
noncomputable def L6(h:Heap)(e T:Addr)(cls:ae):Prop:=∃oe vs oT ts,h.get? e=some oe/\oe.cls=cls/\oe.data= .fields vs/\vs[1]? =some (.ref T)/\T≠e/\h.get? T=some oT/\oT.data= .fields ts/\ts[3]? =some .none
noncomputable def vi(l:List Env)(e:Addr)(S:List Addr)(cls:ae)(h h':Heap):Prop:=
 (∃T,L6 h' e T cls/\(T∈S\/h.get? T=none))/\(∀b o,b∉km l->b≠e->b∉S->h.get? b=some o->h'.get? b=some o)/\∀b o,b∈km l->h.get? b=some o->∃sl,h'.get? b=some {o with slots:=sl}
section
variable{M:Model}{A:Around}{E:ae->af->Prop}{s:af}
theorem pQ{B base:Heap}{l:List Env}{e:Addr}{S:List Addr}{cls:ae}{h h':Heap}(b2:∀a,a∉e::(S++km l)->B.get? a=h.get? a)(hl:h.FunFrames base l)(x:Heap.Left B l e cls h h'):vi l e S cls h h':=by
 obtain⟨x1,x2,⟨oe,vs,T,oT,ts,h1,h2,h3,h4,h5,h6,h7,h8,h9⟩,x4⟩:=x
 refine⟨⟨T,⟨oe,vs,oT,ts,h1,h2,h3,h4,h6,h7,h8,h9⟩,?_⟩,λb o n1 n2 n3 q=>x1 b o ?_,λb o hb q=> ?_⟩
 ·by_cases hS:T∈S
  ·exact .inl hS
  ·refine .inr ?_
   rw[<-b2 T ?_]
   ·exact h5
   ·intro hm
    rcases aA.mp hm with e1|hm
    ·exact h6 e1
    ·rcases bj.mp hm with hm|hm
     ·exact hS hm
     ·obtain⟨_,o,ho,hnf⟩:=x2.mem hm
      rw[h7]at ho
      cases ho
      exact hnf ts h8
 ·rw[b2 b (by simp[n1,n2,n3])];exact q
 ·obtain⟨_,o',ho',hnf⟩:=hl.mem hb
  rw[q]at ho'
  cases ho'
  exact x4 b o q hnf
theorem wu{base:Heap}{env:Env}{outer:List Env}{e T:Addr}{cls:ae}{Q:Unit->af->Prop}
  (hfr:A.frames=some (env::outer)) (hl:s.heap.FunFrames base (env::outer)) (ht:L6 s.heap e T cls)
  (h:∀h',vi (env::outer) e [T] cls s.heap h'->Q () {s with heap:=h'}):wpAny M A (leaving env (.ref e)) Q E s:=by
 obtain⟨B,b1,b2⟩:=yB s.heap (e::([T]++km (env::outer)))
 obtain⟨oe,vs,oT,ts,h1,h2,h3,h4,h6,h7,h8,h9⟩:=ht
 obtain⟨L,_,hf,_⟩:=hl.2.1
 refine wpAny_leaving_next (base:=B) hfr (ko hl λa ha=>b1 a (by simp[ha])) hf ⟨oe,vs,T,oT,ts,h1,h2,h3,h4,b1 T (by simp),h6,h7,h8,h9⟩ (λb o q=> ?_) (b1 e (by simp)) λh' x=>h h' (pQ b2 hl x)
 by_cases hm:b∈e::([T]++km (env::outer))
 ·rw[b1 b hm]at q;cases q
 ·rw[<-b2 b hm];exact q
theorem uH{base:Heap}{env:Env}{outer:List Env}{e:Addr}{oe:Obj}{vs:Array ae}{Q:Unit->af->Prop}
  (hfr:A.frames=some (env::outer)) (hl:s.heap.FunFrames base (env::outer)) (he:s.heap.get? e=some oe) (hd:oe.data= .fields vs) (h1:vs[1]? =some .none)
  (h:∀h',vi (env::outer) e [] oe.cls s.heap h'->Q () {s with heap:=h'}):wpAny M A (leaving env (.ref e)) Q E s:=by
 obtain⟨B,b1,b2⟩:=yB s.heap (e::([]++km (env::outer)))
 obtain⟨L,_,hf,_⟩:=hl.2.1
 refine wpAny_leaving_first (base:=B) hfr (ko hl λa ha=>b1 a (by simp[ha])) hf he (λb o q=> ?_) (b1 e (by simp)) hd h1 λh' x=>h h' (pQ b2 hl x)
 by_cases hm:b∈e::([]++km (env::outer))
 ·rw[b1 b hm]at q;cases q
 ·rw[<-b2 b hm];exact q
end
noncomputable def mS(P:aF)(w:aS)(C:Addr):zY:=λouter H s E e s'=>∃x T H',e= .ref x/\L6 s'.heap x T (.ref C)/\s.heap.get? x=none/\s.heap.get? T=none/\H' x=none/\H' T=none/\s'.os=s.os/\kB s'.gens/\
 Un (km outer) [] H H' s.heap s'.heap/\HOk P w H' s'.heap/\E (.ref C) none H'
section
variable{X:Cx}{pins:List (Addr×Obj)}{σ:St}{H1:Hp}{s1:af}{x:Addr}{S:List Addr}{C:Addr}{h':Heap}{E:XK}
theorem uG(J:Inv X pins σ H1 s1)(hex:X.ex=[])(hloc:X.s₀.heap.get? X.env.locals=none)(hx:H1 x=none)(hx0:X.s₀.heap.get? x=none)(hS:∀t∈S,H1 t=none/\X.s₀.heap.get? t=none)
  (hL:vi X.stack x S (.ref C) s1.heap h') (hE:E (.ref C) none H1):mS X.prog X.w C X.outer X.H₀ X.s₀ E (.ref x) {s1 with heap:=h'}:=by
 obtain⟨⟨T,tr,hT⟩,k1,k2⟩:=hL
 have nst:∀b o,X.s₀.heap.get? b=some o->b∉X.fs->b∉km X.stack:=λb o q n hm=>by
  rcases aA.mp (J.stkSub b hm)with e|hm
  ·rw[e,hloc]at q;cases q
  ·exact n hm
 have nx:∀b o,X.s₀.heap.get? b=some o->b≠x:=λb o q e=>by rw[e,hx0]at q;cases q
 have nS:∀b o,X.s₀.heap.get? b=some o->b∉S:=λb o q hm=>by rw[(hS b hm).2]at q;cases q
 have go:∀b o o1,X.s₀.heap.get? b=some o->s1.heap.get? b=some o1->∃sl,h'.get? b=some {o1 with slots:=sl}:=λb o o1 q q1=>by
  by_cases hm:b∈km X.stack
  ·exact k2 b o1 hm q1
  ·exact⟨o1.slots,k1 b o1 hm (nx b o q) (nS b o q) q1⟩
 have hTn:H1 T=none/\X.s₀.heap.get? T=none:=by
  rcases hT with hT|hT
  ·exact hS T hT
  ·refine⟨J.hok.none_of hT,?_⟩
   cases q:X.s₀.heap.get? T with
   |none=>rfl
   |some o=>
    obtain⟨o',q'⟩:=J.base.there T o q (by rw[hex];simp)
    rw[hT]at q';cases q'
 refine⟨x,T,H1,rfl,tr,hx0,hTn.2,hx,hTn.1,J.os,J.bare,⟨λb o q n nf _=> ?_,λb o q n hb _=> ?_,λb o q n _=>J.base.free b o q n (by rw[hex];simp),λb o q _=> ?_,J.base.tups,J.base.frzs,J.base.tbls⟩,λa o e=> ?_,hE⟩
 ·exact k1 b o (nst b o q nf) (nx b o q) (nS b o q) (J.base.keep b o q n nf (by rw[hex];simp))
 ·obtain⟨sl,q1⟩:=J.base.slot b o q n hb (by rw[hex];simp)
  obtain⟨sl',q2⟩:=go b o _ q q1
  exact⟨sl',q2⟩
 ·obtain⟨o',q1⟩:=J.base.there b o q (by rw[hex];simp)
  obtain⟨sl',q2⟩:=go b o _ q q1
  exact⟨_,q2⟩
 ·have nn:∀b,(b=a\/H1 b=some (.own a))->H1 b≠none:=λb hb z=>by
   rcases hb with rfl|hb
   ·rw[e]at z;cases z
   ·rw[hb]at z;cases z
  exact(J.hok a o e).stay (λb u hb q=>k1 b u (λhm=>nn b hb (J.stkFree b hm)) (λz=>nn b hb (by rw[z];exact hx)) (λhm=>nn b hb (hS b hm).1) q) (λ_ q=>q) λ_ _ q=>q
end
section
variable{P:aF}{w:aS}{K:PySem.W.Frag}{mg:Str->Option ae}{base:Heap}{N:List Str}{qual:Str}{scope:e8}{f:Addr}{cdv:ae}{A:Around}{outer:List Env}{s:af}{H:Hp}{E:XK}{C:Addr}
theorem qU(h:Heap):h.get? h.objs.size=none:=by
 cases q:h.get? h.objs.size with
 |none=>rfl
 |some o=>exact absurd (aw q) (cL _)
theorem Ej:jq (mS P w C) (gB (mS P w C) P w K mg base N qual scope f cdv A outer s H E) E:=by
 rintro pins σ H1 s1 e s' I ⟨x,T,H',rfl,tr,nx,nT,hx,hT,os,bare,un,hok,hE⟩
 have J:=I.call' (ch:=[]) os un hok bare (λb z=>absurd z (by simp))
 have hn:∀a,s1.heap.get? a=none->s.heap.get? a=none:=λa q=>by
  cases q0:s.heap.get? a with
  |none=>rfl
  |some o=>
   obtain⟨o',q'⟩:=I.base.there a o q0 (by show a∉[];simp)
   rw[q]at q';cases q'
 refine wu (base:=base) J.ok.frames J.stack tr λh' hL=> ?_
 exact uG (X:=gB (mS P w C) P w K mg base N qual scope f cdv A outer s H E) J rfl (qU _) hx (hn x nx) (λt ht=>by cases aC.mp ht;exact⟨hT,hn _ nT⟩) hL hE
theorem DJ{pins:List (Addr×Obj)}{σ:St}{H1:Hp}{s1:af}{h':Heap}{x:Addr}{us:List ae}(I:Inv (gB (mS P w C) P w K mg base N qual scope f cdv A outer s H E) pins σ H1 s1)(m:Heap.MadeExcOf s1.heap h' x (.ref C) us)(hE:E (.ref C) none H1):
  (gB (mS P w C) P w K mg base N qual scope f cdv A outer s H E).xe (.ref x) {s1 with heap:=h'}:=by
 have J:=I.kept (t':=s1.toks) m.keeps
 have hn:s.heap.get? x=none:=by
  cases q0:s.heap.get? x with
  |none=>rfl
  |some o=>
   obtain⟨o',q'⟩:=I.base.there x o q0 (by show x∉[];simp)
   rw[m.new]at q';cases q'
 obtain⟨t,he,_,_⟩:=m.there
 refine uH (base:=base) J.ok.frames J.stack he rfl rfl λh'' hL=> ?_
 exact uG (X:=gB (mS P w C) P w K mg base N qual scope f cdv A outer s H E) J rfl (qU _) (I.hok.none_of m.new) hn (λt ht=>by cases ht) hL hE
theorem vM{h h':Heap}{bmB tl:List ae}(T:OwnTail h bmB tl)(k:∀b o,h.get? b=some o->h'.get? b=some o):OwnTail h' bmB tl:=by
 induction T with
 |base=>exact .base
 |own e n i _ ih=>exact .own (k _ _ e) (n.keeps k) i ih
noncomputable def GC(C:Addr)(t:TA)(E:XK):TS:=λ_ σ H=>t σ H λvs H1=>vs.length<=aJ/\E (.ref C) none H1
theorem AZ{xn:Str}{np cpos pos:Pos}{e:Expr}{es:List Expr}{t:TA}(q:PySem.W.excIn K C rD "ValueError.__new__" =true)
  (hg:Gl (gB (mS P w C) P w K mg base N qual scope f cdv A outer s H E) xn) (hm:mg xn=some (.ref C))
  (ha:PA (gB (mS P w C) P w K mg base N qual scope f cdv A outer s H E) (e::es) t) (hdb:(xn==("__debug__" :Str))=false:=by decide)
  (he:al (e::es) (gB (mS P w C) P w K mg base N qual scope f cdv A outer s H E).env=(false,eval e (gB (mS P w C) P w K mg base N qual scope f cdv A outer s H E).env)::al es (gB (mS P w C) P w K mg base N qual scope f cdv A outer s H E).env:=by rfl)
  (hpl:(bC cpos (al (e::es) (gB (mS P w C) P w K mg base N qual scope f cdv A outer s H E).env)).any (·.1)=false:=by rfl):
  PS (gB (mS P w C) P w K mg base N qual scope f cdv A outer s H E) (.Raise (some (.Call (.Name xn np) (e::es) [] cpos)) none pos) (GC C t E):=by
 intro pins s1 σ H1 D I h
 obtain⟨bm,ns,nm,qn,bs,hd,sn,sub,ab,col,dd,k0,k1,k2,k3,k5,mN,e1,e2,e3,e4⟩:=nK I.ok.mod.kin q
 refine wpAny_Raise_call_subT F.excBase_ValueError (C:=C) (bm:=bm) (nm:=nm) (q:=qn) (N:=ns) (bs:=bs) (hdct:=hd) (sn:=sn) (sub:=sub) (ab:=ab) (col:=col) (dd:=dd) (k0:=k0) (k1:=k1) (k2:=k2) (k3:=k3) (k5:=k5) (e4.hasType (by decide)) (I.ok.hd rfl) hpl e3 ?_
 refine mq I hg hm ⟨rfl,?_⟩ hdb
 have hz:=ha cpos pins s1 σ H1 _ I h
 rw[he]at hz⊢
 refine PySem.Calls.evalArgs_plain (aW hz (λus s2 h2=> ?_) λ_ _ z=>z)
 obtain⟨vs,H2,I2,r2,hl,hE⟩:=h2
 exact⟨rfl,by rw[<-r2.length];exact hl,I2.bk _ _ e1,e2.keeps I2.bk,vM e4 I2.bk,λh' x hmade=>DJ I2 hmade hE⟩
end
section
variable{M:Model}{A:Around}{E:ae->af->Prop}{s:af}
theorem Ex{base:Heap}{env:Env}{outer:List Env}{e T:Addr}{cls:ae}{Q:Unit->af->Prop}
  (hfr:A.frames=some (env::outer)) (hl:s.heap.FunFrames base (env::outer)) (ht:L6 s.heap e T cls)
  (h:∀h',vi (env::outer) e [T] cls s.heap h'->Q () {s with heap:=h'}):wpAny M A (noteFrame (.ref e) env) (λ_ s₂=>wpAny M A (setFlight (.ref e) none) Q E s₂) E s:=by
 obtain⟨B,b1,b2⟩:=yB s.heap (e::([T]++km (env::outer)))
 obtain⟨oe,vs,oT,ts,he,hcls,hd,h1,hTe,hT,hdT,h3⟩:=ht
 subst hcls
 obtain⟨L,_,hf,_⟩:=hl.2.1
 have hl':=ko (b:=B) hl λa ha=>b1 a (by simp[ha])
 have hkb:B.StaysIn s.heap:=λb o q=>by
  by_cases hm:b∈e::([T]++km (env::outer))
  ·rw[b1 b hm]at q;cases q
  ·rw[<-b2 b hm];exact q
 have hnT:B.get? T=none:=b1 T (by simp)
 unfold noteFrame
 simp only[hf]
 refine aa (bu he hd h1 ?_)
 rw[if_pos (show(au T !=bc)=true from by simp)]
 refine aa (bu hT hdT h3 ?_)
 rw[if_neg (show¬((bc==rawInt L)=true)from by simp[rawInt])]
 refine aa (oj hT hdT (iV.mp h3).1 ?_)
 have other:∀b,b≠T->(s.heap.update T (Obj.mapFields (·.setIfInBounds 3 bc))).get? b=s.heap.get? b:=λb hb=>bY _ _ (aG hb)
 have noRecord:∀b o,s.heap.get? b=some o->(∀vs,o.data≠ .fields vs)->b≠T:=λb o hb hnf q=>by
  rw[q,hT]at hb;injection hb with hb;subst hb;exact hnf ts hdT
 refine wpAny_newEntry (base:=B) hfr (hl'.of_keeps λb o hb hnf=>⟨o,(other b (noRecord b o hb hnf)).trans hb,rfl⟩) hf ((other e (aG hTe)).trans he)
  (λb o hbo=>(other b λq=>by rw[q,hnT]at hbo;cases hbo).trans (hkb b o hbo)) (b1 e (by simp)) hd (iV.mp h1).1
  λh' hPl=>by obtain⟨x1,x2,x3,x4⟩:=hPl;exact h h' (pQ b2 hl ⟨x1,x2,x3,λb o hb hnf=>x4 b o ((other b (noRecord b o hb hnf)).trans hb) hnf⟩)
theorem zH{e T:Addr}{cls:ae}{Q:Unit->af->Prop}(ht:L6 s.heap e T cls)
  (h:∀h',(∀b o,b≠T->s.heap.get? b=some o->h'.get? b=some o)->Q () {s with heap:=h'}):wpAny M A (setFlight (.ref e) none) Q E s:=by
 obtain⟨oe,vs,oT,ts,he,hcls,hd,h1,hTe,hT,hdT,h3⟩:=ht
 unfold setFlight
 refine aa (bu he hd h1 ?_)
 rw[if_pos (show(au T !=bc)=true from by simp)]
 exact oj hT hdT (iV.mp h3).1 (h _ λb o hb q=>by rw[bY _ _ (aG hb)];exact q)
end
theorem xa{fs:List Addr}{H H':Hp}{h h1 h2:Heap}{x:Addr}{S:List Addr}(u:Un fs [] H H' h h1)(hx:h.get? x=none)(hS:∀t∈S,h.get? t=none)
  (k1:∀b o,b∉fs->b≠x->b∉S->h1.get? b=some o->h2.get? b=some o) (k2:∀b o,b∈fs->b≠x->b∉S->h1.get? b=some o->∃sl,h2.get? b=some {o with slots:=sl}):Un fs [] H H' h h2:=by
 have nx:∀b o,h.get? b=some o->b≠x:=λb o q e=>by rw[e,hx]at q;cases q
 have nS:∀b o,h.get? b=some o->b∉S:=λb o q hm=>by rw[hS b hm]at q;cases q
 have go:∀b o o1,h.get? b=some o->h1.get? b=some o1->∃sl,h2.get? b=some {o1 with slots:=sl}:=λb o o1 q q1=>by
  by_cases hm:b∈fs
  ·exact k2 b o1 hm (nx b o q) (nS b o q) q1
  ·exact⟨o1.slots,k1 b o1 hm (nx b o q) (nS b o q) q1⟩
 refine⟨λb o q n nf nx'=>k1 b o nf (nx b o q) (nS b o q) (u.keep b o q n nf nx'),λb o q n hb nx'=> ?_,u.free,λb o q nx'=> ?_,u.tups,u.frzs,u.tbls⟩
 ·obtain⟨sl,q1⟩:=u.slot b o q n hb nx'
  obtain⟨sl',q2⟩:=go b o _ q q1
  exact⟨sl',q2⟩
 ·obtain⟨o',q1⟩:=u.there b o q nx'
  obtain⟨sl,q2⟩:=go b o _ q q1
  exact⟨_,q2⟩
theorem uT{P:aF}{w:aS}{H:Hp}{h1 h2:Heap}{x:Addr}{S fs:List Addr}(ok:HOk P w H h1)(hx:H x=none)(hS:∀t∈S,H t=none)(hf:∀b∈fs,H b=none)
  (k1:∀b o,b∉fs->b≠x->b∉S->h1.get? b=some o->h2.get? b=some o):HOk P w H h2:=λa o e=>by
 have nn:∀b,(b=a\/H b=some (.own a))->H b≠none:=λb hb z=>by
  rcases hb with rfl|hb
  ·rw[e]at z;cases z
  ·rw[hb]at z;cases z
 exact(ok a o e).stay (λb u hb q=>k1 b u (λhm=>nn b hb (hf b hm)) (λz=>nn b hb (by rw[z];exact hx)) (λhm=>nn b hb (hS b hm)) q) (λ_ q=>q) λ_ _ q=>q
section
end
end L2
namespace L3
open PySem L2 PySem.Spec PyProof.Rows
theorem EG{K:PySem.W.Frag}{H H':Hp}(t:∀b xs,H b=some (.tup xs)->H' b=some (.tup xs))(f:∀b o u,H b=some (.frz o u)->H' b=some (.frz o u)):Keep K H H':=
 ⟨λa xs h=>by
  rcases h with(h|⟨o,h⟩)|h
  ·exact .inl (.inl (t a xs h))
  ·exact .inl (.inr ⟨o,f a o _ h⟩)
  ·exact .inr h,f⟩
noncomputable abbrev vo:=List PV->Gp->K2->(Gp->Prop)->Prop
noncomputable def MQ(K:PySem.W.Frag)(C:Addr)(sp:vo):Sp:=λvs H Q E=>∃ps G Q2 EX,Dvs K H ps vs/\Rep K H G/\sp ps G Q2 EX/\Cl K H Q2 Q/\∀G' H',EX G'->Rep K H' G'->E (.ref C) none H'
noncomputable abbrev FC(P:aF)(w:aS)(K:PySem.W.Frag)(mg:Str->Option ae)(base:Heap)(C:Addr)(k:Nat)(f:Addr)(fd:aR)(ps:List Str)(sp:vo):Prop:=FnOk P w K mg base (mS P w C) k f fd ps (MQ K C sp)
structure jC(P:aF)(w:aS)(K:PySem.W.Frag)(mg:Str->Option ae)(base:Heap)(C:Addr)(k:Nat)(x:Str)(f:Addr)(fd:aR)(ps:List Str)(sp:vo):Prop where
 ok:FC P w K mg base C k f fd ps sp
 b:Binds K fd ps []
 kp:PySem.W.keepIn K (.ref f)=true
 m:mg x=some (.ref f)
noncomputable def XW(K:PySem.W.Frag)(C:Addr)(E:XK)(EX:Gp->Prop):Prop:=∀G' H',EX G'->Rep K H' G'->E (.ref C) none H'
section
variable{P:aF}{w:aS}{K:PySem.W.Frag}{mg:Str->Option ae}{base:Heap}{C:Addr}
theorem LC{x qual:Str}{st:Stmt}{f:Addr}{fd:aR}{N ps:List Str}{k:Nat}{sp:vo}(F:Fun K x qual st f fd)(S:bn N ps (aL st))(len:∀vs G Q EX,sp vs G Q EX->vs.length=ps.length)
  (hbody:∀(cdv:ae) (A:Around) (outer:List Env) (s:af) (H:Hp) (E:XK) (as:List PV) (G:Gp) (Q:K2) (EX:Gp->Prop),Room k (A.deeper (jE qual (aL st) s.heap.objs.size f cdv))->sp as G Q EX->XW K C E EX->
   ∃t,JB (gB (mS P w C) P w K mg base N qual (aL st) f cdv A outer s H E) (gO st) t/\t {nx:=λ_ G'=>∃G0,GE G0 G'/\Q .non G0,rt:=λp G'=>∃G0,GE G0 G'/\Q p G0} (gH N as) G):FC P w K mg base C (k+1) f fd ps sp:=by
 obtain⟨oc,od,kV,doc,pm,an,cdv,ct,osl,rfl,lk,hcd⟩:=F.ex
 refine Gf lk hcd S (λvs H Q E h=> ?_) (λA outer s H vs Q E hr h=> ?_)
 ·obtain⟨as,G,Q2,EX,d,_,h,_,_⟩:=h
  rw[d.length];exact len _ _ _ _ h
 obtain⟨as,G,Q2,EX,d,rp,h,cl,hx⟩:=h
 obtain⟨t,j,q⟩:=hbody cdv A outer s H E as G Q2 EX hr h hx
 refine⟨_,j.h,gH N as,G,_,na d (by rw[len _ _ _ _ h,<-S.pre,bz];ac_nf),rp,q,⟨λτ G' σ H' ⟨G0,e0,q1⟩ _ r1 k1=>cl _ _ _ _ q1 rfl (r1.sub e0) k1,λp G' v H' ⟨G0,e0,q1⟩ d1 r1 k1=>cl _ _ _ _ q1 d1 (r1.sub e0) k1,λ_ _ _ _ q1=>q1.elim,λ_ _ _ _ q1=>q1.elim⟩⟩
variable{N:List Str}{qual:Str}{scope:e8}{f:Addr}{cdv:ae}{A:Around}{outer:List Env}{s:af}{H:Hp}{E:XK}{EX:Gp->Prop}
noncomputable abbrev GT(t:A2)(EX:Gp->Prop):S2:=λ_ τ G=>t τ G λps G1=>ps.length<=1000/\EX G1
theorem BV{xn:Str}{np cpos pos:Pos}{e:Expr}{es:List Expr}{t:A2}(hX:XW K C E EX)(q:PySem.W.excIn K C rD "ValueError.__new__" =true)(hm:mg xn=some (.ref C))
  (ha:JA (gB (mS P w C) P w K mg base N qual scope f cdv A outer s H E) (e::es) t) (hg:Gl (gB (mS P w C) P w K mg base N qual scope f cdv A outer s H E) xn:=by rfl) (hdb:(xn==("__debug__" :Str))=false:=by decide)
  (he:al (e::es) (gB (mS P w C) P w K mg base N qual scope f cdv A outer s H E).env=(false,eval e (gB (mS P w C) P w K mg base N qual scope f cdv A outer s H E).env)::al es (gB (mS P w C) P w K mg base N qual scope f cdv A outer s H E).env:=by rfl)
  (hpl:(bC cpos (al (e::es) (gB (mS P w C) P w K mg base N qual scope f cdv A outer s H E).env)).any (·.1)=false:=by rfl):
  JS (gB (mS P w C) P w K mg base N qual scope f cdv A outer s H E) (.Raise (some (.Call (.Name xn np) (e::es) [] cpos)) none pos) (GT t EX):=⟨λpins s1 σ H1 D I h=>by
 obtain⟨τ,G,D2,rs,rp,q2,_⟩:=h
 refine AZ q hg hm ha.h hdb he hpl pins s1 σ H1 D I ⟨τ,G,_,rs,rp,q2,λps G1 vs H2 q3 d3 r3 k3=> ?_⟩
 have hz:vs.length=ps.length:=d3.length
 exact⟨by rw[hz];exact aZ q3.1 (by decide),hX _ _ q3.2 r3⟩⟩
noncomputable abbrev Jd(sp:vo)(EX:Gp->Prop)(t:A2):E2:=λτ G Q=>t τ G λps G1=>sp ps G1 Q EX
end
section
end
section
variable{K:PySem.W.Frag}{H:Hp}{G:Gp}{p C dx:Addr}
theorem mB:∀{fs:List (Str×PV)} {vs:List (Str×V)} {f:Str} {q:PV},DFv K H fs vs->fs.lookup f=some q->∃v,vs.lookup f=some v/\Dv K H q v
 |[],_,_,_,_,e=>by cases e
 |(k,q0)::fs,vs,f,q,h,e=>by
  obtain⟨v,r,rfl,d,z⟩:=h
  rw[eR]at e⊢
  cases hk:(f==k)with
  |true=>rw[hk]at e;cases e;exact⟨v,rfl,d⟩
  |false=>rw[hk]at e;exact mB z e
theorem qd:∀{fs:List (Str×PV)} {vs:List (Str×V)} {f:Str},DFv K H fs vs->fs.lookup f=none->vs.lookup f=none
 |[],_,_,h,_=>by rw[show _=[]from h];rfl
 |(k,q0)::fs,vs,f,h,e=>by
  obtain⟨v,r,rfl,d,z⟩:=h
  rw[eR]at e⊢
  cases hk:(f==k)with
  |true=>rw[hk]at e;cases e
  |false=>rw[hk]at e;exact qd z e
theorem oX:∀{fs:List (Str×PV)} {vs:List (Str×V)},DFv K H fs vs->vs.length=fs.length
 |[],_,h=>by rw[show _=[]from h];rfl
 |(k,q0)::fs,vs,h=>by
  obtain⟨v,r,rfl,d,z⟩:=h
  rw[aX,aX,oX z]
theorem j3{vs:List (Str×V)}{o:HO}(h:H p=some (.ins C dx vs)):Keep K H (L2.upd H p o):=mr (λxs q=>by rcases q with q|⟨_,q⟩<;>(rw[h]at q;cases q)) λo u q=>by rw[h]at q;cases q
theorem Rep.putI{vs vs0:List (Str×V)}{fs:List (Str×PV)}(r:Rep K H G)(h:H p=some (.ins C dx vs0))(d:DFv K H fs vs):Rep K (L2.upd H p (.ins C dx vs)) (up G p (.ins C dx fs)):=by
 refine r.upd (j3 h) (λa o e ne=>by rw[aK ne]at e;exact e) λo e=> ?_
 rw[ao]at e;cases e
 exact⟨vs,cb,DFv.keep (j3 h) _ d⟩
end
noncomputable def Fe(C:Addr)(f:Str)(x:PV)(G:Gp)(Q:K2):Prop:=match x with
 | .ref a=>match G a with
  |some (.ins C' _ fs)=>C'=C/\match fs.lookup f with
   |some q=>Q q G
   |none=>False
  |_=>False
 |_=>False
theorem cu{C a dx:Addr}{f:Str}{G:Gp}{Q:K2}{fs:List (Str×PV)}{q:PV}(h:G a=some (.ins C dx fs))(e:fs.lookup f=some q)(hq:Q q G):Fe C f (.ref a) G Q:=by
 unfold Fe;simp only[h,e];exact⟨trivial,hq⟩
noncomputable abbrev LL(C:Addr)(t:E2)(f:Str):E2:=λτ G Q=>t τ G λx G1=>Fe C f x G1 Q
theorem Gd{X:Cx}{C:Addr}{e:Expr}{f:Str}{t:E2}{pos:Pos}(c:Cls X.K C)(n:NoAttr X.K C f)(he:JE X e t)(hb:bL e f X.env (eval e X.env)=eval e X.env:=by rfl):JE X (.Attribute e f pos) (LL C t f):=
 .of (Ht he.h hb) λσ H Q hPl=>by
  obtain⟨τ,G,Q2,rs,rp,q,cl⟩:=hPl
  refine⟨τ,G,_,rs,rp,q,λp G1 v H1 q1 d1 r1 k1=> ?_⟩
  unfold Fe at q1
  split at q1
  ·rename_i a
   split at q1
   ·rename_i C' dx fs hG
    obtain⟨rfl,q1⟩:=q1
    split at q1
    ·rename_i y hl
     obtain rfl:v= .ref a:=d1
     obtain⟨vs,hH,df⟩:=r1 a _ hG
     obtain⟨w',hw,dw⟩:=mB df hl
     exact⟨a,_,dx,vs,w',rfl,hH,c,n,hw,cl _ _ _ _ q1 dw r1 k1⟩
    ·exact q1.elim
   ·exact q1.elim
  ·exact q1.elim
noncomputable def jU(f:Str)(v:PV):List (Str×PV)->List (Str×PV)
 |[]=>[(f,v)]
 |(g,x)::r=>if g=f then(g,v)::r else(g,x)::jU f v r
theorem oW{K:PySem.W.Frag}{H:Hp}{f:Str}{q:PV}{v:V}(d:Dv K H q v):∀{fs:List (Str×PV)} {vs:List (Str×V)},DFv K H fs vs->DFv K H (jU f q fs) (iA f v vs)
 |[],_,h=>by rw[show _=[]from h];exact⟨v,[],rfl,d,rfl⟩
 |(k,q0)::fs,vs,h=>by
  obtain⟨v0,r,rfl,d0,z⟩:=h
  unfold jU iA
  by_cases hk:k=f
  ·rw[if_pos hk,if_pos hk];exact⟨v,r,rfl,d,z⟩
  ·rw[if_neg hk,if_neg hk];exact⟨v0,_,rfl,d0,oW d z⟩
noncomputable def xI(C:Addr)(f:Str)(x y:PV)(G:Gp)(Q:Gp->Prop):Prop:=match x with
 | .ref a=>match G a with
  |some (.ins C' dx fs)=>C'=C/\fs.length<1000/\Q (up G a (.ins C dx (jU f y fs)))
  |_=>False
 |_=>False
theorem jS{C a dx:Addr}{f:Str}{G:Gp}{Q:Gp->Prop}{fs:List (Str×PV)}{y:PV}(h:G a=some (.ins C dx fs))(hl:fs.length<1000)(hq:Q (up G a (.ins C dx (jU f y fs)))):xI C f (.ref a) y G Q:=by
 unfold xI;simp only[h];exact⟨trivial,hl,hq⟩
noncomputable abbrev Kg(C:Addr)(ta tv:E2)(f:Str):S2:=λD τ G=>tv τ G λy G1=>ta τ G1 λx G2=>xI C f x y G2 λG3=>D.nx τ G3
theorem Ih{X:Cx}{C:Addr}{o value:Expr}{f:Str}{ta tv:E2}{pos pos':Pos}(c:Cls X.K C)(n:NoAttr X.K C f)(ha:JE X o ta)(hv:JE X value tv)(hs:eN value (some (.Attribute o f pos')) pos.line X.env=pure false:=by rfl):
  JS X (.Assign [.Attribute o f pos'] value pos) (Kg C ta tv f):= .of (Hf ha.h hv.h hs) λD σ H ⟨τ,G,D2,rs,rp,q,cl⟩=>by
 refine⟨τ,G,_,rs,rp,q,λy G1 v H1 q1 d1 r1 k1=>⟨τ,G1,_,rs.keep k1,r1,q1,λx G2 u H2 q2 d2 r2 k2=> ?_⟩⟩
 unfold xI at q2
 split at q2
 ·rename_i a
  split at q2
  ·rename_i C' dx fs hG
   obtain⟨rfl,hl,q2⟩:=q2
   obtain rfl:u= .ref a:=d2
   obtain⟨vs,hH,df⟩:=r2 a _ hG
   have kk:Keep X.K H2 (L2.upd H2 a (.ins C' dx (iA f v vs))):=j3 hH
   refine⟨a,_,dx,vs,rfl,hH,c,n,by rw[oX df];exact hl,cl.nx _ _ _ _ q2 (rs.keep ((k1.trans k2).trans kk)) (r2.putI hH (oW (d1.keep k2) df)) ((k1.trans k2).trans kk)⟩
  ·exact q2.elim
 ·exact q2.elim
noncomputable def yK(C:Addr)(f:Str)(x:PV)(tv:E2)(τ:jc)(G:Gp)(Q:Gp->Prop):Prop:=match x with
 | .ref a=>match G a with
  |some (.ins C' _ fs)=>C'=C/\match fs.lookup f with
   |some (.int i)=>tv τ G λy G1=>match y with
    | .int j=>match G1 a with
     |some (.ins C'' dx' fs')=>C''=C/\fs'.length<1000/\Q (up G1 a (.ins C dx' (jU f (.int (i+j)) fs')))
     |_=>False
    |_=>False
   |_=>False
  |_=>False
 |_=>False
noncomputable abbrev um(C:Addr)(ta tv:E2)(f:Str):S2:=λD τ G=>ta τ G λx G1=>yK C f x tv τ G1 λG3=>D.nx τ G3
theorem rh{X:Cx}{C:Addr}{o value:Expr}{f:Str}{ta tv:E2}{pos tpos:Pos}(c:Cls X.K C)(n:NoAttr X.K C f)(ha:JE X o ta)(hv:JE X value tv):
  JS X (.AugAssign (.Attribute o f tpos) .Add value pos) (um C ta tv f):= .of (qZ ha.h hv.h IW) λD σ H ⟨τ,G,D2,rs,rp,q,cl⟩=>by
 refine⟨τ,G,_,rs,rp,q,λx G1 u H1 q1 d1 r1 k1=> ?_⟩
 unfold yK at q1
 split at q1
 ·rename_i a
  split at q1
  ·rename_i C' dx fs hG
   obtain⟨rfl,q1⟩:=q1
   split at q1
   ·rename_i i hl
    obtain rfl:u= .ref a:=d1
    obtain⟨vs,hH,df⟩:=r1 a _ hG
    obtain⟨w',hw,dw⟩:=mB df hl
    obtain rfl:w'= .int i:=dw
    refine⟨a,_,dx,vs,_,rfl,hH,c,n,hw,τ,G1,_,rs.keep k1,r1,q1,λy G2 v H2 q2 d2 r2 k2=> ?_⟩
    split at q2
    ·rename_i j
     split at q2
     ·rename_i C'' dx' fs' hG2
      obtain⟨rfl,hl2,q2⟩:=q2
      obtain rfl:v= .int j:=d2
      obtain⟨vs2,hH2,df2⟩:=r2 a _ hG2
      have kk:Keep X.K H2 (L2.upd H2 a (.ins C'' dx' (iA f (.int (i+j)) vs2))):=j3 hH2
      exact⟨i,j,rfl,rfl,dx',vs2,hH2,by rw[oX df2];exact hl2,cl.nx _ _ _ _ q2 (rs.keep ((k1.trans k2).trans kk)) (r2.putI hH2 (oW (q:= .int (i+j)) rfl df2)) ((k1.trans k2).trans kk)⟩
     ·exact q2.elim
    ·exact q2.elim
   ·exact q1.elim
  ·exact q1.elim
 ·exact q1.elim
noncomputable def isI(C:Addr)(m:Str)(x:PV)(G:Gp):Prop:=∃a dx fs,x= .ref a/\G a=some (.ins C dx fs)/\fs.lookup m=none
structure MetX(P:aF)(w:aS)(K:PySem.W.Frag)(mg:Str->Option ae)(base:Heap)(D C:Addr)(k:Nat)(m:Str)(f:Addr)(fd:aR)(ps:List Str)(sp:vo):Prop where
 ok:FC P w K mg base D k f fd ps sp
 b:Binds K fd ps []
 c:Cls K C
 m:ir K C m f
structure er(P:aF)(w:aS)(K:PySem.W.Frag)(mg:Str->Option ae)(base:Heap)(C:Addr)(k:Nat)(m:Str)(f:Addr)(fd:aR)(ps:List Str)(sp:gP):Prop where
 ok:ic P w K mg base k f fd ps sp
 b:Binds K fd ps []
 c:Cls K C
 m:ir K C m f
noncomputable abbrev LJ(C:Addr)(m:Str)(sp:gP)(to:E2)(t:A2):E2:=λτ G Q=>to τ G λx G1=>isI C m x G1/\t τ G1 λps G2=>sp (x::ps) G2 Q
section
end
section
variable{X:Cx}{C:Addr}{k k':Nat}{m x:Str}{f':Addr}{fd:aR}{ps:List Str}{o e:Expr}{es:List Expr}{to:E2}{t:A2}{pos apos p:Pos}{pl:Sem Bool}
theorem ID{sp:gP}(M:er X.prog X.w X.K X.mg X.base C k m f' fd ps sp)(hr:Room k' X.A)(hk:k<=k')(ho:JE X o to)
  (ht:eval (.Call (.Attribute o m apos) [] [] pos) X.env=(do
   let ov <-eval o X.env
   standAt apos.atName
   let(fv,first) <-holding [ov] (getMethod ov m pl)
   callWith pos fv first (bC pos (al [] X.env)) (gJ pos (dW [] X.env))):=by rfl):
  JE X (.Call (.Attribute o m apos) [] [] pos) (λτ G Q=>to τ G λx G1=>isI C m x G1/\sp [x] G1 Q):=
 .of (A6 (pl:=pl) ho.h M.c M.m (M.ok.mono hk) hr M.b .nil yh ht) λσ H1 Q q=>by
  obtain⟨τ,G,Q2,rs,rp,q,cl⟩:=q
  refine⟨τ,G,_,rs,rp,q,λx G1 v H2 q1 d1 r1 k1=> ?_⟩
  obtain⟨⟨a,dx,fs,rfl,hG,hl⟩,q1⟩:=q1
  obtain rfl:v= .ref a:=d1
  obtain⟨vs,hH,df⟩:=r1 a _ hG
  exact⟨a,dx,vs,rfl,hH,qd df hl,[.ref a],G1,Q2,⟨.ref a,[],rfl,rfl,rfl⟩,r1,q1,cl.keep k1⟩
noncomputable abbrev Gk(C:Addr)(sp:gP)(t:A2):E2:=λτ G Q=>t τ G λps G1=>∀x dx,G1 x=none->G1 dx=none->dx≠x->sp (.ref x::ps) (up G1 x (.ins C dx [])) λv G2=>v= .non/\Q (.ref x) G2
theorem B4{sp:gP}(M:Mk X.K C f')(ok:ic X.prog X.w X.K X.mg X.base k f' fd ps sp)(hb:Binds X.K fd ps [])(hr:Room k' X.A)(hk:k+1<=k')(hm:X.mg x=some (.ref C))(ha:JA X (e::es) t)(hg:Gl X x:=by rfl)
  (hdb:(x==("__debug__" :Str))=false:=by decide) (he:al (e::es) X.env=(false,eval e X.env)::al es X.env:=by rfl) (hpl:(bC pos (al es X.env)).any (·.1)=false:=by rfl):
  JE X (.Call (.Name x p) (e::es) [] pos) (Gk C sp t):= .of (Ea M ok (hr.mono hk) hg hm hb .nil yh ha.h hdb he hpl) λσ H Q q=>by
 obtain⟨τ,G,Q2,rs,rp,q,cl⟩:=q
 refine⟨τ,G,_,rs,rp,q,λps G1 vs H1 q1 d1 r1 k1=>λa dx ha hdx ne=> ?_⟩
 have k2:Keep X.K H1 (L2.upd H1 dx (.own a)):=bK hdx
 have ha':L2.upd H1 dx (.own a) a=none:=by rw[bo (aG ne)];exact ha
 have k3:Keep X.K (L2.upd H1 dx (.own a)) (L2.upd (L2.upd H1 dx (.own a)) a (.ins C dx [])):=bK ha'
 have rp2:Rep X.K (L2.upd H1 dx (.own a)) G1:=r1.upd k2 (λ_ _ e _=>e) λo e=>by rw[r1.none hdx]at e;cases e
 have rp3:Rep X.K (L2.upd (L2.upd H1 dx (.own a)) a (.ins C dx [])) (up G1 a (.ins C dx [])):=by
  refine rp2.upd k3 (λb o e ne=>by rw[aK ne]at e;exact e) λo e=> ?_
  rw[ao]at e;cases e
  exact⟨[],cb,rfl⟩
 show FJ X.K sp (.ref a::(vs++[])) _ _ _
 rw[bI]
 refine⟨.ref a::ps,_,_,⟨.ref a,vs,rfl,rfl,d1.keep (k2.trans k3)⟩,rp3,q1 a dx (r1.none ha) (r1.none hdx) ne,λv G2 u H2 q2 d2 r2 k4=> ?_⟩
 obtain⟨rfl,q2⟩:=q2
 exact⟨d2,cl _ _ _ _ q2 rfl r2 (((k1.trans k2).trans k3).trans k4)⟩
end
end L3
namespace L2
open PySem PySem.Spec PyProof.Rows
section
end
section
end
section
end
end L2
namespace L3
open PySem L2 PySem.Spec PyProof.Rows
section
end
section
end
section
variable{X:Cx}{D:Addr}{k k':Nat}{x:Str}{f':Addr}{fd:aR}{ps:List Str}{sp:vo}{e:Expr}{es:List Expr}{t:A2}{pos p:Pos}{E:XK}{EX:Gp->Prop}
theorem IK(hp:jq (mS X.prog X.w D) X E)(hX:XW X.K D E EX)(Cl:jC X.prog X.w X.K X.mg X.base D k x f' fd ps sp)(hr:Room k' X.A)(hk:k<=k')
  (ha:JA X (e::es) t) (hg:Gl X x:=by rfl) (hdb:(x==("__debug__" :Str))=false:=by decide)
  (he:al (e::es) X.env=(false,eval e X.env)::al es X.env:=by rfl) (hpl:(bC pos (al es X.env)).any (·.1)=false:=by rfl):
  JE X (.Call (.Name x p) (e::es) [] pos) (Jd sp EX t):=
 .of (yg (Cl.ok.mono hk) hr hg Cl.m Cl.kp Cl.b .nil hp ha.h hdb he hpl) λσ H1 Q q=>by
  obtain⟨τ,G,Q2,rs,rp,q,cl⟩:=q
  refine⟨τ,G,_,rs,rp,q,λps G1 vs H2 q1 d1 r1 k1=> ?_⟩
  show MQ X.K D sp (vs++[]) H2 Q E
  rw[bI]
  exact⟨ps,G1,Q2,EX,d1,r1,q1,cl.keep k1,hX⟩
end
end L3
namespace L2
open PySem PySem.Spec PyProof.Rows
theorem pc{prog:aF}{w:aS}{A:Around}{E:ae->af->Prop}{s:af}{t:Addr}{items:Array ae}{Q:Bool->af->Prop}(ht:IsTup s.heap t items)(h:Q true s):wpAny (aN prog w) A (nR (.ref t)) Q E s:=by
 unfold nR
 exact aa (je ht.typeIs (am h))
theorem kF{prog:aF}{w:aS}{A:Around}{E:ae->af->Prop}{s:af}{t sl:Addr}{items:Array ae}{vl vu:ae}{lo hi:Option Int}{Q:ae->af->Prop}(ht:IsTup s.heap t items)(hs:s.heap.IsSliceOf sl vl vu .none)(pl:IsPart vl lo)(pu:IsPart vu hi)
  (hw:HT.sIx items.size 0 lo=0/\HT.sIx items.size items.size hi=items.size) (h:Q (.ref t) s):wpAny (aN prog w) A (ii (.ref t) (.ref sl)) Q E s:=by
 obtain⟨os,hos,hcs,hds⟩:=id hs
 have hTs:s.TypeIs (.ref sl) "slice" :=⟨os,hos,hcs⟩
 unfold ii
 try with_reducible refine cH ?_
 first|refine aa (am ?_)|skip
 refine aa (rT ht.typeIs (by decide) ?_)
 refine aa (cq (name:=aY "__getitem__") ht.typeIs bf
  (c9 bf ht.typeIs qa ?_ (qF _ _)))
 show wpAny _ _ (hZ (.ref t)>>=_) _ _ s
 refine aa (tupleItemsOf_ ht ?_)
 refine aa (je hTs ?_)
 rw[if_pos (by decide)]
 refine aa (HT.sliceApplied_gen hs pl pu ?_)
 have hyes:(((HT.sIx items.size 0 lo:Nat):Int)==0&&(1:Int)==1&&(HT.sIx items.size items.size hi-HT.sIx items.size 0 lo)==items.size)=true:=by
  rw[hw.1,hw.2];simp
 show wpAny _ _ (if(((HT.sIx items.size 0 lo:Nat):Int)==0&&(1:Int)==1&&(HT.sIx items.size items.size hi-HT.sIx items.size 0 lo)==items.size)=true then _ else _) _ _ s
 rw[if_pos hyes]
 refine aa (pc ht ?_)
 rw[if_pos rfl]
 first
  |exact aa (iy (am ⟨_,rfl,am h⟩))
  |exact aa (aa (iy (am ⟨_,rfl,am h⟩)))
  |exact aa (iy ⟨_,rfl,am h⟩)
noncomputable def M5(K:PySem.W.Frag):V->Option Int->Option Int->Hp->VK->Prop:=λx lo hi H Q=>∃a xs,x= .ref a/\SqT K H a xs/\(HT.sIx xs.length 0 lo=0/\HT.sIx xs.length xs.length hi=xs.length)/\Q (.ref a) H
theorem Ax{X:Cx}:Jr X (M5 X.K):=by
 intro pins s σ H x v vl vu lo hi sl Q I rx hs pl pu h
 obtain⟨a,xs,rfl,hx,hw,q⟩:=h
 cases rx
 obtain⟨its,r,ht,hz⟩:=I.tuple hx
 have hlen:its.toArray.size=xs.length:=by rw[ap];exact r.length.symm
 refine⟨"tuple",_,bf.lookup,ht.typeIs,?_⟩
 exact kF ht hs pl pu (by rw[hlen];exact hw) ⟨.ref a,H,I,rfl,q⟩
end L2
namespace L3
open PySem L2 PySem.Spec PyProof.Rows
noncomputable def GN:PV->Option Int->Option Int->Gp->K2->Prop:=λp lo hi G Q=>match p with
 | .tup xs=>Q (.tup (sY xs lo hi)) G
 | .str z=>z.length<=16000000/\Q (.str (fD z lo hi)) G
 |_=>False
noncomputable abbrev LH(te:E2)(tl th:O2):E2:=λτ G Q=>te τ G λx G1=>tl τ G1 λl G2=>th τ G2 λu G3=>GN x l u G3 Q
section
variable{X:Cx}{e:Expr}{te:E2}{lo hi:Option Expr}{tl th:O2}{pos p2:Pos}
theorem GR:Jr X (Gb X.K GN):=by
 intro pins s σ H x v vl vu lo hi sl Q I rx hs pl pu h
 obtain⟨p,G,Q2,d,rp,h,cl⟩:=h
 unfold GN at h
 split at h
 ·rename_i xs
  by_cases hw:HT.sIx xs.length 0 lo=0/\HT.sIx xs.length xs.length hi=xs.length
  ·have e:sY xs lo hi=xs:=by
    unfold sY
    rw[hw.1,hw.2]
    simp
   rw[e]at h
   have d0:=d
   obtain⟨a,vs,rfl,sa,da⟩:=d
   exact Ax pins s σ H _ v vl vu lo hi sl Q I rx hs pl pu ⟨a,vs,rfl,sa,by rw[da.length];exact hw,cl _ _ _ _ h d0 rp .refl⟩
  ·exact AK pins s σ H x v vl vu lo hi sl Q I rx hs pl pu ⟨.tup xs,G,Q2,d,rp,⟨hw,h⟩,cl⟩
 ·rename_i z
  exact AK pins s σ H x v vl vu lo hi sl Q I rx hs pl pu ⟨.str z,G,Q2,d,rp,h,cl⟩
 ·exact h.elim
theorem B3(he:JE X e te)(hl:JO X lo tl)(hu:JO X hi th):JE X (.Subscript e (.Slice lo hi none p2) pos) (LH te tl th):= .of (uw GR he.h hl.h hu.h) λσ H Q hPl=>by
 obtain⟨τ,G,Q2,rs,rp,q,cl⟩:=hPl
 refine⟨τ,G,_,rs,rp,q,λp G1 v H1 q1 d1 r1 k1=>⟨τ,G1,_,rs.keep k1,r1,q1,λl G2 H2 q2 r2 k2=>⟨τ,G2,_,rs.keep (k1.trans k2),r2,q2,λu G3 H3 q3 r3 k3=> ?_⟩⟩⟩
 exact⟨p,G3,Q2,d1.keep (k2.trans k3),r3,q3,cl.keep ((k1.trans k2).trans k3)⟩
end
end L3
namespace L3
open PySem L2
inductive kI:Prop
 |mk
section
variable{X:Cx}{a b e:Expr}{ta tb te:E2}{pos pos' p2:Pos}{x:Str}{i:Nat}{lo hi:Option Expr}{tl th:O2}
theorem jaE(u:kI)(ha:JE X a ta)(hb:JE X b tb):JE X (.BinOp a .Add b pos) (mz rK ta tb):=EZ ha hb
theorem jsE(u:kI)(he:JE X e te)(hl:JO X lo tl)(hu:JO X hi th):JE X (.Subscript e (.Slice lo hi none p2) pos) (LH te tl th):=B3 he hl hu
theorem zV(i:Nat)(he:JE X e ta)(hN:X.N.Nodup)(hi:X.N[i]? =some x:=by rfl)(hx:Df X.env.scope x:=by first|exact iJ rfl|exact ik rfl)(hs:eN e (some (.Name x pos')) pos.line X.env=pure false:=by rfl)
  (hf:X.fn x=true\/X.env.scope.names.lookup x=some .local:=by first|exact .inl rfl|exact .inr rfl):JS X (.Assign [.Name x pos'] e pos) (DG ta (gN i)):=Ie he hN hi hx hs hf
theorem zW(i:Nat)(hN:X.N.Nodup)(hi:X.N[i]? =some x:=by rfl)(hx:Df X.env.scope x:=by first|exact iJ rfl|exact ik rfl)(hf:X.fn x=true\/X.env.scope.names.lookup x=some .local:=by first|exact .inl rfl|exact .inr rfl):JG X (.Name x pos) (gN i):=ES hN hi hx hf
end
end L3
namespace L2
open PySem PySem.Spec PyProof.Rows
section
end
end L2
namespace L3
open PySem L2 PySem.Spec PyProof.Rows
section
variable{X:Cx}
noncomputable def AS(z:Str)(i:Int):Str:=if i<1 then Str.empty else if(i==1||z.length==0)=true then z else ph z i.toNat
noncomputable def BF:B2:=λp q G Q=>match p,q with
 | .str z,.int i=>0<=i/\i<=1000/\z.length<=10000/\Q (.str (AS z i)) G
 |_,_=>False
theorem HL:gW X (cx .Mult) (fL X.K BF):=by
 intro pins s σ H x y v u Q I rx ry h
 obtain⟨p,q,G,Q2,d1,d2,rp,h,cl⟩:=h
 unfold BF at h
 split at h
 ·rename_i z i
  obtain⟨h1,h2,h3,q⟩:=h
  obtain rfl:x= .str z:=d1
  obtain rfl:y= .int i:=d2
  by_cases hi:i<1
  ·obtain⟨t,rfl⟩:=rx
   obtain⟨t',rfl⟩:=ry
   refine P.mul_str (by rw[decide_eq_false (by ac_nf),decide_eq_false (by ac_nf)];rfl) (λhn _=>absurd hi hn) (λhn _=>absurd hi hn) ?_
   rw[if_pos hi]
   unfold AS at q
   rw[if_pos hi]at q
   exact⟨by decide,.str Str.empty,H,I.tok _,⟨_,rfl⟩,cl _ _ _ _ q rfl rp .refl⟩
  ·unfold AS at q
   rw[if_neg hi]at q
   exact wb pins s σ H _ _ v u Q I rx ry ⟨z,i,rfl,rfl,by ac_nf,h2,h3,cl _ _ _ _ q rfl rp .refl⟩
 ·exact h.elim
theorem jmS{a b:Expr}{ta tb:E2}{pos:Pos}(u:kI)(ha:JE X a ta)(hb:JE X b tb):JE X (.BinOp a .Mult b pos) (mz BF ta tb):=qD HL ha hb
theorem w6:∀{xs:List V} {us:List ae},us.length=xs.length->(∀(i:Nat) (x:V) (u:ae),xs[i]? =some x->us[i]? =some u->RelV x u)->Vals xs us
 |[],[],_,_=> .nil
 |x::xs,u::us,hl,h=> .cons (h 0 x u rfl rfl) (w6 (by simpa using hl) λi y v hy hv=>h (i+1) y v (by simpa using hy) (by simpa using hv))
 |[],_::_,hl,_=>by cases hl
 |_::_,[],hl,_=>by cases hl
end
end L3
namespace L2
open PySem PySem.Spec PyProof.Rows
section
end
end L2
namespace L3
open PySem L2 PySem.Spec PyProof.Rows
section
end
end L3
namespace PySem
open PyProof.Rows (StrsAre)
section
end
end PySem
namespace L3
open PySem L2
section
variable{X:Cx}
noncomputable def qm:B2:=λp q G Q=>match p,q with
 | .ro ps,.ref b=>match lk G b with
  |some qs=>ps.length+qs.length<=16000000/\∀c,G c=none->Q (.ref c) (up G c (.lst (ps++qs)))
  |none=>False
 |_,_=>False
theorem Fy{G:Gp}{b:Addr}{ps qs:List PV}{Q:K2}(h:lk G b=some qs)(hl:ps.length+qs.length<=16000000)(q:∀c,G c=none->Q (.ref c) (up G c (.lst (ps++qs)))):qm (.ro ps) (.ref b) G Q:=by
 unfold qm;simp only[h];exact⟨hl,q⟩
theorem Ew:gW X (cx .Add) (fL X.K qm):=by
 intro pins s σ H x y v u Q I rx ry h
 obtain⟨p,q,G,Q2,d1,d2,rp,h,cl⟩:=h
 unfold qm at h
 split at h
 ·rename_i ps b
  split at h
  ·rename_i qs e1
   obtain⟨hl,hq⟩:=h
   obtain⟨a,us,rfl,sb,db⟩:=d1
   obtain rfl:y= .ref b:=d2
   obtain⟨vs,sa,da⟩:=fN rp e1
   refine sC pins s σ H _ _ v u Q I rx ry ⟨a,b,us,vs,rfl,rfl,sb.sq,sa,by rw[da.length,db.length];exact big hl,λc hc=> ?_⟩
   exact cl _ _ _ _ (hq c (rp.none hc)) rfl (rp.new hc (db.append da)) (bK hc)
  ·exact h.elim
 ·exact h.elim
theorem Nt{a b:Expr}{ta tb:E2}{pos:Pos}(ha:JE X a ta)(hb:JE X b tb):JE X (.BinOp a .Add b pos) (mz qm ta tb):=qD Ew ha hb
end
section
end
end L3
namespace PySem
open AutoSeq1 (wpAny_loadPart')
section
end
end PySem
namespace L2
open PySem
section
end
end L2
namespace L3
open PySem L2
section
end
section
end
section
end
end L3
namespace L2
open PySem PySem.Spec PyProof.Rows
section
end
end L2
namespace L3
open PySem L2
section
end
theorem ls:∀{xs ys:List PV},(iM xs ys).length=min xs.length ys.length
 |[],ys=>by simp[iM]
 |x::xs,[]=>by simp[iM]
 |x::xs,y::ys=>by
  show(iM xs ys).length+1=_
  rw[ls];simp only[aX];ac_nf
noncomputable abbrev sNo:S2:=λ_ _ _=>False
theorem K8{X:Cx}{st:Stmt}:JS X st sNo:=⟨λpins s σ H D I ⟨τ,G,D2,_,_,q,_⟩=>q.elim⟩
theorem tW{K:PySem.W.Frag}{H:Hp}:∀zs:List Str,Dvs K H (zs.map PV.str) (zs.map V.str)
 |[]=>rfl
 |z::zs=>⟨_,_,rfl,rfl,tW zs⟩
structure Fz(K:PySem.W.Frag)(mg:Str->Option ae)(x:Str)(zs:List Str):Prop where
 h:∃a,mg x=some (.ref a)/\∀H,SqT K H a (zs.map V.str)
theorem IE{X:Cx}{x:Str}{zs:List Str}{pos:Pos}(h:Fz X.K X.mg x zs)(hg:Gl X x:=by rfl)(hd:(x==("__debug__" :Str))=false:=by decide):JE X (.Name x pos) (eC (.tup (zs.map PV.str))):=by
 obtain⟨a,hm,hq⟩:=h.h
 exact wx (v:= .ref a) (q:= .tup (zs.map PV.str)) hm rfl (λH=>⟨a,_,rfl,hq H,tW zs⟩) hg hd
section
end
end L3
namespace L3
open PySem L2 PySem.Spec PyProof.Rows
section
variable{X:Cx}{C:Addr}{k k':Nat}{m x:Str}{f':Addr}{fd:aR}{ps:List Str}{o e:Expr}{es:List Expr}{to:E2}{t:A2}{pos apos:Pos}{pl:Sem Bool}
theorem IC{sp:gP}(M:er X.prog X.w X.K X.mg X.base C k m f' fd ps sp)(hr:Room k' X.A)(hk:k<=k')(ho:JE X o to)(ha:JA X (e::es) t)
  (hst:al (e::es) X.env=(false,eval e X.env)::al es X.env:=by rfl) (hpl:(bC pos (al es X.env)).any (·.1)=false:=by rfl)
  (ht:eval (.Call (.Attribute o m apos) (e::es) [] pos) X.env=(do
   let ov <-eval o X.env
   standAt apos.atName
   let(fv,first) <-holding [ov] (getMethod ov m pl)
   callWith pos fv first (bC pos (al (e::es) X.env)) (gJ pos (dW [] X.env))):=by rfl):
  JE X (.Call (.Attribute o m apos) (e::es) [] pos) (LJ C m sp to t):=
 .of (D9 (pl:=pl) ho.h M.c M.m (M.ok.mono hk) hr M.b .nil yh ha.h hst hpl ht) λσ H1 Q q=>by
  obtain⟨τ,G,Q2,rs,rp,q,cl⟩:=q
  refine⟨τ,G,_,rs,rp,q,λx G1 v H2 q1 d1 r1 k1=> ?_⟩
  obtain⟨⟨a,dx,fs,rfl,hG,hl⟩,q1⟩:=q1
  obtain rfl:v= .ref a:=d1
  obtain⟨vs,hH,df⟩:=r1 a _ hG
  refine⟨a,dx,vs,rfl,hH,qd df hl,τ,G1,_,rs.keep k1,r1,q1,λps G2 us H3 q2 d2 r2 k2=> ?_⟩
  show FJ X.K sp (.ref a::(us++[])) H3 Q _
  rw[bI]
  exact⟨.ref a::ps,G2,Q2,⟨.ref a,us,rfl,rfl,d2⟩,r2,q2,cl.keep (k1.trans k2)⟩
end
end L3
namespace L2
open PySem PySem.Spec PyProof.Rows
section
variable{M:Model}{A:Around}{E:ae->af->Prop}
variable{nm q:Str}{C N:Addr}{bs bm:List ae}{hdct:Bool}{sn:List Str}{sub:List ae}{ab:Bool}{col:Option Bool}{dd:Option Addr}{k0 k1 k2 k3 k5:Option ae}{newId:String}
variable{nm' q':Str}{C' N':Addr}{bs' bm':List ae}{hdct':Bool}{sn':List Str}{sub':List ae}{ab':Bool}{col':Option Bool}{dd':Option Addr}{k0' k1' k2' k3' k5':Option ae}{newId':String}
theorem p9{h:Heap}{g:Array GenState}{d:Drawn}{t:Nat}{os:OsState}{e:Addr}{oe:Obj}{Q:Bool->af->Prop}
  (hC:h.get? C=some (excClassObj nm q C N bs bm hdct sn sub ab col dd k0 k1 k2 k3 k5 newId)) (hG:h.get? C'=some (excClassObj nm' q' C' N' bs' bm' hdct' sn' sub' ab' col' dd' k0' k1' k2' k3' k5' newId'))
  (he:h.get? e=some oe) (hcls:oe.cls= .ref C) (hbase:bm'.contains (.type "BaseException")=true) (hin:(au C::bm).contains (.ref C')=true)
  (hq:Q true ⟨h,g,d,t,os⟩):wpAny M A (excMatches (.ref e) (.ref C')) Q E ⟨h,g,d,t,os⟩:=by
 have hcB:(au C'::bm').contains (.type "BaseException")=true:=by rw[List.contains_cons,hbase,Bool.or_true]
 have f:=tc_notTuple
 unfold excMatches
 repeat (first|(with_reducible refine rV he ?_;rw[hcls])|with_reducible refine rV hC ?_|with_reducible refine rV hG ?_|(with_reducible refine wpAny_isSubtype_exc hG ?_;rw[hcB])|(with_reducible refine wpAny_isSubtype_exc hC ?_;rw[hin])|wp_step)
 exact hq
end
noncomputable def jj(K:PySem.W.Frag)(C G:Addr):Bool:=match K.lookup C with
 |some ⟨_,_,.cls cd,_⟩=>(cd.mro).contains (.ref G)
 |_=>false
noncomputable def Cx.inX(X:Cx)(e:ae):Cx:={X with A:=X.A.mark (some e),calm:=false,xe:=λ_ _=>False}
section
variable{X:Cx}{pins:List (Addr×Obj)}{σ:St}{H:Hp}{s:af}{e:ae}
theorem Inv.inX(I:Inv X pins σ H s)(e:ae):Inv (X.inX e) pins σ H s:=
 ⟨⟨I.ok.mod,I.ok.kind,I.ok.glob,I.ok.blt,I.ok.above,I.ok.inj,I.ok.has,I.ok.cab,(λz=>nomatch z),I.ok.frames,I.ok.stk,I.ok.exf,I.ok.bs,I.ok.bsz,I.ok.noex,I.ok.exfs,I.ok.funs,I.ok.frf⟩,I.os,I.bare,I.base,I.loc,I.cell,I.free,I.freeC,I.pin,I.hok,I.len⟩
theorem Inv.outX(ok:X.Ok)(I:Inv (X.inX e) pins σ H s):Inv X pins σ H s:=⟨ok,I.os,I.bare,I.base,I.loc,I.cell,I.free,I.freeC,I.pin,I.hok,I.len⟩
theorem Inv.gone{M:Model}{A:Around}{E:ae->af->Prop}{j:Nat}{n:Str}{pos:Pos}{Q:Unit->af->Prop}(I:Inv X pins σ H s)(hN:X.N.Nodup)(hi:X.N[j]? =some n)(hl:X.env.scope.names.lookup n=some .local)
  (h:∀s',Inv X pins (σ.set j none) H s'->Q () s'):wpAny M A (do bindName X.env n .none;unbindBehindTheSuite X.env n pos) Q E s:=by
 obtain⟨m,hn,hlk⟩:=id I.loc
 have hcls:(X.env.scope.kind== .class||(X.env.scope.kind== .module&&X.env.locals !=X.env.globals))=false:=by rw[I.ok.kind];rfl
 have hiσ:j<σ.length:=by rw[I.len];exact(aj.mp hi).1
 have cne:=I.cne
 have tracked:∀{a:Addr} {h':Heap},(∃o,s.heap.get? a=some o/\H a=none)->dJ a s.heap h'->HOk X.prog X.w H h':=fun{a h'} ha hs b ob e=>by
  obtain⟨_,_,hfree⟩:=ha
  refine(I.hok b ob e).stay (λc w' hc q=>(hs.2 c ?_).trans q) (λ_ q=>q) λ_ _ q=>q
  rintro rfl
  rcases hc with rfl|hc
  ·rw[hfree]at e;cases e
  ·rw[hfree]at hc;cases hc
 refine wpAny_nameGoes_keeps hl hn hcls λh' v hn' hs=> ?_
 obtain⟨oL,_,_,hoL,_⟩:=id hn
 refine h _ ⟨I.ok,I.os,I.bare,⟨λb o e n hb hx=> ?_,λb o e n hb hx=> ?_,I.base.free,λb o e hx=> ?_,I.base.tups,I.base.frzs,I.base.tbls⟩,⟨_,hn',λk y v' e1 e2 e3=> ?_⟩,λy c e=> ?_,I.free,I.freeC,λp hp=> ?_,tracked ⟨oL,hoL,I.free⟩ hs,by simpa using I.len⟩
 ·exact(hs.2 b (aQ (aU (aw e) I.ok.above))).trans (I.base.keep b o e n hb hx)
 ·obtain⟨sl,e1⟩:=I.base.slot b o e n hb hx
  exact⟨sl,(hs.2 b (aQ (aU (aw e) I.ok.above))).trans e1⟩
 ·obtain⟨o',e1⟩:=I.base.there b o e hx
  exact⟨o',(hs.2 b (aQ (aU (aw e) I.ok.above))).trans e1⟩
 ·by_cases hj:k=j
  ·subst hj
   rw[cw hiσ]at e2
   cases e2
  ·rw[bW (aG hj)]at e2
   obtain⟨u',r',q⟩:=hlk k y v' e1 e2 e3
   refine⟨u',r',?_⟩
   rcases q with⟨k,e⟩|⟨k,c,e,z⟩
   ·refine .inl ⟨k,?_⟩
    have:y≠n:=λe=>hj (pJ hN e1 (e▸hi))
    simp[this,e]
   ·exact .inr ⟨k,c,e,z.sameBut hs (cne y c e)⟩
 ·obtain⟨w',z⟩:=I.cell y c e
  exact⟨w',z.sameBut hs (cne y c e)⟩
 ·obtain⟨e,n,ne,nf,d⟩:=I.pin p hp
  exact⟨(hs.2 p.1 ne).trans e,n,ne,nf,d⟩
end
noncomputable def Ends.drop(D:Ends)(j:Nat):Ends:={nx:=λσ H=>D.nx (σ.set j none) H,rt:=D.rt,bk:=λσ H=>D.bk (σ.set j none) H,ct:=λσ H=>D.ct (σ.set j none) H}
section
variable{X:Cx}{C:Addr}
theorem zN{xc n:Str}{np p3:Pos}{b0:Stmt}{suite:List Stmt}{tb:TS}{G:Addr}{j:Nat}{pins:List (Addr×Obj)}{σ:St}{H1:Hp}{s1 s':af}{D:Ends}{E:XK}{ex:ae}{env:Env}{outer:List Env}(hst:X.stack=env::outer)(henv:X.env=env)
  (I2:Inv X pins σ H1 s1) (hq:mS X.prog X.w C X.stack H1 s1 E ex s')
  (q:PySem.W.excIn X.K C rD "ValueError.__new__" =true) (qg:PySem.W.excIn X.K G rD "ValueError.__new__" =true) (hup:jj X.K C G=true) (hgc:Gl X xc) (hmc:X.mg xc=some (.ref G)) (hN:X.N.Nodup) (hj:X.N[j]? =some n) (hl:X.env.scope.names.lookup n=some .local)
  (hE:∀H' x,E (.ref C) none H'->(∀b xs,H1 b=some (.tup xs)->H' b=some (.tup xs))->(∀b o u,H1 b=some (.frz o u)->H' b=some (.frz o u))->H' x=none->tb (D.drop j) (σ.set j (some (.ref x))) (upd H' x (uV x C)))
  (hs:∀x:Addr,PSs (X.inX (.ref x)) (b0::suite) tb) (hdc:(xc==("__debug__" :Str))=false:=by decide):
  wpAny (aN X.prog X.w) X.A (noteFrame ex X.env) (λ_ s₂=>wpAny (aN X.prog X.w) X.A (setFlight ex none) (λ_ s₃=>wpAny (aN X.prog X.w) X.A (handleBy ex X.env [.ExceptHandler (some (.Name xc np)) (some n) (b0::suite) p3]) (SP X pins D) X.xe s₃) X.xe s₂) X.xe s':=by
 obtain⟨x,T,H',rfl,tr,nx,nT,hx,hT,os,bare,un,hok,hEE⟩:=hq
 subst henv
 obtain⟨hh,g,d,tk,os'⟩:=s'
 have J:=I2.call' (ch:=[]) os un hok bare (λb z=>absurd z (by simp))
 have hstk:=J.stack
 rw[hst]at hstk
 have hfr:X.A.frames=some (X.env::outer):=by rw[J.ok.frames,hst]
 refine Ex (base:=X.base) hfr hstk tr λh' hL=> ?_
 obtain⟨⟨T',tr',hT'⟩,k1,k2⟩:=hL
 rw[<-hst]at k1 k2
 have hTn:H' T'=none/\s1.heap.get? T'=none:=by
  rcases hT' with hT'|hT'
  ·cases aC.mp hT'
   exact⟨hT,nT⟩
  ·refine⟨hok.none_of hT',?_⟩
   cases q0:s1.heap.get? T' with
   |none=>rfl
   |some o=>
    obtain⟨o',q'⟩:=un.there T' o q0 (by simp)
    rw[hT']at q';cases q'
 have un2:Un (km X.stack) [] H1 H' s1.heap h':=xa (S:=[T]) un nx (λt ht=>by cases aC.mp ht;exact nT) k1 λb o hb _ _ q0=>k2 b o hb q0
 have hok2:HOk X.prog X.w H' h':=uT (S:=[T]) hok hx (λt ht=>by cases aC.mp ht;exact hT) J.stkFree k1
 have J2:=I2.call' (s':=⟨h',g,d,tk,os'⟩) (ch:=[]) os un2 hok2 bare (λb z=>absurd z (by simp))
 obtain⟨bm,ns,nm,qn,bs,hd,sn,sub,ab,col,dd,c0,c1,c2,c3,c5,mN,e1,e2,e3,e4⟩:=nK I2.ok.mod.kin q
 obtain⟨bm',ns',nm',qn',bs',hd',sn',sub',ab',col',dd',c0',c1',c2',c3',c5',mN',e1',e2',e3',e4'⟩:=nK I2.ok.mod.kin qg
 have hin:(au C::bm).contains (.ref G)=true:=by
  unfold jj at hup
  split at hup
  ·rename_i ho
   have:=I2.ok.mod.kin _ _ ho
   rw[e1]at this
   injection this with this
   injection this with _ _ h3 _
   injection h3 with h3
   rw[<-h3]at hup
   exact hup
  ·cases hup
 refine wpAny_handleBy_cons (codeAny_handlers_test ?_) (by intro z;cases z)
 refine iU J2.ok.kind hgc (vv (by rw[J2.ok.glob];exact J2.mod.glob.keeps J2.bk) hmc ?_) hdc
 obtain⟨oe,vs',oT,ts,he1,he2,he3,he4,he5,he6,he7,he8⟩:=id tr'
 refine p9 (J2.bk _ _ e1) (J2.bk _ _ e1') he1 he2 (e4'.hasType (by decide)) hin ?_
 refine codeAny_handlers_suite_as (zH (s:=⟨h',g,d,tk,os'⟩) tr' λh'' k3=> ?_)
 have un3:Un (km X.stack) [] H1 H' s1.heap h'':=xa (S:=[T']) un2 nx (λt ht=>by cases aC.mp ht;exact hTn.2) (λb o _ _ hS q0=>k3 b o (by simpa using hS) q0) λb o _ _ hS q0=>⟨o.slots,k3 b o (by simpa using hS) q0⟩
 have hok3:HOk X.prog X.w H' h'':=uT (S:=[T']) hok2 hx (λt ht=>by cases aC.mp ht;exact hTn.1) J.stkFree λb o _ _ hS q0=>k3 b o (by simpa using hS) q0
 have J3:=I2.call' (s':=⟨h'',g,d,tk,os'⟩) (ch:=[]) os un3 hok3 bare (λb z=>absurd z (by simp))
 have hxe:h''.get? x=some oe:=k3 x oe (aG he5) he1
 have un4:Un (km X.stack) [] H1 (upd H' x (uV x C)) s1.heap h'':=⟨un3.keep,un3.slot,λb o q n hb=>by rw[bo (λz=>by rw[z,nx]at q;cases q)];exact un3.free b o q n hb,un3.there,
  λb xs q=>by rw[bo (bZ (un3.tups b xs q) hx)];exact un3.tups b xs q,λb o u q=>by rw[bo (bZ (un3.frzs b o u q) hx)];exact un3.frzs b o u q,λb ps q=>by
   obtain⟨qs,e⟩:=un3.tbls b ps q
   exact⟨qs,by rw[bo (bZ e hx)];exact e⟩⟩
 have hok4:HOk X.prog X.w (upd H' x (uV x C)) h'':=hok3.laidN (λ_ _ z=>z) hx ⟨⟨oe,hxe,he2⟩,⟨_,hxe⟩,XAt.stay⟩
 have J4:=I2.call' (s':=⟨h'',g,d,tk,os'⟩) (ch:=[]) os un4 hok4 bare (λb z=>absurd z (by simp))
 have ok:=I2.ok
 refine jQ J4 hN hj (.inl hl) (v:= .ref x) rfl (λs4 J5=> ?_) (.inr hl)
 refine aW (hs x pins s4 _ _ (D.drop j) (J5.inX (.ref x)) (hE H' x hEE un.tups un.frzs hx)) (λf s5 h5=> ?_) λ_ _ z=>z.elim
 cases f with
 |next=>obtain⟨σ',H5,I5,q5⟩:=h5;exact(I5.outX ok).gone hN hj hl λs6 I6=>⟨_,H5,I6,q5⟩
 |brk=>obtain⟨σ',H5,I5,q5⟩:=h5;exact(I5.outX ok).gone hN hj hl λs6 I6=>⟨_,H5,I6,q5⟩
 |cont=>obtain⟨σ',H5,I5,q5⟩:=h5;exact(I5.outX ok).gone hN hj hl λs6 I6=>⟨_,H5,I6,q5⟩
 |ret u=>obtain⟨v,σ',H5,I5,r5,q5⟩:=h5;exact(I5.outX ok).gone hN hj hl λs6 I6=>⟨v,_,H5,I6,r5,q5⟩
end
noncomputable def si(sp:Sp)(t:TA)(C:Addr)(j:Nat)(tb:TS):TS:=λD σ H=>t σ H λvs H1=>sp vs H1 (λ_ H2=>D.nx σ H2) λ_ _ H2=>(∀b xs,H1 b=some (.tup xs)->H2 b=some (.tup xs))->(∀b o u,H1 b=some (.frz o u)->H2 b=some (.frz o u))->∀x,H2 x=none->tb (D.drop j) (σ.set j (some (.ref x))) (upd H2 x (uV x C))
end L2
namespace L3
open PySem L2 PySem.Spec PyProof.Rows
noncomputable abbrev D2.drop(D:D2)(j:Nat):D2:={nx:=λτ G=>D.nx (st τ j none) G,rt:=D.rt,bk:=λτ G=>D.bk (st τ j none) G,ct:=λτ G=>D.ct (st τ j none) G}
theorem RSt.drop{K:PySem.W.Frag}{H:Hp}{σ:L2.St}{τ:jc}(r:RSt K H σ τ)(j:Nat):RSt K H (σ.set j none) (st τ j none):=by
 rw[vP]
 refine⟨by simp[r.1],λi q e=> ?_⟩
 by_cases hj:j=i
 ·subst hj
  have hi:j<τ.length:=by
   have:=(aj.mp e).1
   simpa using this
  rw[cw hi]at e
  cases e
 ·rw[bW hj]at e⊢
  exact r.2 i q e
theorem ClD.drop{K:PySem.W.Frag}{H:Hp}{D:L3.D2}{D':Ends}(c:ClD K H D D')(j:Nat):ClD K H (D.drop j) (D'.drop j):=
 ⟨λτ G σ H' q r rp k=>c.nx _ _ _ _ q (r.drop j) rp k,c.rt,λτ G σ H' q r rp k=>c.bk _ _ _ _ q (r.drop j) rp k,λτ G σ H' q r rp k=>c.ct _ _ _ _ q (r.drop j) rp k⟩
noncomputable abbrev vW(sp:vo)(t:A2)(C:Addr)(j:Nat)(tb:S2):S2:=λD τ G=>t τ G λps G1=>sp ps G1 (λ_ G2=>D.nx τ G2) λG2=>∀x,G2 x=none->tb (D.drop j) (st τ j (some (.ref x))) (up G2 x (.exc C))
noncomputable def wB(K:PySem.W.Frag):C2:=λps G Q=>match ps with
 |[.ref x,.ref c]=>∃D b,G x=some (.exc D)/\qK K D/\PySem.W.kitOne K (.ref D) (.ref c)=some b/\Q (.bl b) G
 |[.ref x,.ty T]=>∃D b,G x=some (.exc D)/\qK K D/\PySem.W.kitOne K (.ref D) (.type T)=some b/\Q (.bl b) G
 |[.ref x,.tup cs]=>∃(D:Addr) (az:List Addr) (b:Bool),cs=az.map PV.ref/\G x=some (.exc D)/\qK K D/\PySem.W.kitAny K (.ref D) (az.map au)=some b/\Q (.bl b) G
 |_=>False
theorem yd{K:PySem.W.Frag}{H:Hp}:∀{az:List Addr} {vs:List V} {us:List ae},Dvs K H (az.map PV.ref) vs->Vals vs us->us=az.map au
 |[],vs,us,d,r=>by
  obtain rfl:vs=[]:=d
  cases r;rfl
 |a::az,vs,us,d,r=>by
  obtain⟨v,vr,rfl,d1,d2⟩:=d
  obtain rfl:v= .ref a:=d1
  cases r with
  |cons r1 r2=>
   cases r1
   rw[yd d2 r2];rfl
section
variable{X:Cx}{a b e:Expr}{t:A2}{es:List Expr}{p pos:Pos}
theorem LV:gE X (.builtin "isinstance") (pN X.K (wB X.K)):=by
 intro pins s σ H xs us Q I rs h
 obtain⟨ps,G,Q2,d,rp,h,cl⟩:=h
 unfold wB at h
 split at h
 ·rename_i x c
  obtain⟨v,vr,rfl,d1,v2,vr2,rfl,d2,d3⟩:=d
  obtain rfl:vr2=[]:=d3
  obtain rfl:v= .ref x:=d1
  obtain rfl:v2= .ref c:=d2
  obtain⟨D,b,hG,hx,hk,q⟩:=h
  exact mL pins s σ H _ us Q I rs ⟨x,D,.ref c,.ref c,b,rfl,rp x _ hG,hx,rfl,hk,cl _ _ _ _ q rfl rp .refl⟩
 ·rename_i x T
  obtain⟨v,vr,rfl,d1,v2,vr2,rfl,d2,d3⟩:=d
  obtain rfl:vr2=[]:=d3
  obtain rfl:v= .ref x:=d1
  obtain rfl:v2= .ty T:=d2
  obtain⟨D,b,hG,hx,hk,q⟩:=h
  exact mL pins s σ H _ us Q I rs ⟨x,D,.ty T,.type T,b,rfl,rp x _ hG,hx,rfl,hk,cl _ _ _ _ q rfl rp .refl⟩
 ·rename_i x cs
  obtain⟨v,vr,rfl,d1,v2,vr2,rfl,d2,d3⟩:=d
  obtain rfl:vr2=[]:=d3
  obtain rfl:v= .ref x:=d1
  obtain⟨a,ws,rfl,hs,dw⟩:=d2
  obtain⟨D,az,b,rfl,hG,hx,hk,q⟩:=h
  obtain⟨u,u2,rfl,ru,ru2⟩:=rs.two
  cases ru
  cases ru2
  obtain⟨its,rv,⟨o,ho,hc,n,hd⟩,_⟩:=I.tuple hs
  have hE:=rp x _ hG
  have pX:XAt x D s.heap:=(I.hok x _ hE).1
  have ei:=yd dw rv
  subst ei
  obtain⟨oc,odd,oda,osl⟩:=o
  dsimp only at hc hd
  subst hc hd
  exact PySem.W.kia_tup (uI hx) I.kIn pX ho hk (λz=>nomatch z) λtk=>⟨.bl b,H,I.tok tk,rfl,cl _ _ _ _ q rfl rp .refl⟩
 ·exact h.elim
theorem B1(B:BN X.mg)(ha:JA X (e::es) t)(hg:Gl X "isinstance" :=by rfl)(he:al (e::es) X.env=(false,eval e X.env)::al es X.env:=by rfl)(hpl:(bC pos (al es X.env)).any (·.1)=false:=by rfl):JE X (.Call (.Name "isinstance" p) (e::es) [] pos) (zX (wB X.K) t):=mv LV B.isinstance oa ha hg (by decide) (by decide) he hpl
theorem IF{x:Str}{c:Addr}(hm:X.mg x=some (.ref c))(hg:Gl X x:=by rfl)(hd:(x==("__debug__" :Str))=false:=by decide):JE X (.Name x pos) (eC (.ref c)):=wx (v:= .ref c) hm rfl (λ_=>rfl) hg hd
theorem Fu:cj "ValueError" =some (.type "ValueError"):=by decide+kernel
theorem La(hm:X.mg "ValueError" =none)(hg:Gl X "ValueError" :=by rfl):JE X (.Name "ValueError" pos) (eC (.ty "ValueError")):=Nv hm Fu hg
end
end L3
namespace L2
open PySem PySem.Spec PyProof.Rows
noncomputable def NS(a:Addr)(o:Obj)(kvs:List (Key×V)):It:=
 ⟨λi H=>H a=some (.frz o (.dK kvs))/\i<kvs.length,λi H x H'=>H'=H/\∃k v,kvs[i]? =some (k,v)/\x=kV k,λi H=>H a=some (.frz o (.dK kvs))/\kvs.length<=i⟩
theorem BS{P:aF}{w:aS}{k:Key}{u:ae}(h:(mixKind P w).is k u=true):RelV (kV k) u:=by
 rcases dB h with⟨i,t,rfl,rfl⟩|⟨x,t,rfl,rfl⟩
 ·exact⟨t,rfl⟩
 ·exact⟨t,rfl⟩
theorem Cj{P:aF}{w:aS}{H:Hp}{h:Heap}{a:Addr}{o:Obj}{kvs:List (Key×V)}{es:Array ju}{ep:Nat}(ok:HOk P w H h)(e:H a=some (.frz o (.dK kvs)))(he:o.data= .dict es ep):∃vs,KV kvs vs/\h.DictAt (mixKind P w) a vs ep:=by
 obtain⟨hg,z,_,vs,kv,dd⟩:=(show ObjOk P w H h a (.frz o (.dK kvs))from ok a _ e)
 refine⟨vs,kv,?_⟩
 obtain⟨o',es',ep',h1,h2,h3,h4⟩:=dd
 rw[hg]at h1;cases h1
 rw[he]at h3;cases h3
 exact⟨o,es,hg,h2,he,h4⟩
theorem yS{P:aF}{w:aS}{K:PySem.W.Frag}{tg:Expr}(a it:Addr){o:Obj}{kvs:List (Key×V)}{es:Array ju}{ep:Nat}(he:o.data= .dict es ep):qG P w K tg (NS a o kvs) [it] it (λi h=>h.IsKeyIter it a i kvs.length ep) where
 mem:=by simp
 obj:=λi h st b hb=>by
  have e:b=it:=by simpa using hb
  subst e
  obtain⟨o,e,c,d⟩:=st
  exact⟨o,e,λv z=>by rw[d]at z;cases z⟩
 keep:=λi h h' st k=>by
  obtain⟨o,e,c,d⟩:=st
  exact⟨o,k it (by simp) o e,c,d⟩
 item:=by
  intro X hP hw hK hc i pins s σ H E I hf st hg
  subst hP hw hK
  obtain⟨hq,hx⟩:=hg
  obtain⟨vs,kv,dd⟩:=Cj I.hok hq he
  have hl:=kv.length
  obtain⟨f0,f1,f2,f3,f4,f5⟩:=hf it (by simp)
  have hx':i<vs.length:=by ac_nf
  have e1:vs[i]? =some (vs[i].1,vs[i].2):=by rw[ak hx']
  have e2:kvs[i]? =some (kvs[i].1,kvs[i].2):=by rw[ak hx]
  have e3:kvs[i].1=vs[i].1:=by
   have:=congrArg (λl=>l[i]?) kv.keys
   simp only[aI,e1,e2,Option.map_some]at this
   exact a8 this
  refine wpAny_pyNext_dict_item (by rw[<-hl];exact st) dd e1 λkey h' hk st' sb=> ?_
  have I1:Inv X pins σ H {s with heap:=h'}:=I.turned (t':=s.toks) (λb o hb e=>(sb.2 b hb).trans e) f0 f1 f3 f4 f5
  obtain⟨o,e,c,d⟩:=id st'
  exact⟨key,rfl,uU (s:={s with heap:=h'}) e c d (by decide) ⟨_,H,I1,BS hk,⟨rfl,_,_,e2,by rw[e3]⟩,by rw[hl];exact st',λb hb=>(hf b hb).1⟩⟩
 done:=by
  intro X hP hw hK hc i pins s σ H E I hf st hg
  subst hP hw hK
  obtain⟨hq,hx⟩:=hg
  obtain⟨vs,kv,dd⟩:=Cj I.hok hq he
  have hl:=kv.length
  obtain⟨f0,f1,f2,f3,f4,f5⟩:=hf it (by simp)
  exact wpAny_pyNext_dict_end (I.ok.hd hc) (by rw[<-hl];exact st) dd (dU (by ac_nf)) λh' eb=>⟨rfl,I.turned (t':=s.toks) (λb o hb e=>eb b o hb e) f0 f1 f3 f4 f5⟩
 self:=λA i s Q E st h=>by
  exact wpAny_pyIter_slot st.typeIs vk (c9 vk st.typeIs F.entry_dict_keyiterator_iter (am ⟨_,rfl, "dict_keyiterator",_,st.typeIs,F.slot_dict_keyiterator_next.lookup,h⟩) (F.args_dict_keyiterator_iter_1 _))
noncomputable def NC(tl:TE):TI:=λσ H R=>tl σ H λx H1=>∃a kvs,x= .ref a/\Rd H1 a (.dK kvs)/\∀o H2,H2 a=some (.frz o (.dK kvs))->(H2=H1\/H1 a=some (.dK kvs)/\H2=upd H1 a (.frz o (.dK kvs)))->R (NS a o kvs) H2
theorem D7{X:Cx}{tg l:Expr}{tl:TE}(hl:PE X l tl):PI X tg l (NC tl):=by
 intro pins s σ H R I h
 refine eB (hl pins s σ H _ I h) λv s1 hPl=> ?_
 obtain⟨x,H1,I1,r1,q1⟩:=hPl
 obtain⟨a,kvs,e,hq,q⟩:=q1
 subst e
 cases r1
 obtain⟨z,hd,vs,kv,dd⟩:=n6 I1.hok hq
 have hlen:=kv.length
 obtain⟨o,es,ep,h1,h2,h3,h4⟩:=id dd
 have hdt:s1.heap.DictAt (mixKind X.prog X.w) a vs ep:=⟨o,es,h1,h2,h3,h4⟩
 have key:∃H2,Inv X pins σ H2 s1/\H2 a=some (.frz o (.dK kvs))/\(H2=H1\/H1 a=some (.dK kvs)/\H2=upd H1 a (.frz o (.dK kvs))):=by
  rcases hq with hq|⟨o',hq⟩
  ·refine⟨_,mD (h':=s1.heap) (t':=s1.toks) I1 (by rw[hq];exact ck) ⟨rfl,λ_ _=>rfl⟩ ⟨o,h1⟩ (ob:= .frz o (.dK kvs)) ⟨h1,sV z hd kv dd⟩,cb,.inr ⟨hq,rfl⟩⟩
  ·have:o'=o:=by
    obtain⟨hg,_⟩:=(show ObjOk X.prog X.w H1 s1.heap a (.frz o' (.dK kvs))from I1.hok a _ hq)
    rw[h1]at hg;exact(a8 hg).symm
   subst this
   exact⟨H1,I1,hq,.inl rfl⟩
 obtain⟨H2,I2,e2,w2⟩:=key
 refine wpAny_pyIter_dict hd hdt ?_
 refine⟨s1.heap.objs.size,[s1.heap.objs.size],_,_,H2,rfl,I2.kept (t':=s1.toks) λb o e=>ai _ e,yS a _ h3,⟨_,aH _ rfl,rfl,by simp[hlen]⟩,λb hb=> ?_,q o H2 e2 w2⟩
 have e:b=s1.heap.objs.size:=by simpa using hb
 subst e
 exact I2.fpOk (aq _) (I2.hok.fresh (aq _))
end L2
namespace L3
open PySem L2
theorem wJ{K:PySem.W.Frag}{H:Hp}:∀{ps:List (Key×PV)} {vs:List (Key×V)},DKv K H ps vs->ps.map (·.1)=vs.map (·.1)
 |[],vs,h=>by obtain rfl:vs=[]:=h;rfl
 |(x,p)::ps,vs,h=>by
  obtain⟨v,r,rfl,d,z⟩:=h
  rw[aD,aD,wJ z]
noncomputable def uQ(t:E2):rL:=λτ G R=>t τ G λp G1=>match p with
 | .ref a=>match G1 a with
  |some (.dK kvs)=>R (kvs.map λkv=>kP kv.1) (λG=>G a=some (.rd kvs)) (up G1 a (.rd kvs))
  |some (.rd kvs)=>R (kvs.map λkv=>kP kv.1) (λG=>G a=some (.rd kvs)) G1
  |_=>False
 |_=>False
theorem uJ{K:PySem.W.Frag}{H:Hp}{a:Addr}{o:Obj}{kvs:List (Key×V)}(h:H a=some (.dK kvs)):Keep K H (L2.upd H a (.frz o (.dK kvs))):=kl h
theorem wA{K:PySem.W.Frag}{H1:Hp}{a:Addr}{o:Obj}{vs:List (Key×V)}{kvs:List (Key×PV)}(e:H1 a=some (.frz o (.dK vs)))(d:DKv K H1 kvs vs):vj K H1 (NS a o vs) (kvs.map λkv=>kP kv.1) (λG=>G a=some (.rd kvs)):=by
 intro i H G kp rp hc
 have e':=kp.2 _ _ _ e
 have hl:=d.length
 refine⟨λh=>⟨e',by simp at h;ac_nf⟩,λh=>⟨e',by simp at h;ac_nf⟩,λx H' hi hy=> ?_⟩
 obtain⟨rfl,k,v,ek,rfl⟩:=hy
 have hk:(kvs.map (·.1))[i]? =some k:=by rw[wJ d,aI,ek];rfl
 refine⟨kP k,?_,.refl,rp,KZ k⟩
 have:(kvs.map λkv=>kP kv.1)=(kvs.map (·.1)).map kP:=by rw[cF];rfl
 rw[this,aI,hk];rfl
theorem sN{X:Cx}{tg l:Expr}{t:E2}(hl:JE X l t):JI X tg l (uQ t):= .of (D7 hl.h) λσ H R hPl=>by
 obtain⟨τ,G,R2,rs,rp,q,cl⟩:=hPl
 refine⟨τ,G,_,rs,rp,q,λp G1 v H1 q1 d1 r1 k1=> ?_⟩
 cases p with
 |ref a=>
  obtain rfl:v= .ref a:=d1
  cases eg:G1 a with
  |none=>simp only[eg]at q1
  |some o=>
   cases o with
   |dK kvs=>
    simp only[eg]at q1
    obtain⟨vs,hH,dv⟩:=r1.dK eg
    refine⟨a,vs,rfl,.inl hH,λob H2 e2 w2=> ?_⟩
    rcases w2 with rfl|⟨_,rfl⟩
    ·rw[hH]at e2;cases e2
    ·have kk:Keep X.K H1 (L2.upd H1 a (.frz ob (.dK vs))):=uJ hH
     have r2:Rep X.K (L2.upd H1 a (.frz ob (.dK vs))) (up G1 a (.rd kvs)):=by
      refine r1.upd kk (λb o e ne=>by rw[aK ne]at e;exact e) λo e=> ?_
      rw[ao]at e;cases e
      exact⟨vs,.inr ⟨ob,cb⟩,dv.keep kk⟩
     exact cl _ _ _ _ _ q1 r2 (k1.trans kk) (wA cb (dv.keep kk))
   |rd kvs=>
    simp only[eg]at q1
    obtain⟨vs,hH,dv⟩:=r1 a _ eg
    refine⟨a,vs,rfl,hH,λob H2 e2 w2=> ?_⟩
    rcases w2 with rfl|⟨hD,rfl⟩
    ·exact cl _ _ _ _ _ q1 r1 k1 (wA e2 dv)
    ·have kk:Keep X.K H1 (L2.upd H1 a (.frz ob (.dK vs))):=uJ hD
     have r2:Rep X.K (L2.upd H1 a (.frz ob (.dK vs))) G1:=by
      refine r1.upd kk (λb o e ne=>e) λo e=> ?_
      rw[eg]at e;cases e
      exact⟨vs,.inr ⟨ob,cb⟩,dv.keep kk⟩
     exact cl _ _ _ _ _ q1 r2 (k1.trans kk) (wA cb (dv.keep kk))
   |_=>simp only[eg]at q1
 |_=>exact q1.elim
@[reducible] noncomputable def jm (G:Gp) (a:Addr):Option (List (Key×PV)):=match G a with
 |some (.dK kvs)=>some kvs
 |some (.rd kvs)=>some kvs
 |_=>none
theorem i5{G:Gp}{a:Addr}{kvs:List (Key×PV)}(h:G a=some (.dK kvs)):jm G a=some kvs:=by unfold jm;rw[h]
theorem mE{G:Gp}{a:Addr}{kvs:List (Key×PV)}(h:G a=some (.rd kvs)):jm G a=some kvs:=by unfold jm;rw[h]
theorem Rep.dR{K:PySem.W.Frag}{H:Hp}{G:Gp}{a:Addr}{kvs:List (Key×PV)}(r:Rep K H G)(e:jm G a=some kvs):∃vs,Rd H a (.dK vs)/\DKv K H kvs vs:=by
 cases eg:G a with
 |none=>simp[jm,eg]at e
 |some o=>
  cases o with
  |dK k'=>
   simp[jm,eg]at e;subst e
   obtain⟨vs,h,d⟩:=r a _ eg
   exact⟨vs,.inl h,d⟩
  |rd k'=>simp[jm,eg]at e;subst e;exact r a _ eg
  |_=>simp[jm,eg]at e
noncomputable def E8:B2:=λp q G Q=>match p with
 | .ref a=>match jm G a,sM q with
  |some kvs,some k=>match gF kvs k with
   |some v=>Q v G
   |none=>False
  |_,_=>False
 |_=>False
theorem kX{a:Addr}{G:Gp}{q v:PV}{kvs:List (Key×PV)}{k:Key}{Q:K2}(h:jm G a=some kvs)(hk:sM q=some k)(hv:gF kvs k=some v)(hq:Q v G):E8 (.ref a) q G Q:=by
 unfold E8
 simp only[h,hk,hv]
 exact hq
noncomputable def Fc(x y z:PV)(G:Gp)(Q:K2):Prop:=match x with
 | .ref a=>match jm G a,sM y with
  |some kvs,some k=>Q ((gF kvs k).getD z) G
  |_,_=>False
 |_=>False
theorem sQ{a:Addr}{G:Gp}{q z:PV}{kvs:List (Key×PV)}{k:Key}{Q:K2}(h:jm G a=some kvs)(hk:sM q=some k)(hq:Q ((gF kvs k).getD z) G):Fc (.ref a) q z G Q:=by
 unfold Fc
 simp only[h,hk]
 exact hq
noncomputable def IS(x:PV)(G:Gp):Prop:=∃a kvs,x= .ref a/\jm G a=some kvs
theorem pV{a:Addr}{G:Gp}{kvs:List (Key×PV)}(h:jm G a=some kvs):IS (.ref a) G:=⟨a,kvs,rfl,h⟩
noncomputable abbrev LK(td te tf:E2):E2:=λτ G Q=>td τ G λx G1=>IS x G1/\te τ G1 λy G2=>tf τ G2 λz G3=>Fc x y z G3 Q
noncomputable def yG(p:Addr)(x y:PV)(G:Gp)(Q:K2):Prop:=match sM x with
 |some k=>G p=some (.dK [])/\Q (.ref p) (up G p (.dK [(k,y)]))
 |none=>False
noncomputable abbrev LM(tk tv:E2):E2:=λτ G Q=>∀p,G p=none->tk τ (up G p (.dK [])) λx G1=>tv τ G1 λy G2=>yG p x y G2 Q
section
variable{X:Cx}{d e f:Expr}{td te tf:E2}{pos apos cpos p:Pos}
theorem wz(hu:X.A.units+200<fS)(hd:JE X d td)(he:JE X e te)(hs:Jt e:=by exact λ_ _=>rfl):JE X (.Subscript d e pos) (mz E8 td te):=
 .of (Ee (by ac_nf) hd.h he.h hs) λσ H Q hPl=>by
  obtain⟨τ,G,Q2,rs,rp,q,cl⟩:=hPl
  refine⟨τ,G,_,rs,rp,q,λp1 G1 v1 H1 q1 d1 r1 k1=>⟨τ,G1,_,rs.keep k1,r1,q1,λp2 G2 v2 H2 q2 d2 r2 k2=> ?_⟩⟩
  unfold E8 at q2
  split at q2
  ·rename_i a
   split at q2
   ·rename_i kvs k eg ek
    split at q2
    ·rename_i v ev
     obtain rfl:v1= .ref a:=d1
     obtain rfl:=sL ek d2
     obtain⟨vs,hv,dv⟩:=r2.dR eg
     obtain⟨u,hu,du⟩:=(dv.val k).1 v ev
     exact⟨a,u,rfl,.inl ⟨vs,k,hv,rfl,hu.symm⟩,cl _ _ _ _ q2 du r2 (k1.trans k2)⟩
    ·exact q2.elim
   ·exact q2.elim
  ·exact q2.elim
theorem IH(hu:X.A.units+200<fS)(hd:JE X d td)(he:JE X e te)(hf:JE X f tf)(m:L2.M2 X d "get" apos e f cpos:=by exact⟨rfl,rfl,rfl,rfl⟩):JE X (.Call (.Attribute d "get" apos) [e,f] [] cpos) (LK td te tf):=
 .of (Ba (by ac_nf) hd.h he.h hf.h m) λσ H Q hPl=>by
  obtain⟨τ,G,Q2,rs,rp,q,cl⟩:=hPl
  refine⟨τ,G,_,rs,rp,q,λp1 G1 v1 H1 q1 d1 r1 k1=> ?_⟩
  obtain⟨⟨a,kvs,rfl,ea⟩,q1⟩:=q1
  obtain rfl:v1= .ref a:=d1
  obtain⟨vs,hv,dv⟩:=r1.dR ea
  refine⟨a,rfl,.inl ⟨vs,hv⟩,τ,G1,_,rs.keep k1,r1,q1,λp2 G2 v2 H2 q2 d2 r2 k2=>⟨τ,G2,_,rs.keep (k1.trans k2),r2,q2,λp3 G3 v3 H3 q3 d3 r3 k3=> ?_⟩⟩
  unfold Fc at q3
  dsimp only at q3
  split at q3
  ·rename_i kvs' k eg ek
   obtain rfl:=sL ek (d2.keep k3)
   obtain⟨vs',hv',dv'⟩:=r3.dR eg
   refine⟨_,.inl ⟨vs',k,hv',rfl,rfl⟩,cl _ _ _ _ q3 ?_ r3 ((k1.trans k2).trans k3)⟩
   cases ev:gF kvs' k with
   |none=>rw[(dv'.val k).2 ev];exact d3
   |some w'=>obtain⟨w2,hw,dw⟩:=(dv'.val k).1 w' ev;rw[hw];exact dw
  ·exact q3.elim
theorem E4(he:JE X e te)(hf:JE X f tf):JE X (.Dict [some e] [f] p) (LM te tf):=
 .of (Ed (A1 he.h hf.h DU) rfl rfl (by simp) (by simp)) λσ H Q ⟨τ,G,Q2,rs,rp,q,cl⟩ a ha=>by
  have kn:Keep X.K H (L2.upd H a (.dK [])):=bK ha
  refine⟨τ,_,_,rs.keep kn,rp.newD ha (show DKv X.K H [] []from rfl),q a (rp.none ha),λp1 G1 v1 H1 q1 d1 r1 k1=>⟨τ,G1,_,rs.keep (kn.trans k1),r1,q1,λp2 G2 v2 H2 q2 d2 r2 k2=> ?_⟩⟩
  unfold yG at q2
  split at q2
  ·rename_i k ek
   obtain⟨eg,q2⟩:=q2
   obtain rfl:=sL ek (d1.keep k2)
   obtain⟨vs,hv,dv⟩:=r2.dK eg
   obtain rfl:vs=[]:=dv
   refine⟨hv,[(k,v2)],rfl,by simp,cl _ _ _ _ q2 rfl (r2.putD hv ?_) (((kn.trans k1).trans k2).trans (kl hv))⟩
   exact⟨v2,[],rfl,d2,rfl⟩
  ·exact q2.elim
end
theorem sW{a:Addr}{x y:PV}{k:Key}{G:Gp}{Q:K2}(hk:sM x=some k)(h:G a=some (.dK []))(hq:Q (.ref a) (up G a (.dK [(k,y)]))):yG a x y G Q:=by
 unfold yG;simp only[hk];exact⟨h,hq⟩
theorem wK{a:Addr}{i:Nat}{τ:jc}{G:Gp}{R:List PV->(Gp->Prop)->Gp->Prop}{kvs:List (Key×PV)}(e:gt τ i=some (.ref a))(h:G a=some (.rd kvs))(q:R (kvs.map λkv=>kP kv.1) (λG=>G a=some (.rd kvs)) G):uQ (eV i) τ G R:=by
 unfold uQ eV;simp only[e,h];exact q
theorem Je{a:Addr}{i:Nat}{τ:jc}{G:Gp}{R:List PV->(Gp->Prop)->Gp->Prop}{kvs:List (Key×PV)}(e:gt τ i=some (.ref a))(h:G a=some (.dK kvs))(q:R (kvs.map λkv=>kP kv.1) (λG=>G a=some (.rd kvs)) (up G a (.rd kvs))):uQ (eV i) τ G R:=by
 unfold uQ eV;simp only[e,h];exact q
theorem BG{i j:Int}{G:Gp}{Q:K2}(c:CMul i j)(q:Q (.int (i*j)) G):EB (.int i) (.int j) G Q:=⟨c,q⟩
noncomputable def GW(G0 G:Gp):Prop:=∀a o,G0 a=some o->G a=some o\/∃kvs,o= .rd kvs/\G a=some (.dK kvs)
theorem GE.gw{G0 G:Gp}(h:GE G0 G):GW G0 G:=λa o e=> .inl (h a o e)
theorem Rep.weak{K:PySem.W.Frag}{H:Hp}{G0 G:Gp}(r:Rep K H G)(h:GW G0 G):Rep K H G0:=λa o e=>by
 rcases h a o e with h|⟨kvs,rfl,h⟩
 ·exact r a o h
 ·obtain⟨vs,hv,d⟩:=r a _ h
  exact⟨vs,.inl hv,d⟩
theorem GW.rd{G0 G:Gp}{a:Addr}{kvs:List (Key×PV)}(h:GE G0 G)(e:G a=some (.dK kvs)):GW (up G0 a (.rd kvs)) G:=λb o q=>by
 by_cases hb:b=a
 ·subst hb;rw[ao]at q;cases q;exact .inr ⟨kvs,rfl,e⟩
 ·rw[aK hb]at q;exact .inl (h b o q)
section
variable{P:aF}{w:aS}{K:PySem.W.Frag}{mg:Str->Option ae}{base:Heap}
theorem Fd{x qual:Str}{st:Stmt}{f:Addr}{fd:aR}{N ps:List Str}{k:Nat}{sp:gP}(F:Fun K x qual st f fd)(S:bn N ps (aL st))(len:∀vs G Q,sp vs G Q->vs.length=ps.length)
  (hbody:∀(cdv:ae) (A:Around) (outer:List Env) (s:af) (H:Hp) (E:XK) (as:List PV) (G:Gp) (Q:K2),Room k (A.deeper (jE qual (aL st) s.heap.objs.size f cdv))->sp as G Q->
   ∃t,JB (gB FD P w K mg base N qual (aL st) f cdv A outer s H E).nox (gO st) t/\t {nx:=λ_ G'=>∃G0,GW G0 G'/\Q .non G0,rt:=λp G'=>∃G0,GW G0 G'/\Q p G0} (gH N as) G):ic P w K mg base (k+1) f fd ps sp:=by
 refine F.ok S (λvs H Q E h=> ?_) (λcdv A outer s H vs Q E hr h=> ?_)
 ·obtain⟨as,G,Q2,d,_,h,_⟩:=h
  rw[d.length];exact len _ _ _ h
 obtain⟨as,G,Q2,d,rp,h,cl⟩:=h
 obtain⟨t,j,q⟩:=hbody cdv A outer s H E as G Q2 hr h
 refine⟨_,j.h,gH N as,G,_,na d (by rw[len _ _ _ h,<-S.pre,bz];ac_nf),rp,q,⟨λτ G' σ H' ⟨G0,e0,q1⟩ _ r1 k1=>cl _ _ _ _ q1 rfl (r1.weak e0) k1,λp G' v H' ⟨G0,e0,q1⟩ d1 r1 k1=>cl _ _ _ _ q1 d1 (r1.weak e0) k1,λ_ _ _ _ q1=>q1.elim,λ_ _ _ _ q1=>q1.elim⟩⟩
end
noncomputable def yL(f:Nat->List (Tr×Nat)):Nat->Nat->List (List Tr×Nat)
 |0,e=>[([],e)]
 |n+1,e=>((f e).flatMap λt=>(yL f n t.2).map λu=>(t.1::u.1,u.2))++[([],e)]
theorem p0{α β:Type}{l:List α}{f g:α->List β}(h:∀x∈l,f x=g x):l.flatMap f=l.flatMap g:=by
 induction l with
 |nil=>rfl
 |cons x l ih=>rw[dA,dA,h x (by simp),ih λy hy=>h y (by simp[hy])]
mutual
noncomputable def bq(T:List Nat):Pt->Nat->List (Tr×Nat)
 | .none,_=>[]
 | .blank,e=>[(.blank,e)]
 | .sign s,e=>match T[e]? with
  |some c=>if c∈s.cps.toList then[(.sign ⟨#[c]⟩,e+1)]else[]
  |none=>[]
 | .row ps,e=>(jO T ps [([],e)]).map λs=>(.row s.1,s.2)
 | .pick ps,e=>gi T ps 0 e
 | .again p,e=>(yL (bq T p) (T.length+1-e) e).map λs=>(.again s.1,s.2)
 | .held n p,e=>(bq T p e).map λt=>(.held n t.1,t.2)
 | .price n p,e=>(bq T p e).map λt=>(.price n t.1,t.2)
noncomputable def jO(T:List Nat):List Pt->List (List Tr×Nat)->List (List Tr×Nat)
 |[],sm=>sm
 |p::ps,sm=>jO T ps (sm.flatMap λs=>(bq T p s.2).map λt=>(s.1++[t.1],t.2))
noncomputable def gi(T:List Nat):List Pt->Nat->Nat->List (Tr×Nat)
 |[],_,_=>[]
 |p::ps,k,e=>((bq T p e).map λt=>(.pick (k:Int) t.1,t.2))++gi T ps (k+1) e
end
theorem C8{f:Nat->List (Tr×Nat)}(h:∀e x,x∈f e->e<=x.2):∀(n e:Nat) x,x∈yL f n e->e<=x.2
 |0,e,x,hx=>by cases aC.mp hx;exact aq _
 |n+1,e,x,hx=>by
  rcases bj.mp hx with hx|hx
  ·obtain⟨t,ht,hx⟩:=bQ.mp hx
   obtain⟨u,hu,rfl⟩:=ay.mp hx
   exact aZ (h e t ht) (C8 h n t.2 u hu)
  ·cases aC.mp hx;exact aq _
theorem C7{L:Nat}{f:Nat->List (Tr×Nat)}(h:∀e,e<=L->∀x,x∈f e->x.2<=L):∀(n e:Nat),e<=L->∀x,x∈yL f n e->x.2<=L
 |0,e,he,x,hx=>by cases aC.mp hx;exact he
 |n+1,e,he,x,hx=>by
  rcases bj.mp hx with hx|hx
  ·obtain⟨t,ht,hx⟩:=bQ.mp hx
   obtain⟨u,hu,rfl⟩:=ay.mp hx
   exact C7 h n t.2 (h e he t ht) u hu
  ·cases aC.mp hx;exact he
mutual
theorem ll(T:List Nat):∀(p:Pt) (e:Nat) x,x∈bq T p e->e<=x.2
 | .none,e,x,h=>by simp[bq]at h
 | .blank,e,x,h=>by simp[bq]at h;rw[h];exact aq _
 | .sign s,e,x,h=>by
  unfold bq at h
  split at h
  ·split at h
   ·cases aC.mp h;exact fP _
   ·cases h
  ·cases h
 | .row ps,e,x,h=>by
  unfold bq at h
  obtain⟨s,hs,rfl⟩:=ay.mp h
  exact se T ps [([],e)] e (λs hs=>by cases aC.mp hs;exact aq _) s hs
 | .pick ps,e,x,h=>by unfold bq at h;exact xt T ps 0 e x h
 | .again p,e,x,h=>by
  unfold bq at h
  obtain⟨s,hs,rfl⟩:=ay.mp h
  exact C8 (λe x hx=>ll T p e x hx) _ _ s hs
 | .held n p,e,x,h=>by
  unfold bq at h
  obtain⟨s,hs,rfl⟩:=ay.mp h
  exact ll T p e s hs
 | .price n p,e,x,h=>by
  unfold bq at h
  obtain⟨s,hs,rfl⟩:=ay.mp h
  exact ll T p e s hs
theorem se(T:List Nat):∀(ps:List Pt) (sm:List (List Tr×Nat)) (e:Nat),(∀s∈sm,e<=s.2)->∀x,x∈jO T ps sm->e<=x.2
 |[],sm,e,hs,x,h=>by unfold jO at h;exact hs x h
 |p::ps,sm,e,hs,x,h=>by
  unfold jO at h
  refine se T ps _ e (λs h2=> ?_) x h
  obtain⟨u,hu,h2⟩:=bQ.mp h2
  obtain⟨t,ht,rfl⟩:=ay.mp h2
  exact aZ (hs u hu) (ll T p u.2 t ht)
theorem xt(T:List Nat):∀(ps:List Pt) (k e:Nat) x,x∈gi T ps k e->e<=x.2
 |[],k,e,x,h=>by simp[gi]at h
 |p::ps,k,e,x,h=>by
  unfold gi at h
  rcases bj.mp h with h|h
  ·obtain⟨t,ht,rfl⟩:=ay.mp h
   exact ll T p e t ht
  ·exact xt T ps (k+1) e x h
end
mutual
theorem fX(T:List Nat):∀(p:Pt) (e:Nat),e<=T.length->∀x,x∈bq T p e->x.2<=T.length
 | .none,e,he,x,h=>by simp[bq]at h
 | .blank,e,he,x,h=>by simp[bq]at h;rw[h];exact he
 | .sign s,e,he,x,h=>by
  unfold bq at h
  split at h
  ·rename_i c ec
   split at h
   ·cases aC.mp h;exact(aj.mp ec).1
   ·cases h
  ·cases h
 | .row ps,e,he,x,h=>by
  unfold bq at h
  obtain⟨s,hs,rfl⟩:=ay.mp h
  exact xh T ps [([],e)] (λs hs=>by cases aC.mp hs;exact he) s hs
 | .pick ps,e,he,x,h=>by unfold bq at h;exact xl T ps 0 e he x h
 | .again p,e,he,x,h=>by
  unfold bq at h
  obtain⟨s,hs,rfl⟩:=ay.mp h
  exact C7 (λe he x hx=>fX T p e he x hx) _ _ he s hs
 | .held n p,e,he,x,h=>by
  unfold bq at h
  obtain⟨s,hs,rfl⟩:=ay.mp h
  exact fX T p e he s hs
 | .price n p,e,he,x,h=>by
  unfold bq at h
  obtain⟨s,hs,rfl⟩:=ay.mp h
  exact fX T p e he s hs
theorem xh(T:List Nat):∀(ps:List Pt) (sm:List (List Tr×Nat)),(∀s∈sm,s.2<=T.length)->∀x,x∈jO T ps sm->x.2<=T.length
 |[],sm,hs,x,h=>by unfold jO at h;exact hs x h
 |p::ps,sm,hs,x,h=>by
  unfold jO at h
  refine xh T ps _ (λs h2=> ?_) x h
  obtain⟨u,hu,h2⟩:=bQ.mp h2
  obtain⟨t,ht,rfl⟩:=ay.mp h2
  exact fX T p u.2 (hs u hu) t ht
theorem xl(T:List Nat):∀(ps:List Pt) (k e:Nat),e<=T.length->∀x,x∈gi T ps k e->x.2<=T.length
 |[],k,e,he,x,h=>by simp[gi]at h
 |p::ps,k,e,he,x,h=>by
  unfold gi at h
  rcases bj.mp h with h|h
  ·obtain⟨t,ht,rfl⟩:=ay.mp h
   exact fX T p e he t ht
  ·exact xl T ps (k+1) e he x h
end
mutual
theorem lj(T:List Nat):∀(p:Pt) (e:Nat),gU p=false->∀x,x∈bq T p e->e<x.2
 | .none,e,hc,x,h=>by simp[bq]at h
 | .blank,e,hc,x,h=>by simp[gU]at hc
 | .sign s,e,hc,x,h=>by
  unfold bq at h
  split at h
  ·split at h
   ·cases aC.mp h;exact fZ _
   ·cases h
  ·cases h
 | .row ps,e,hc,x,h=>by
  unfold bq at h
  obtain⟨s,hs,rfl⟩:=ay.mp h
  exact xi T ps [([],e)] e (by simpa [gU]using hc) (λs hs=>by cases aC.mp hs;exact aq _) s hs
 | .pick ps,e,hc,x,h=>by unfold bq at h;exact xp T ps 0 e (by simpa [gU]using hc) x h
 | .again p,e,hc,x,h=>by simp[gU]at hc
 | .held n p,e,hc,x,h=>by
  unfold bq at h
  obtain⟨s,hs,rfl⟩:=ay.mp h
  exact lj T p e (by simpa [gU]using hc) s hs
 | .price n p,e,hc,x,h=>by
  unfold bq at h
  obtain⟨s,hs,rfl⟩:=ay.mp h
  exact lj T p e (by simpa [gU]using hc) s hs
theorem xi(T:List Nat):∀(ps:List Pt) (sm:List (List Tr×Nat)) (e:Nat),CZ ps=false->(∀s∈sm,e<=s.2)->∀x,x∈jO T ps sm->e<x.2
 |[],sm,e,hc,hs,x,h=>by simp[CZ]at hc
 |p::ps,sm,e,hc,hs,x,h=>by
  unfold jO at h
  cases hp:gU p with
  |true=>
   refine xi T ps _ e (by simpa [CZ,hp]using hc) (λs h2=> ?_) x h
   obtain⟨u,hu,h2⟩:=bQ.mp h2
   obtain⟨t,ht,rfl⟩:=ay.mp h2
   exact aZ (hs u hu) (ll T p u.2 t ht)
  |false=>
   refine se T ps _ (e+1) (λs h2=> ?_) x h
   obtain⟨u,hu,h2⟩:=bQ.mp h2
   obtain⟨t,ht,rfl⟩:=ay.mp h2
   exact ja (hs u hu) (lj T p u.2 hp t ht)
theorem xp(T:List Nat):∀(ps:List Pt) (k e:Nat),CY ps=false->∀x,x∈gi T ps k e->e<x.2
 |[],k,e,hc,x,h=>by simp[gi]at h
 |p::ps,k,e,hc,x,h=>by
  unfold gi at h
  have hc':gU p=false/\CY ps=false:=by simpa [CY]using hc
  rcases bj.mp h with h|h
  ·obtain⟨t,ht,rfl⟩:=ay.mp h
   exact lj T p e hc'.1 t ht
  ·exact xp T ps (k+1) e hc'.2 x h
end
theorem C5{L:Nat}{f:Nat->List (Tr×Nat)}(h:∀e,e<=L->∀x,x∈f e->e<x.2/\x.2<=L):∀(n m e:Nat),e<=L->L+1-e<=n->L+1-e<=m->yL f n e=yL f m e
 |0,m,e,he,hn,_=>by ac_nf
 |n+1,0,e,he,_,hm=>by ac_nf
 |n+1,m+1,e,he,hn,hm=>by
  unfold yL
  congr 1
  refine p0 λt ht=> ?_
  obtain⟨h1,h2⟩:=h e he t ht
  rw[C5 h n m t.2 h2 (by ac_nf) (by ac_nf)]
theorem qO{T:List Nat}{p:Pt}{e:Nat}(hc:gU p=false)(he:e<=T.length):bq T (.again p) e=((bq T p e).flatMap λt=>(bq T (.again p) t.2).map λu=>(Tr.again (t.1::(match u.1 with| .again ts=>ts|_=>[])),u.2))++[(.again [],e)]:=by
 have hf:∀e,e<=T.length->∀x,x∈bq T p e->e<x.2/\x.2<=T.length:=λe he x hx=>⟨lj T p e hc x hx,fX T p e he x hx⟩
 conv=>lhs;unfold bq
 have e1:T.length+1-e=(T.length-e)+1:=by ac_nf
 rw[e1]
 unfold yL
 rw[bD,List.map_flatMap]
 congr 1
 refine p0 λt ht=> ?_
 obtain⟨h1,h2⟩:=hf e he t ht
 conv=>rhs;unfold bq
 rw[C5 hf (T.length-e) (T.length+1-t.2) t.2 h2 (by ac_nf) (by ac_nf),cF,cF]
 rfl
noncomputable def jz{α:Type}(l:List (α×Nat))(j:Nat):Nat:=l.countP λs=>s.2==j
noncomputable def nT(T:List Nat)(p:Pt)(e j:Nat):Nat:=jz (bq T p e) j
noncomputable def ie:Nat->(Nat->Nat)->Nat
 |0,_=>0
 |n+1,f=>ie n f+f n
theorem fA{n:Nat}{f g:Nat->Nat}(h:∀k,k<n->f k=g k):ie n f=ie n g:=by
 induction n with
 |zero=>rfl
 |succ n ih=>simp only[ie];rw[ih λk hk=>h k (by ac_nf),h n (by ac_nf)]
theorem tV{n:Nat}{f g:Nat->Nat}:ie n (λk=>f k+g k)=ie n f+ie n g:=by
 induction n with
 |zero=>rfl
 |succ n ih=>simp only[ie];ac_nf
theorem mZ{n:Nat}:ie n (λ_=>0)=0:=by
 induction n with
 |zero=>rfl
 |succ n ih=>simp only[ie];ac_nf
theorem pq{n i:Nat}{g:Nat->Nat}(h:i<n):ie n (λk=>if i=k then g k else 0)=g i:=by
 induction n with
 |zero=>ac_nf
 |succ n ih=>
  simp only[ie]
  by_cases e:i=n
  ·subst e
   rw[if_pos rfl,fA (g:=λ_=>0) λk hk=>if_neg (by ac_nf),mZ]
   ac_nf
  ·rw[if_neg e,ih (by ac_nf)];ac_nf
theorem ky{α β:Type}(l:List (α×Nat))(f:α->β)(j:Nat):jz (l.map λs=>(f s.1,s.2)) j=jz l j:=by
 unfold jz;rw[List.countP_map];rfl
theorem lB{α:Type}(l m:List (α×Nat))(j:Nat):jz (l++m) j=jz l j+jz m j:=by unfold jz;rw[List.countP_append]
theorem mI{α:Type}(x:α)(e j:Nat):jz [(x,e)] j=if e=j then 1 else 0:=by
 unfold jz
 by_cases h:e=j
 ·rw[if_pos h,List.countP_cons_of_pos (by simpa using h)];rfl
 ·rw[if_neg h,List.countP_cons_of_neg (by simpa using h)];rfl
theorem Mi{α:Type}{n:Nat}{g:Nat->Nat}:∀(l:List (α×Nat)),(∀s∈l,s.2<n)->(l.map λs=>g s.2).sum=ie n λk=>jz l k*g k
 |[],_=>by
  show 0=_
  rw[fA (g:=λ_=>0) λk _=>by simp[jz],mZ]
 |s::l,h=>by
  have e:∀k,jz (s::l) k*g k=jz l k*g k+if s.2=k then g k else 0:=λk=>by
   have:jz (s::l) k=jz [s] k+jz l k:=lB [s] l k
   rw[this,mI s.1 s.2 k,Nat.add_mul]
   split<;>simp[Nat.add_comm]
  rw[aD,dN,Mi l λs hs=>h s (by simp[hs]),fA λk _=>e k,tV,pq (h s (by simp))]
  ac_nf
theorem n9{α β:Type}(l:List (α×Nat))(F:α×Nat->List (β×Nat))(j:Nat):jz (l.flatMap F) j=(l.map λs=>jz (F s) j).sum:=by
 unfold jz;rw[List.countP_flatMap];rfl
noncomputable def qS(T:List Nat)(p:Pt)(w:Nat->Nat):Nat->Nat:=λj=>ie (T.length+1) λk=>w k*nT T p k j
noncomputable def pD(T:List Nat):List Pt->(Nat->Nat)->Nat->Nat
 |[],w=>w
 |p::ps,w=>pD T ps (qS T p w)
theorem tO(T:List Nat):∀(ps:List Pt) (sm:List (List Tr×Nat)),(∀s∈sm,s.2<=T.length)->∀j,jz (jO T ps sm) j=pD T ps (jz sm) j
 |[],sm,_,j=>by unfold jO pD;rfl
 |p::ps,sm,h,j=>by
  unfold jO pD
  rw[tO T ps _ (λs h2=>by
   obtain⟨u,hu,h2⟩:=bQ.mp h2
   obtain⟨t,ht,rfl⟩:=ay.mp h2
   exact fX T p u.2 (h u hu) t ht) j]
  congr 1
  funext i
  rw[n9]
  have:(sm.map λs=>jz ((bq T p s.2).map λt=>(s.1++[t.1],t.2)) i)=sm.map λs=>nT T p s.2 i:=gh λs _=>ky (bq T p s.2) (λt=>s.1++[t]) i
  rw[this]
  exact Mi (g:=λk=>nT T p k i) sm λs hs=>qp (h s hs)
theorem HR{T:List Nat}{ps:List Pt}{e j:Nat}(he:e<=T.length):nT T (.row ps) e j=pD T ps (λk=>if e=k then 1 else 0) j:=by
 show jz (bq T (.row ps) e) j=_
 unfold bq
 rw[ky (jO T ps [([],e)]) Tr.row,tO T ps _ (λs hs=>by cases aC.mp hs;exact he)]
 congr 1
 funext k
 exact mI _ e k
theorem tP(T:List Nat):∀(ps:List Pt) (k e j:Nat),jz (gi T ps k e) j=(ps.map λp=>nT T p e j).sum
 |[],k,e,j=>by unfold gi;rfl
 |p::ps,k,e,j=>by
  unfold gi
  rw[lB,ky (bq T p e) (Tr.pick (k:Int)),tP T ps (k+1) e j,aD,dN]
  rfl
theorem yj{T:List Nat}{ps:List Pt}{e j:Nat}:nT T (.pick ps) e j=(ps.map λp=>nT T p e j).sum:=by
 show jz (bq T (.pick ps) e) j=_
 unfold bq
 exact tP T ps 0 e j
theorem iq{T:List Nat}{p:Pt}{e j:Nat}(hc:gU p=false)(he:e<=T.length):nT T (.again p) e j=(if e=j then 1 else 0)+ie (T.length+1) λk=>nT T p e k*nT T (.again p) k j:=by
 show jz (bq T (.again p) e) j=_
 rw[qO hc he,lB,mI,n9]
 have:((bq T p e).map λt=>jz ((bq T (.again p) t.2).map λu=>(Tr.again (t.1::(match u.1 with| .again ts=>ts|_=>[])),u.2)) j)=(bq T p e).map λt=>nT T (.again p) t.2 j:=gh λt _=>ky (bq T (.again p) t.2) (λu=>Tr.again (t.1::(match u with| .again ts=>ts|_=>[]))) j
 rw[this,Mi (g:=λk=>nT T (.again p) k j) (bq T p e) λs hs=>qp (fX T p e he s hs)]
 exact Nat.add_comm _ _
theorem yk{T:List Nat}{n:Str}{p:Pt}{e j:Nat}:nT T (.held n p) e j=nT T p e j:=by
 show jz (bq T (.held n p) e) j=_
 unfold bq
 exact ky (bq T p e) (Tr.held n) j
theorem uz{T:List Nat}{n:Int}{p:Pt}{e j:Nat}:nT T (.price n p) e j=nT T p e j:=by
 show jz (bq T (.price n p) e) j=_
 unfold bq
 exact ky (bq T p e) (Tr.price n) j
theorem BD{T:List Nat}{e j:Nat}:nT T .blank e j=if e=j then 1 else 0:=mI _ e j
theorem jX{T:List Nat}{p:Pt}{e j:Nat}(he:e<=T.length)(hj:T.length<j):nT T p e j=0:=by
 show List.countP _ _=0
 rw[List.countP_eq_zero]
 intro x hx
 have:=fX T p e he x hx
 simp;ac_nf
theorem jW{T:List Nat}{p:Pt}{e j:Nat}(hc:gU p=false)(hj:j<=e):nT T p e j=0:=by
 show List.countP _ _=0
 rw[List.countP_eq_zero]
 intro x hx
 have:=lj T p e hc x hx
 simp;ac_nf
noncomputable abbrev Ws:=List (Nat×Nat)
noncomputable def eL(ws:Ws):List (Key×PV):=ws.map λw=>(.inl (w.1:Int),.int (w.2:Int))
noncomputable def jy:Ws->Nat->Nat
 |[],_=>0
 |w::ws,j=>if w.1=j then w.2 else jy ws j
noncomputable def iz:Ws->Nat->Nat->Ws
 |[],j,c=>[(j,c)]
 |w::ws,j,c=>if w.1=j then(j,c)::ws else w::iz ws j c
theorem kr(w:Nat×Nat)(ws:Ws):eL (w::ws)=(.inl (w.1:Int),.int (w.2:Int))::eL ws:=rfl
theorem pR{i j:Nat}(h:¬i=j):¬(Sum.inl (i:Int):Key)=Sum.inl (j:Int):=λe=>h (im.mp (Sum.inl.inj e))
theorem eF(k:Key)(p:PV)(kvs:List (Key×PV))(x:Key):gF ((k,p)::kvs) x=if k=x then some p else gF kvs x:=by
 unfold gF
 by_cases h:k=x
 ·rw[if_pos h,List.find?_cons_of_pos (by simpa using h)];rfl
 ·rw[if_neg h,List.find?_cons_of_neg (by simpa using h)]
theorem lW:∀(ws:Ws) (j:Nat),(∀w∈ws,0<w.2)->gF (eL ws) (.inl (j:Int))=if jy ws j=0 then none else some (.int (jy ws j:Int))
 |[],j,_=>rfl
 |w::ws,j,h=>by
  rw[kr,eF]
  unfold jy
  by_cases e:w.1=j
  ·have:=h w (by simp)
   rw[if_pos (by rw[e]),if_pos e,if_neg (by ac_nf)]
  ·rw[if_neg (pR e),if_neg e]
   exact lW ws j λx hx=>h x (by simp[hx])
theorem tK{ws:Ws}{j:Nat}(h:∀w∈ws,0<w.2):(gF (eL ws) (.inl (j:Int))).getD (.int 0)= .int (jy ws j:Int):=by
 rw[lW ws j h]
 split
 ·rename_i e;rw[e];rfl
 ·rfl
theorem qz{k:Key}{p v:PV}{kvs:List (Key×PV)}(h:k∉kvs.map (·.1)):iY ((k,p)::kvs) k v=(k,v)::kvs:=by
 unfold iY
 rw[if_pos (by simp)]
 rw[aD,if_pos rfl]
 congr 1
 have:∀kv∈kvs,(if kv.1=k then(kv.1,v)else kv)=kv:=λkv hk=>if_neg λe=>h (ay.mpr ⟨kv,hk,e⟩)
 rw[gh this,List.map_id']
theorem kT{k x:Key}{p v:PV}{kvs:List (Key×PV)}(h:¬k=x):iY ((k,p)::kvs) x v=(k,p)::iY kvs x v:=by
 unfold iY
 have e:(((k,p)::kvs).any λkv=>decide (kv.1=x))=(kvs.any λkv=>decide (kv.1=x)):=by
  rw[cK];simp[h]
 rw[e]
 split
 ·rw[aD,if_neg h]
 ·rfl
theorem pE:∀(ws:Ws) (j c:Nat),(ws.map (·.1)).Nodup->iY (eL ws) (.inl (j:Int)) (.int (c:Int))=eL (iz ws j c)
 |[],j,c,_=>rfl
 |w::ws,j,c,h=>by
  have h':=bp.mp (show(w.1::ws.map (·.1)).Nodup from h)
  rw[kr]
  unfold iz
  by_cases e:w.1=j
  ·rw[if_pos e,e,qz,kr]
   intro hm
   obtain⟨kv,hk,e2⟩:=ay.mp hm
   obtain⟨x,hx,rfl⟩:=ay.mp hk
   have:x.1=j:=im.mp (Sum.inl.inj e2)
   exact h'.1 (ay.mpr ⟨x,hx,by rw[this,e]⟩)
  ·rw[if_neg e,kT (pR e),pE ws j c h'.2,kr]
theorem yp:∀(ws:Ws) (j c i:Nat),jy (iz ws j c) i=if j=i then c else jy ws i
 |[],j,c,i=>by unfold iz jy;rfl
 |w::ws,j,c,i=>by
  unfold iz
  by_cases e:w.1=j
  ·rw[if_pos e]
   unfold jy
   by_cases e2:j=i
   ·rw[if_pos e2,if_pos e2]
   ·rw[if_neg e2,if_neg e2,if_neg (by rw[e];exact e2)]
  ·rw[if_neg e]
   unfold jy
   rw[yp ws j c i]
   by_cases e2:w.1=i
   ·rw[if_pos e2,if_pos e2,if_neg (λz=>e (by rw[e2,z]))]
   ·rw[if_neg e2,if_neg e2]
theorem mf:∀{ws:Ws} {j c:Nat} {x:Nat×Nat},x∈iz ws j c->x=(j,c)\/x∈ws
 |[],j,c,x,h=>by unfold iz at h;exact .inl (aC.mp h)
 |w::ws,j,c,x,h=>by
  unfold iz at h
  split at h
  ·rcases aA.mp h with h|h
   ·exact .inl h
   ·exact .inr (by simp[h])
  ·rcases aA.mp h with h|h
   ·exact .inr (by simp[h])
   ·rcases mf h with h|h
    ·exact .inl h
    ·exact .inr (by simp[h])
theorem kh:∀{ws:Ws} {j c:Nat},(ws.map (·.1)).Nodup->((iz ws j c).map (·.1)).Nodup
 |[],j,c,h=>by unfold iz;simp
 |w::ws,j,c,h=>by
  have h':=bp.mp (show(w.1::ws.map (·.1)).Nodup from h)
  unfold iz
  by_cases e:w.1=j
  ·rw[if_pos e]
   exact bp.mpr ⟨by rw[<-e];exact h'.1,h'.2⟩
  ·rw[if_neg e]
   refine bp.mpr ⟨λhm=> ?_,kh h'.2⟩
   obtain⟨x,hx,ex⟩:=ay.mp hm
   rcases mf hx with rfl|hx
   ·exact e ex.symm
   ·exact h'.1 (ay.mpr ⟨x,hx,ex⟩)
structure Wy(ws:Ws)(n:Nat)(f:Nat->Nat):Prop where
 nd:(ws.map (·.1)).Nodup
 lt:∀w∈ws,w.1<n
 pos:∀w∈ws,0<w.2
 val:∀j,jy ws j=f j
theorem Wy.nil{n:Nat}:Wy [] n λ_=>0:=⟨by simp,by simp,by simp,λ_=>rfl⟩
theorem Wy.one{n e:Nat}(h:e<n):Wy [(e,1)] n λk=>if e=k then 1 else 0:=⟨by simp,by simpa using h,by simp,λj=>rfl⟩
theorem Wy.congr{ws:Ws}{n:Nat}{f g:Nat->Nat}(h:Wy ws n f)(e:∀j,f j=g j):Wy ws n g:=⟨h.nd,h.lt,h.pos,λj=>(h.val j).trans (e j)⟩
theorem mi:∀(n:Nat) (l:List Nat),l.Nodup->(∀x∈l,x<n)->l.length<=n
 |0,l,_,hl=>by
  cases l with
  |nil=>exact aq _
  |cons x l=>exact absurd (hl x (by simp)) (iD _)
 |n+1,l,hn,hl=>by
  have h1:=mi n (l.filter (· !=n)) (hn.filter _) λx hx=>by
   have:=hl x (gy.mp hx).1
   have h2:=(gy.mp hx).2
   simp at h2
   ac_nf
  have h2:=List.nodup_iff_count.mp hn n
  have h3:=List.length_eq_countP_add_countP (p:=(· !=n)) (l:=l)
  rw[rM (p:=(· !=n))]at h3
  have h4:l.countP (λa=>decide (¬(a !=n)=true))=l.count n:=by
   unfold List.count
   congr 1
   funext a
   by_cases e:a=n<;>simp[e]
  ac_nf
theorem Wy.len{ws:Ws}{n:Nat}{f:Nat->Nat}(h:Wy ws n f):ws.length<=n:=by
 have:=mi n (ws.map (·.1)) h.nd λx hx=>by obtain⟨w,hw,rfl⟩:=ay.mp hx;exact h.lt w hw
 simpa using this
theorem Wy.put{ws:Ws}{n k c:Nat}{f:Nat->Nat}(h:Wy ws n f)(hk:k<n)(hc:0<c):Wy (iz ws k (jy ws k+c)) n λj=>f j+if k=j then c else 0:=
 ⟨kh h.nd,λw hw=>by rcases mf hw with rfl|hw;exact hk;exact h.lt w hw,λw hw=>by rcases mf hw with rfl|hw;(show 0<jy ws k+c;ac_nf);exact h.pos w hw,λj=>by
  rw[yp]
  by_cases e:k=j
  ·rw[if_pos e,if_pos e,e,h.val]
  ·rw[if_neg e,if_neg e,h.val];ac_nf⟩
noncomputable def lD(t:Nat):Ws->Ws->Ws
 |ws,[]=>ws
 |ws,w::ms=>lD t (iz ws w.1 (jy ws w.1+w.2*t)) ms
theorem rJ(t:Nat):∀(ms ws:Ws) (w:Nat×Nat),lD t ws (ms++[w])=iz (lD t ws ms) w.1 (jy (lD t ws ms) w.1+w.2*t)
 |[],ws,w=>rfl
 |m::ms,ws,w=>by
  show lD t (iz ws m.1 (jy ws m.1+m.2*t)) (ms++[w])=_
  rw[rJ t ms]
  rfl
theorem mn:∀{ms:Ws} {j:Nat},j∉ms.map (·.1)->jy ms j=0
 |[],_,_=>rfl
 |w::ms,j,h=>by
  unfold jy
  rw[aD,aA,not_or]at h
  rw[if_neg (aG h.1),mn h.2]
theorem Wy.add{t n:Nat}(ht:0<t):∀{ms ws:Ws} {f:Nat->Nat},Wy ws n f->(ms.map (·.1)).Nodup->(∀w∈ms,w.1<n)->(∀w∈ms,0<w.2)->Wy (lD t ws ms) n λj=>f j+jy ms j*t
 |[],ws,f,h,_,_,_=>h.congr λj=>by simp[jy]
 |m::ms,ws,f,h,nd,lt,ps=>by
  have nd':=bp.mp (show(m.1::ms.map (·.1)).Nodup from nd)
  refine(Wy.add ht (ms:=ms) (h.put (lt m (by simp)) (Nat.mul_pos (ps m (by simp)) ht)) nd'.2 (λw hw=>lt w (by simp[hw])) λw hw=>ps w (by simp[hw])).congr λj=> ?_
  show f j+(if m.1=j then m.2*t else 0)+jy ms j*t=f j+(if m.1=j then m.2 else jy ms j)*t
  by_cases e:m.1=j
  ·rw[if_pos e,if_pos e,mn (by rw[<-e];exact nd'.1)];ac_nf
  ·rw[if_neg e,if_neg e];ac_nf
theorem Wy.put_part{t n i:Nat}{ms ws:Ws}{f g:Nat->Nat}(ht:0<t)(h:Wy ws n f)(hm:Wy ms n g):Wy (lD t ws (ms.take i)) n λj=>f j+jy (ms.take i) j*t:=
 h.add ht (hm.nd.sublist ((List.take_sublist i ms).map _)) (λw hw=>hm.lt w (lI hw)) λw hw=>hm.pos w (lI hw)
theorem zS{t i:Nat}{ms ws:Ws}{w:Nat×Nat}(h:ms[i]? =some w):lD t ws (ms.take (i+1))=iz (lD t ws (ms.take i)) w.1 (jy (lD t ws (ms.take i)) w.1+w.2*t):=by
 rw[lG,h]
 exact rJ t _ ws w
theorem nw:∀{ms:Ws} {i:Nat} {w:Nat×Nat},(ms.map (·.1)).Nodup->ms[i]? =some w->jy ms w.1=w.2
 |[],i,w,_,h=>by simp at h
 |m::ms,0,w,nd,h=>by
  simp at h;subst h
  unfold jy;rw[if_pos rfl]
 |m::ms,i+1,w,nd,h=>by
  have nd':=bp.mp (show(m.1::ms.map (·.1)).Nodup from nd)
  have h':ms[i]? =some w:=by simpa using h
  have hm:w∈ms:=ax h'
  unfold jy
  rw[if_neg (λe=>nd'.1 (ay.mpr ⟨w,hm,e.symm⟩))]
  exact nw nd'.2 h'
theorem IZ{n:Nat}{h:Nat->Nat}:∀{ws:Ws},(ws.map (·.1)).Nodup->(∀w∈ws,w.1<n)->(ws.map λw=>h w.1*w.2).sum=ie n λk=>jy ws k*h k
 |[],_,_=>by
  show 0=_
  rw[fA (g:=λ_=>0) λk _=>by simp[jy],mZ]
 |w::ws,nd,lt=>by
  have nd':=bp.mp (show(w.1::ws.map (·.1)).Nodup from nd)
  rw[aD,dN,IZ nd'.2 λx hx=>lt x (by simp[hx])]
  have e:∀k,jy (w::ws) k*h k=jy ws k*h k+if w.1=k then w.2*h k else 0:=λk=>by
   show(if w.1=k then w.2 else jy ws k)*h k=_
   by_cases e:w.1=k
   ·rw[if_pos e,if_pos e,mn (by rw[<-e];exact nd'.1)];ac_nf
   ·rw[if_neg e,if_neg e];ac_nf
  rw[fA λk _=>e k,tV,pq (g:=λk=>w.2*h k) (lt w (by simp)),kK]
  ac_nf
noncomputable def qC(l:List Nat):Str:=⟨l.toArray⟩
theorem gM(l:List Nat):(qC l).length=l.length:=by
 show l.toArray.size=_
 rw[ap]
theorem yn(l:List Nat):(qC l).cps.toList=l:=List.toList_toArray
theorem pp{n:Nat}{f:Nat->Nat}(h:ie n f≠0):∃k,k<n/\f k≠0:=by
 induction n with
 |zero=>exact absurd rfl h
 |succ n ih=>
  by_cases e:f n=0
  ·obtain⟨k,hk,h2⟩:=ih (by intro z;apply h;show ie n f+f n=0;ac_nf)
   exact⟨k,by ac_nf,h2⟩
  ·exact⟨n,by ac_nf,e⟩
theorem BC{T:List Nat}{p:Pt}{e j:Nat}(h:nT T p e j≠0):e<=j:=by
 have:0<nT T p e j:=fz h
 obtain⟨x,hx,hp⟩:=List.countP_pos_iff.mp this
 have h1:=ll T p e x hx
 have h2:x.2=j:=by simpa using hp
 ac_nf
noncomputable def dl(e:Nat):Nat->Nat:=λk=>if e=k then 1 else 0
theorem yb{T:List Nat}{lo:Nat}:∀(ps:List Pt) {w:Nat->Nat},(∀k,w k≠0->lo<=k)->∀k,pD T ps w k≠0->lo<=k
 |[],w,h,k,hk=>h k hk
 |p::ps,w,h,k,hk=>by
  refine yb ps (w:=qS T p w) (λj hj=> ?_) k hk
  obtain⟨i,_,hi⟩:=pp hj
  have h1:w i≠0:=λz=>hi (by rw[z,Nat.zero_mul])
  have h2:nT T p i j≠0:=λz=>hi (by rw[z,Nat.mul_zero])
  exact aZ (h i h1) (BC h2)
theorem LQ{e k:Nat}(h:dl e k≠0):e<=k:=by
 unfold dl at h
 split at h
 ·ac_nf
 ·exact absurd rfl h
theorem qY(T:List Nat)(c:Pt):∀(ps:List Pt) (w:Nat->Nat),pD T (ps++[c]) w=qS T c (pD T ps w)
 |[],w=>rfl
 |p::ps,w=>qY T c ps (qS T p w)
theorem tY{T:List Nat}{p:Pt}{e j:Nat}(he:e<=T.length):qS T p (dl e) j=nT T p e j:=by
 show ie (T.length+1) (λk=>dl e k*nT T p k j)=_
 rw[fA (g:=λk=>if e=k then nT T p k j else 0) λk _=>by unfold dl;split<;>simp]
 exact pq (by ac_nf)
noncomputable def GV:Pt->Bool
 | .row _=>true
 | .held _ _=>true
 | .price _ _=>true
 | .blank=>true
 |_=>false
theorem kj{T:List Nat}{q:Pt}{e j:Nat}(h:GV q=true)(he:e<=T.length):nT T q e j=pD T (cy q) (dl e) j:=by
 cases q with
 |row ps=>exact HR he
 |held n p=>rw[yk];exact(tY he).symm
 |price n p=>rw[uz];exact(tY he).symm
 |blank=>exact BD
 |_=>cases h
theorem Wy.key{ws:Ws}{n:Nat}{f:Nat->Nat}{i:Nat}{w:Nat×Nat}(h:Wy ws n f)(e:ws[i]? =some w):f w.1=w.2/\0<w.2/\w.1<n:=by
 have hm:=ax e
 exact⟨by rw[<-h.val,nw h.nd e],h.pos w hm,h.lt w hm⟩
theorem Wy.read{ws:Ws}{n:Nat}{f:Nat->Nat}{i:Nat}{w:Nat×Nat}(h:Wy ws n f)(e:ws[i]? =some w):gF (eL ws) (.inl (w.1:Int))=some (.int (w.2:Int)):=by
 rw[lW ws w.1 h.pos,nw h.nd e,if_neg (by have:=h.pos w (ax e);ac_nf)]
structure Cs(T:List Nat)(p:Pt):Prop where
 len:T.length<=900
 siz:size p<=10000
 big:∀q∈makes p,∀e,e<=T.length->∀j,nT T q e j<2^64
 ag:∀q,Pt.again q∈makes p->gU q=false
noncomputable def JD(T:List Nat)(m pa tb:Addr):List (Str×PV):=[("signs",.str (qC T)),("makes",.ref m),("parts",.ref pa),("table",.ref tb)]
structure Tb(C:Addr)(G:Gp)(a:Addr)(T:List Nat)(p:Pt)(D:Nat->Nat->Prop)(dx m pa tb:Addr)(ts:List Addr):Prop where
 ins:G a=some (.ins C dx (JD T m pa tb))
 mks:G m=some (.lst (eI (makes p)))
 pts:G pa=some (.lst (fY p))
 tbl:G tb=some (.lst (ts.map PV.ref))
 tl:ts.length=size p
 row:∀(i:Nat) (t:Addr),ts[i]? =some t->∃kvs,G t=some (.dK kvs)/\∀q,(makes p)[i]? =some q->∀e,D i e->e<=T.length->∃d ws,gF kvs (.inl (e:Int))=some (.ref d)/\G d=some (.rd (eL ws))/\Wy ws (T.length+1) (nT T q e)
theorem Tb.ge{C a dx m pa tb:Addr}{G G':Gp}{T:List Nat}{p:Pt}{D:Nat->Nat->Prop}{ts:List Addr}(h:Tb C G a T p D dx m pa tb ts)(g:GE G G'):Tb C G' a T p D dx m pa tb ts:=
 ⟨g _ _ h.ins,g _ _ h.mks,g _ _ h.pts,g _ _ h.tbl,h.tl,λi t e=>by
  obtain⟨kvs,h1,h3⟩:=h.row i t e
  refine⟨kvs,g _ _ h1,λq hq e he hl=> ?_⟩
  obtain⟨d,ws,h4,h5,h6⟩:=h3 q hq e he hl
  exact⟨d,ws,h4,g _ _ h5,h6⟩⟩
noncomputable def Dn(n e:Nat):Nat->Nat->Prop:=λi k=>e<k\/k=e/\n<i
theorem Jp{α:Type}{ts:List Addr}{i:Nat}{t:Addr}(h:ts[i]? =some t):(ts.map PV.ref)[i]? =some (.ref t):=by rw[aI,h];rfl
theorem Dy{α:Type}{l:List α}{i:Nat}{x:α}(h:l[i]? =some x):l=l.take i++x::l.drop (i+1):=by
 obtain⟨hi,rfl⟩:=aj.mp h
 rw[List.getElem_cons_drop hi,gX]
theorem gq{p qq cc:Pt}{n i:Nat}{x:PV}(hq:(makes p)[n]? =some qq)(hcc:(cy qq)[i]? =some cc)(hx:((cz (n+1) (cy qq)).map dM)[i]? =some x):∃j:Nat,x= .int (j:Int)/\(makes p)[j]? =some cc/\n<j:=by
 have e1:=Dy hcc
 have hi:=(aj.mp hcc).1
 refine⟨n+1+dE ((cy qq).take i),?_,ue hq e1,by ac_nf⟩
 rw[e1,kZ,bD,bS (by rw[aB,dX,bz];ac_nf),aB,dX,bz,Nat.min_eq_left (by ac_nf),Nat.sub_self]at hx
 simp only[cz,aD,wV]at hx
 exact(a8 hx).symm
theorem Tb.read{C a dx m pa tb:Addr}{G:Gp}{T:List Nat}{p cc:Pt}{D:Nat->Nat->Prop}{ts:List Addr}{j k:Nat}(h:Tb C G a T p D dx m pa tb ts)(hj:(makes p)[j]? =some cc)(hd:D j k)(hk:k<=T.length):
  ∃t d kvs ms,(ts.map PV.ref)[j]? =some (.ref t)/\G t=some (.dK kvs)/\gF kvs (.inl (k:Int))=some (.ref d)/\G d=some (.rd (eL ms))/\Wy ms (T.length+1) (nT T cc k):=by
 have hjl:=(aj.mp hj).1
 rw[bJ,<-h.tl]at hjl
 obtain⟨kvs,h1,h3⟩:=h.row j ts[j] (ak hjl)
 obtain⟨d,ws,h4,h5,h6⟩:=h3 cc hj k hd hk
 exact⟨ts[j],d,kvs,ws,by rw[aI,ak hjl];rfl,h1,h4,h5,h6⟩
theorem Wy.big{T:List Nat}{p cc:Pt}{ms:Ws}{k:Nat}(cs:Cs T p)(hc:cc∈makes p)(hk:k<=T.length)(h:Wy ms (T.length+1) (nT T cc k)):∀w∈ms,w.2<2^64:=λw hw=>by
 obtain⟨i,hi⟩:=gY.mp hw
 rw[<-(h.key hi).1]
 exact cs.big cc hc k hk _
theorem i3(ws:Ws):(eL ws).map (λkv=>kP kv.1)=ws.map λw=>PV.int (w.1:Int):=by unfold eL;rw[cF];rfl
theorem yt{ws:Ws}{i:Nat}{x:PV}(h:(ws.map λw=>PV.int (w.1:Int))[i]? =some x):∃w,ws[i]? =some w/\x= .int (w.1:Int):=by
 rw[aI]at h
 cases e:ws[i]? with
 |none=>rw[e]at h;cases h
 |some w=>rw[e]at h;cases h;exact⟨w,rfl,rfl⟩
noncomputable def wa(T:List Nat)(c:Pt)(ws:Ws)(j:Nat):Nat:=(ws.map λw=>nT T c w.1 j*w.2).sum
theorem ra{T:List Nat}{c:Pt}{ws:Ws}{i j:Nat}{w:Nat×Nat}(h:ws[i]? =some w):wa T c (ws.take (i+1)) j=wa T c (ws.take i) j+nT T c w.1 j*w.2:=by
 unfold wa
 rw[lG,h]
 simp
theorem ux{T:List Nat}{c:Pt}{ws:Ws}{f:Nat->Nat}{j:Nat}(h:Wy ws (T.length+1) f):wa T c ws j=qS T c f j:=by
 unfold wa
 rw[IZ (h:=λk=>nT T c k j) h.nd h.lt]
 exact fA λk _=>by rw[h.val]
theorem o9{k k':Key}{v:PV}:∀(kvs:List (Key×PV)),gF (iY kvs k v) k'=if k=k' then some v else gF kvs k'
 |[]=>by
  show gF [(k,v)] k'=_
  rw[eF]
 |(x,p)::kvs=>by
  by_cases e:x=k
  ·subst e
   unfold iY
   rw[if_pos (by simp),aD,if_pos rfl,eF]
   by_cases e2:x=k'
   ·rw[if_pos e2,if_pos e2]
   ·rw[if_neg e2,if_neg e2,eF,if_neg e2]
    clear p
    induction kvs with
    |nil=>rfl
    |cons y ys ih=>
     obtain⟨y1,y2⟩:=y
     rw[aD]
     by_cases e3:y1=x
     ·rw[if_pos e3,eF,eF,ih,e3,if_neg e2,if_neg e2]
     ·rw[if_neg e3,eF,eF,ih]
  ·rw[kT e,eF,eF,o9 kvs]
   by_cases e2:k=k'
   ·rw[if_pos e2,if_pos e2,if_neg (by rw[<-e2];exact e)]
   ·rw[if_neg e2,if_neg e2]
theorem ut{k:Key}{v:PV}(kvs:List (Key×PV)):(iY kvs k v).length<=kvs.length+1:=by
 unfold iY
 split
 ·rw[aB];ac_nf
 ·rw[aM];exact aq _
section
variable{C a dx m pa tb t d:Addr}{G:Gp}{T:List Nat}{p q:Pt}{D D':Nat->Nat->Prop}{ts:List Addr}{n e:Nat}{kvs:List (Key×PV)}{ws:Ws}
theorem Tb.mono(h:Tb C G a T p D dx m pa tb ts)(hd:∀j e,e<=T.length->D' j e->D j e):Tb C G a T p D' dx m pa tb ts:=
 ⟨h.ins,h.mks,h.pts,h.tbl,h.tl,λi t e=>by
  obtain⟨kvs,h1,h3⟩:=h.row i t e
  exact⟨kvs,h1,λq hq e he hl=>h3 q hq e (hd _ _ hl he) hl⟩⟩
theorem Tb.mono'(h:Tb C G a T p D dx m pa tb ts)(hd:∀j e,j<size p->e<=T.length->D' j e->D j e):Tb C G a T p D' dx m pa tb ts:=
 ⟨h.ins,h.mks,h.pts,h.tbl,h.tl,λi t e=>by
  obtain⟨kvs,h1,h3⟩:=h.row i t e
  have hi:=(aj.mp e).1
  rw[h.tl]at hi
  exact⟨kvs,h1,λq hq e he hl=>h3 q hq e (hd _ _ hi hl he) hl⟩⟩
theorem Tb.write(h:Tb C G a T p D dx m pa tb ts)(nd:ts.Nodup)(ht:ts[n]? =some t)(hq:(makes p)[n]? =some q)(hk:G t=some (.dK kvs))(hd:G d=none)(hw:Wy ws (T.length+1) (nT T q e))
  (hD:∀j k,k<=T.length->D' j k->D j k\/(j=n/\k=e)):Tb C (up (up G d (.rd (eL ws))) t (.dK (iY kvs (.inl (e:Int)) (.ref d)))) a T p D' dx m pa tb ts:=by
 have nt:∀{b:Addr} {o:MO},G b=some o->(∀k,o≠ .dK k)->up (up G d (.rd (eL ws))) t (.dK (iY kvs (.inl (e:Int)) (.ref d))) b=some o:=fun{b o} hb ho=>by
  rw[aK (λz=>by rw[z,hk]at hb;cases hb;exact ho _ rfl),aK (bt hb hd)];exact hb
 refine⟨nt h.ins (by simp),nt h.mks (by simp),nt h.pts (by simp),nt h.tbl (by simp),h.tl,λi t' hi=> ?_⟩
 obtain⟨kvs',h1,h3⟩:=h.row i t' hi
 by_cases e1:i=n
 ·subst e1
  rw[ht]at hi;cases hi
  rw[hk]at h1;cases h1
  refine⟨_,ao,λq' hq' k hk' hl=> ?_⟩
  rw[hq]at hq';cases hq'
  rw[o9]
  by_cases e2:k=e
  ·subst e2
   exact⟨d,ws,if_pos rfl,by rw[aK (λz=>by rw[z,hk]at hd;cases hd),ao],hw⟩
  ·rcases hD i k hl hk' with z|⟨_,z⟩
   ·obtain⟨d',ws',h4,h5,h6⟩:=h3 q hq k z hl
    exact⟨d',ws',by rw[if_neg (pR (aG e2))];exact h4,nt h5 (by simp),h6⟩
   ·exact absurd z e2
 ·have net:t'≠t:=λz=>by
   subst z
   have h1:=(aj.mp hi)
   have h2:=(aj.mp ht)
   obtain⟨a1,b1⟩:=h1
   obtain⟨a2,b2⟩:=h2
   have pw:=vg.mp nd
   rcases Nat.lt_or_gt_of_ne e1 with z|z
   ·exact pw i n a1 a2 z (by rw[b1,b2])
   ·exact pw n i a2 a1 z (by rw[b1,b2])
  refine⟨kvs',by rw[aK net,aK (bt h1 hd)];exact h1,λq' hq' k hk' hl=> ?_⟩
  rcases hD i k hl hk' with z|⟨z,_⟩
  ·obtain⟨d',ws',h4,h5,h6⟩:=h3 q' hq' k z hl
   exact⟨d',ws',h4,nt h5 (by simp),h6⟩
  ·exact absurd z e1
end
section
end
theorem qR{n i:Nat}{f:Nat->Nat}(h:i<n):f i<=ie n f:=by
 induction n with
 |zero=>ac_nf
 |succ n ih=>
  simp only[ie]
  by_cases e:i=n
  ·subst e;ac_nf
  ·have:=ih (by ac_nf);ac_nf
noncomputable def bB{α:Type}(o:Nat->Nat)(l:List (α×Nat)):Nat:=(l.map λx=>o x.2).sum
noncomputable def pk{α:Type}(o:Nat->Nat):List (α×Nat)->Nat->Option (α×Nat×Nat)
 |[],_=>none
 |x::l,k=>if k<o x.2 then some (x.1,x.2,k)else pk o l (k-o x.2)
section
variable{α β:Type}{o:Nat->Nat}
theorem pk_cons(x:α×Nat)(l:List (α×Nat))(k:Nat):pk o (x::l) k=if k<o x.2 then some (x.1,x.2,k)else pk o l (k-o x.2):=rfl
theorem gj:bB o ([]:List (α×Nat))=0:=rfl
theorem eZ(x:α×Nat)(l:List (α×Nat)):bB o (x::l)=o x.2+bB o l:=by unfold bB;rw[aD,dN]
theorem jL(l m:List (α×Nat)):bB o (l++m)=bB o l+bB o m:=by unfold bB;rw[bD,List.sum_append]
theorem io(f:α->β)(l:List (α×Nat)):bB o (l.map λx=>(f x.1,x.2))=bB o l:=by unfold bB;rw[cF];rfl
theorem oP:∀(l:List (α×Nat)) (k:Nat),k<bB o l->∃a e r,pk o l k=some (a,e,r)/\(a,e)∈l/\r<o e
 |[],k,h=>by rw[gj]at h;ac_nf
 |x::l,k,h=>by
  unfold pk
  by_cases e:k<o x.2
  ·rw[if_pos e];exact⟨x.1,x.2,k,rfl,by simp,e⟩
  ·rw[if_neg e]
   rw[eZ]at h
   obtain⟨a,e',r,h1,h2,h3⟩:=oP l (k-o x.2) (by ac_nf)
   exact⟨a,e',r,h1,by simp[h2],h3⟩
theorem oQ:∀(l m:List (α×Nat)) (k:Nat),k<bB o l->pk o (l++m) k=pk o l k
 |[],m,k,h=>by rw[gj]at h;ac_nf
 |x::l,m,k,h=>by
  rw[jJ]
  unfold pk
  by_cases e:k<o x.2
  ·rw[if_pos e,if_pos e]
  ·rw[if_neg e,if_neg e]
   rw[eZ]at h
   exact oQ l m _ (by ac_nf)
theorem mh:∀(l m:List (α×Nat)) (k:Nat),bB o l<=k->pk o (l++m) k=pk o m (k-bB o l)
 |[],m,k,h=>by rw[gj];rfl
 |x::l,m,k,h=>by
  rw[eZ]at h⊢
  rw[jJ]
  conv=>lhs;unfold pk
  rw[if_neg (by ac_nf),mh l m _ (by ac_nf)]
  congr 1
  ac_nf
theorem nk(f:α->β):∀(l:List (α×Nat)) (k:Nat),pk o (l.map λx=>(f x.1,x.2)) k=(pk o l k).map λy=>(f y.1,y.2)
 |[],k=>rfl
 |x::l,k=>by
  rw[aD]
  unfold pk
  by_cases e:k<o x.2
  ·rw[if_pos e,if_pos e];rfl
  ·rw[if_neg e,if_neg e];exact nk f l _
theorem sA{γ:Type}(F:Nat->List (β×Nat))(g:α->β->γ):∀(l:List (α×Nat)) (k:Nat),pk o (l.flatMap λt=>(F t.2).map λu=>(g t.1 u.1,u.2)) k=(pk (λe=>bB o (F e)) l k).bind λy=>(pk o (F y.2.1) y.2.2).map λz=>(g y.1 z.1,z.2)
 |[],k=>rfl
 |x::l,k=>by
  rw[dA]
  rw[pk_cons]
  have hw:bB o ((F x.2).map λu=>(g x.1 u.1,u.2))=bB o (F x.2):=io (g x.1) (F x.2)
  by_cases e:k<bB o (F x.2)
  ·rw[if_pos e,oQ _ _ _ (by rw[hw];exact e),nk (g x.1) (F x.2) k]
   rfl
  ·rw[if_neg e,mh _ _ _ (by rw[hw];ac_nf),hw]
   exact sA F g l _
theorem ij{γ:Type}(F:Nat->List (β×Nat))(g:α->β->γ):∀(l:List (α×Nat)),bB o (l.flatMap λt=>(F t.2).map λu=>(g t.1 u.1,u.2))=bB (λe=>bB o (F e)) l
 |[]=>rfl
 |x::l=>by rw[dA,jL,io (g x.1) (F x.2),eZ,ij F g l]
theorem Af{n:Nat}(l:List (α×Nat))(h:∀s∈l,s.2<n):bB o l=ie n λk=>jz l k*o k:=Mi l h
end
theorem Di{T:List Nat}{p:Pt}{e:Nat}{o:Nat->Nat}(he:e<=T.length):bB o (bq T p e)=ie (T.length+1) λj=>nT T p e j*o j:=Af _ λs hs=>qp (fX T p e he s hs)
noncomputable def fc(T:List Nat):List Pt->Nat->List (List Tr×Nat)
 |[],e=>[([],e)]
 |p::ps,e=>(bq T p e).flatMap λt=>(fc T ps t.2).map λu=>(t.1::u.1,u.2)
theorem qP(T:List Nat):∀(ps:List Pt) (sm:List (List Tr×Nat)),jO T ps sm=sm.flatMap λs=>(fc T ps s.2).map λu=>(s.1++u.1,u.2)
 |[],sm=>by
  unfold jO fc
  induction sm with
  |nil=>rfl
  |cons s sm ih=>rw[dA,<-ih];simp
 |p::ps,sm=>by
  unfold jO
  rw[qP T ps]
  induction sm with
  |nil=>rfl
  |cons s sm ih=>
   rw[dA,List.flatMap_append,ih,dA]
   congr 1
   conv=>rhs;unfold fc
   rw[List.map_flatMap,List.flatMap_map]
   refine p0 λt ht=> ?_
   rw[cF]
   refine gh λu hu=> ?_
   simp
theorem jN(T:List Nat)(ps:List Pt)(e:Nat):bq T (.row ps) e=(fc T ps e).map λs=>(.row s.1,s.2):=by
 unfold bq
 rw[qP]
 simp
theorem pF{α:Type}{L:Nat}:∀(l:List (α×Nat)) (k:Nat),pk (dl L) l k=((l.filter λt=>t.2==L)[k]?).map λt=>(t.1,t.2,0)
 |[],k=>by simp[pk]
 |x::l,k=>by
  unfold pk dl
  by_cases e:L=x.2
  ·rw[if_pos e,jH (by simp[e])]
   cases k with
   |zero=>simp
   |succ k=>
    rw[if_neg (by ac_nf)]
    have:=pF (L:=L) l k
    unfold dl at this
    simpa using this
  ·rw[if_neg e,if_neg (by ac_nf),jI (by simp;exact λh=>e h.symm)]
   have:=pF (L:=L) l (k-0)
   unfold dl at this
   simpa using this
end L3
namespace L2
open PySem PySem.Spec PyProof.Rows
noncomputable def J7(td ty:TE):TE:=λσ H Q=>td σ H λx H1=>∃a,x= .ref a/\NT H1 a/\ty σ H1 λy H2=>∃b kvs more,y= .ref b/\H2 a=some (.dK kvs)/\Rd H2 b (.dK more)/\a≠b/\kvs.length+more.length<=aJ/\Q .non (upd H2 a (.dK (jg kvs more)))
theorem Ec{X:Cx}{o e:Expr}{apos cpos:Pos}{td ty:TE}(ho:PE X o td)(he:PE X e ty)(m:M1 X o "update" apos e cpos):PE X (.Call (.Attribute o "update" apos) [e] [] cpos) (J7 td ty):=by
 intro pins s σ H Q I h
 refine wpAny_Call_method m.base m.few m.line PySem.F.plainAttrs_dict PySem.F.slot_dict_update PySem.F.type_dict_update (eB (ho pins s σ H _ I h) λu s1 hPl=> ?_)
 obtain⟨x,H1,I1,rx,a,ex,d,q1⟩:=hPl
 subst ex
 obtain rfl:u=au a:=rx
 obtain⟨t1,t2,_⟩:=Ca I1 d
 refine⟨t1,t2,?_⟩
 rw[m.trees]
 refine gL rfl (lE (iT (eB (he pins s1 σ H1 _ I1 q1) λiv s2 ⟨y,H2,I2,ry,b,kvs,more,ey,ea,eb,ne,hl,q2⟩=>oB ?_)))
 subst ey
 obtain rfl:iv=au b:=ry
 obtain⟨z,hd,vs,rel,dd⟩:=Cr I2.hok ea
 obtain⟨z',hd',ms,rel',dm⟩:=n6 I2.hok eb
 refine call_meetsIn PySem.F.slot_dict_update dd.typeIs PySem.F.entry_dict_update (PySem.F.args_dict_update_2 _ _) (meets_dict_update (mixKind X.prog X.w) a b ne hd') ⟨vs,ms,dd,dm,by rw[<-rel.length,<-rel'.length];exact hl,λh' dd' dm' hs=> ?_⟩
 have he':∃q,h'.get? a=some q:=let⟨q,_,_,hq,_⟩:=dd';⟨q,hq⟩
 have hz:(jg kvs more).length<=aJ:=aZ (iN more kvs) hl
 exact⟨.non,_,mD (t':=s2.toks) I2 (by rw[ea];exact ck) hs he' (sV hz hd (rel'.merge rel) dd'),rfl,q2⟩
end L2
namespace L3
open PySem L2
noncomputable def xy(C:Addr)(f:Str)(x:PV)(tv:E2)(τ:jc)(G:Gp)(Q:Gp->Prop):Prop:=match x with
 | .ref a=>match G a with
  |some (.ins C' _ fs)=>C'=C/\match fs.lookup f with
   |some (.int i)=>tv τ G λy G1=>match y with
    | .int j=>match G1 a with
     |some (.ins C'' dx' fs')=>C''=C/\fs'.length<1000/\Q (up G1 a (.ins C dx' (jU f (.int (i-j)) fs')))
     |_=>False
    |_=>False
   |_=>False
  |_=>False
 |_=>False
noncomputable abbrev AM(C:Addr)(ta tv:E2)(f:Str):S2:=λD τ G=>ta τ G λx G1=>xy C f x tv τ G1 λG3=>D.nx τ G3
theorem zr{X:Cx}{C:Addr}{o value:Expr}{f:Str}{ta tv:E2}{pos tpos:Pos}(c:Cls X.K C)(n:NoAttr X.K C f)(ha:JE X o ta)(hv:JE X value tv):
  JS X (.AugAssign (.Attribute o f tpos) .Sub value pos) (AM C ta tv f):= .of (qZ ha.h hv.h IV) λD σ H ⟨τ,G,D2,rs,rp,q,cl⟩=>by
 refine⟨τ,G,_,rs,rp,q,λx G1 u H1 q1 d1 r1 k1=> ?_⟩
 unfold xy at q1
 split at q1
 ·rename_i a
  split at q1
  ·rename_i C' dx fs hG
   obtain⟨rfl,q1⟩:=q1
   split at q1
   ·rename_i i hl
    obtain rfl:u= .ref a:=d1
    obtain⟨vs,hH,df⟩:=r1 a _ hG
    obtain⟨w',hw,dw⟩:=mB df hl
    obtain rfl:w'= .int i:=dw
    refine⟨a,_,dx,vs,_,rfl,hH,c,n,hw,τ,G1,_,rs.keep k1,r1,q1,λy G2 v H2 q2 d2 r2 k2=> ?_⟩
    split at q2
    ·rename_i j
     split at q2
     ·rename_i C'' dx' fs' hG2
      obtain⟨rfl,hl2,q2⟩:=q2
      obtain rfl:v= .int j:=d2
      obtain⟨vs2,hH2,df2⟩:=r2 a _ hG2
      have kk:Keep X.K H2 (L2.upd H2 a (.ins C'' dx' (iA f (.int (i-j)) vs2))):=j3 hH2
      exact⟨i,j,rfl,rfl,dx',vs2,hH2,by rw[oX df2];exact hl2,cl.nx _ _ _ _ q2 (rs.keep ((k1.trans k2).trans kk)) (r2.putI hH2 (oW (q:= .int (i-j)) rfl df2)) ((k1.trans k2).trans kk)⟩
     ·exact q2.elim
    ·exact q2.elim
   ·exact q1.elim
  ·exact q1.elim
 ·exact q1.elim
noncomputable def zk(kvs more:List (Key×PV)):List (Key×PV):=more.foldl (λacc kv=>iY acc kv.1 kv.2) kvs
theorem DKv.merge{K:PySem.W.Frag}{H:Hp}:∀{more:List (Key×PV)} {ms:List (Key×V)} {kvs:List (Key×PV)} {vs:List (Key×V)},DKv K H more ms->DKv K H kvs vs->DKv K H (zk kvs more) (jg vs ms)
 |[],ms,kvs,vs,h,g=>by obtain rfl:ms=[]:=h;exact g
 |(x,p)::more,ms,kvs,vs,h,g=>by
  obtain⟨v,r,rfl,d,z⟩:=h
  show DKv K H (zk (iY kvs x p) more) (jg (jx vs x v) r)
  exact DKv.merge z (g.put d)
noncomputable def Dm(x y:PV)(G:Gp)(Q:K2):Prop:=match x,y with
 | .ref a,.ref b=>match G a,jm G b with
  |some (.dK kvs),some more=>a≠b/\kvs.length+more.length<=16000000/\Q .non (up G a (.dK (zk kvs more)))
  |_,_=>False
 |_,_=>False
theorem Gw{a b:Addr}{G:Gp}{kvs more:List (Key×PV)}{Q:K2}(h:G a=some (.dK kvs))(h2:jm G b=some more)(ne:a≠b)(hl:kvs.length+more.length<=16000000)(q:Q .non (up G a (.dK (zk kvs more)))):Dm (.ref a) (.ref b) G Q:=by
 unfold Dm;simp only[h,h2];exact⟨ne,hl,q⟩
noncomputable abbrev NF(td te:E2):E2:=λτ G Q=>td τ G λx G1=>IS x G1/\te τ G1 λy G2=>Dm x y G2 Q
theorem zw{X:Cx}{d e:Expr}{td te:E2}{apos cpos:Pos}(hd:JE X d td)(he:JE X e te)(m:L2.M1 X d "update" apos e cpos:=by exact⟨rfl,rfl,rfl,rfl⟩):JE X (.Call (.Attribute d "update" apos) [e] [] cpos) (NF td te):=
 .of (Ec hd.h he.h m) λσ H Q hPl=>by
  obtain⟨τ,G,Q2,rs,rp,q,cl⟩:=hPl
  refine⟨τ,G,_,rs,rp,q,λp1 G1 v1 H1 q1 d1 r1 k1=> ?_⟩
  obtain⟨⟨a,kvs,rfl,ea⟩,q1⟩:=q1
  obtain rfl:v1= .ref a:=d1
  obtain⟨vs,hv,dv⟩:=r1.dR ea
  refine⟨a,rfl,.inl ⟨vs,hv⟩,τ,G1,_,rs.keep k1,r1,q1,λp2 G2 v2 H2 q2 d2 r2 k2=> ?_⟩
  unfold Dm at q2
  cases p2 with
  |ref b=>
   simp only at q2
   split at q2
   ·rename_i kv2 more eg em
    obtain⟨ne,hl,q2⟩:=q2
    obtain rfl:v2= .ref b:=d2
    obtain⟨vs2,hv2,dv2⟩:=r2.dK eg
    obtain⟨ms,hm,dm⟩:=r2.dR em
    exact⟨b,vs2,ms,rfl,hv2,hm,ne,by rw[dv2.length,dm.length,fC];ac_nf,cl _ _ _ _ q2 rfl (r2.putD hv2 (dm.merge dv2)) ((k1.trans k2).trans (kl hv2))⟩
   ·exact q2.elim
  |_=>exact q2.elim
end L3
namespace PySem
section
variable{prog:aF}{w:aS}{A:Around}{E:ae->af->Prop}{s:af}{d:Addr}
noncomputable def Go(kvs:List (L2.Key×ae))(prog:aF)(w:aS):Nat->ae->Prop:=λi v=>∃k x,kvs[i]? =some (k,x)/\(L2.mixKind prog w).is k v=true
theorem lR{R:Result->af->Prop}{kvs:List (L2.Key×ae)}{ep:Nat}(hh:A.handled=none)(hd:(d==eS)=false)(hm:s.heap.DictAt (L2.mixKind prog w) d kvs ep)(S:Addr)(hne:S≠d)(res:ae)(c:Nat)(hS:s.heap.get? S=some {cls:= .type "list",dict:=none,data:= .seq #[] c,slots:= #[]})(hn:kvs.length<=aJ)
  (hR:∀(s':af) acc' c',(∀b o,b≠S->s.heap.get? b=some o->s'.heap.get? b=some o)->s'.gens=s.gens->s'.os=s.os->s'.heap.get? S=some {cls:= .type "list",dict:=none,data:= .seq acc' c',slots:= #[]}->ItemsOf (Go kvs prog w) acc' kvs.length->R (.ok (.ret res)) s'):
  wpAny (aN prog w) A.in1 (eY (.ref S) (.ref d) res)
   (λfin s'=>match fin with| .done f=>R (.ok f) s'| .again c'=>c'.quiet=true/\codeAny (aN prog w) A c' R s') (λe s'=>R (.error e) s') s:=by
 unfold eY
 have h1:o5 (.ref S) (.ref d)=false:=by simp[o5,hne]
 have hT1:s.TypeIs (.ref d) "dict" :=hm.dictOf.typeIs
 refine aa (je hT1 ?_)
 rw[if_neg (by rw[h1];decide)]
 refine aa (wpAny_pyIter_dict hd hm ?_)
 have hm2:(s.heap.push {cls:= .type "dict_keyiterator",data:= .fields #[.ref d,.int 0 0,.int kvs.length 0,.int ep 0]}).DictAt (L2.mixKind prog w) d kvs ep:=hm.at' λo e=>ai _ e
 have hI:(s.heap.push {cls:= .type "dict_keyiterator",data:= .fields #[.ref d,.int 0 0,.int kvs.length 0,.int ep 0]}).IsKeyIter s.heap.objs.size d 0 kvs.length ep:=⟨_,aH _ rfl,rfl,rfl⟩
 have kp2:∀b o,s.heap.get? b=some o->(s.heap.push {cls:= .type "dict_keyiterator",data:= .fields #[.ref d,.int 0 0,.int kvs.length 0,.int ep 0]}).get? b=some o:=λb o q=>ai _ q
 have hdl:d<s.heap.objs.size:=by obtain⟨o,es,ho,_⟩:=hm;exact aw ho
 have hSl:S<s.heap.objs.size:=aw hS
 generalize s.heap.push {cls:= .type "dict_keyiterator",data:= .fields #[.ref d,.int 0 0,.int kvs.length 0,.int ep 0]}=g2 at hm2 hI kp2⊢
 refine aa (cH ?_)
 unfold bH.List.listLengthHint
 have hT2:af.TypeIs {s with heap:=g2} (.ref d) "dict" :=hm2.dictOf.typeIs
 refine aa (wpAny_specialOf hT2 F.slot_dict_len.lookup ?_)
 wp_delta
 refine aa (wpAny_isInstance (T:= "dict") (v:= .ref d) (b:=true) hT2 (by rw[isSubtype_type];kernel_rfl) ?_)
 show wpAny _ A.in1 (typeOf (au d)>>=_) _ _ _
 refine aa (je hT2 ?_)
 refine am ?_
 have nI:d≠s.heap.objs.size:=aQ hdl
 have nL:S≠s.heap.objs.size:=aQ hSl
 have hSf:S∉[s.heap.objs.size,d]:=by
  simp only[aA,aP,or_false,not_or]
  exact⟨nL,hne⟩
 show wpAny _ A.in1 (rule "list.extend.makes-room" >>=λ_=>bH.List.listTouch (.ref S)>>=λ_=>
  again (.builtin "list.extend.loop" ⟨[.ref S,.ref s.heap.objs.size,res],[]⟩)) _ _ _
 refine aa (iy ?_)
 refine aa ?_
 show wpAny _ A.in1 (updateSeq S (·.push .none)>>=λ_=>updateSeq S (·.pop)) _ _ _
 have hL2:=kp2 _ _ hS
 refine aa (mV (s:={s with heap:=g2}) hL2 rfl ?_)
 have hL3:=fE (eM (·.push bc)) hL2 rfl
 refine mV (hz:=by seq_fits) hL3 rfl ?_
 have hL4:=fE (eM (·.pop)) hL3 rfl
 have oth:∀b o,b≠S->g2.get? b=some o->((g2.update S (eM (·.push bc))).update S (eM (·.pop))).get? b=some o:=
  λb o hb e=>(bY _ _ (aG hb)).trans ((bY _ _ (aG hb)).trans e)
 have hh1:A.in1.handled=none:=by simp[hh]
 have W:=(Walks.dictKeys (prog:=prog) (w:=w) (knd:=L2.mixKind prog w) hh1 s.heap.objs.size d nI kvs ep).toS
 refine am ⟨plainId_quiet F.plain_extend_loop _,codeAny_extend_loopS W hn _ hSf _ kvs.length 0 _ _ _ rfl (cg _)
  (W.frame 0 {s with heap:=g2} _ s.toks ⟨hI,hm2⟩ (aq _) λb hb o e=>oth b o (λh=>hSf (h▸hb)) e) hL4 (ItemsOf.nil _) λs' acc' c' hmv hS'' hacc=> ?_⟩
 refine hR s' acc' c' (λb o hb e=> ?_) hmv.gens hmv.os hS'' hacc
 have hbl:b<s.heap.objs.size:=aw e
 refine hmv.heap b o ?_ (oth b o hb (kp2 b o e))
 simp only[aA,aP,or_false,not_or]
 exact⟨hb,aQ hbl⟩
theorem qk{Q:ae->af->Prop}{kvs:List (L2.Key×ae)}{ep:Nat}(hh:A.handled=none)(hd:(d==eS)=false)(hm:s.heap.DictAt (L2.mixKind prog w) d kvs ep)(hn:kvs.length<=aJ)
  (hQ:∀(s':af) acc' c',(∀b o,s.heap.get? b=some o->s'.heap.get? b=some o)->s'.gens=s.gens->s'.os=s.os->s'.heap.get? s.heap.objs.size=some {cls:= .type "list",dict:=none,data:= .seq acc' c',slots:= #[]}->ItemsOf (Go kvs prog w) acc' kvs.length->Q (.ref s.heap.objs.size) s'):
  wpAny (aN prog w) A (call (.type "list") [.ref d]) Q E s:=by
 refine callType_codes (Q₁:=λobj s₁=>obj= .ref s.heap.objs.size/\s₁={s with heap:=s.heap.push {cls:= .type "list",data:= .seq #[]}}) F.called_list (F.typeCall_list_1 _) F.entry_list_init
  (code_list_new _ ⟨rfl,rfl⟩) λobj s₁ h₁=> ?_
 obtain⟨rfl,rfl⟩:=h₁
 have hS:(s.heap.push {cls:= .type "list",data:= .seq #[]}).get? s.heap.objs.size=some {cls:= .type "list",data:= .seq #[]}:=aH _ rfl
 have hdl:d<s.heap.objs.size:=by obtain⟨o,es,ho,_⟩:=hm;exact aw ho
 have hne:s.heap.objs.size≠d:=iS hdl
 have hm1:(s.heap.push {cls:= .type "list",data:= .seq #[]}).DictAt (L2.mixKind prog w) d kvs ep:=hm.at' λo e=>ai _ e
 refine⟨⟨_,hS,rfl⟩,F.args_list_init_2 _ _,?_⟩
 show wpAny _ _ (do let old <-bH.List.listItems (.ref s.heap.objs.size);bH.List.listUpdate (.ref s.heap.objs.size) (λ_=> #[]);letGo old.toList.reverse;eY (.ref s.heap.objs.size) (.ref d) .none) _ _ _
 refine aa ?_
 unfold bH.List.listItems
 refine aa (dD hS rfl (am ?_))
 show wpAny _ _ (updateSeq s.heap.objs.size (λ_=> #[])>>=λ_=>letGo (#[]:Array ae).toList.reverse>>=λ_=>eY (.ref s.heap.objs.size) (.ref d) .none) _ _ _
 refine aa (mV hS rfl ?_)
 have hS₂:=fE (eM (λ_=>(#[]:Array ae))) hS rfl
 have oth:∀b o,b≠s.heap.objs.size->(s.heap.push {cls:= .type "list",data:= .seq #[]}).get? b=some o->((s.heap.push {cls:= .type "list",data:= .seq #[]}).update s.heap.objs.size (eM (λ_=>(#[]:Array ae)))).get? b=some o:=
  λb o hb e=>(bY _ _ (aG hb)).trans e
 refine aa (wpAny_letGo ?_)
 have hm2:=hm1.at' λo e=>oth d o (aG hne) e
 refine lR (A:=A.in1) (by simp[hh]) hd hm2 _ hne .none _ hS₂ hn λs' acc' c' hk g o hS' hacc=> ?_
 exact⟨rfl,hQ s' acc' c' (λb o e=>hk b o (aQ (aw e)) (oth b o (aQ (aw e)) (ai _ e))) g o hS' hacc⟩
end
end PySem
namespace L3
open PySem L2
noncomputable def pP:C2:=λps G Q=>match ps with
 |[.ref a]=>match jm G a with
  |some kvs=>∀c,G c=none->Q (.ref c) (up G c (.lst (kvs.map λkv=>kP kv.1)))
  |none=>False
 |_=>False
theorem yq{a:Addr}{G:Gp}{kvs:List (Key×PV)}{Q:K2}(h:jm G a=some kvs)(q:∀c,G c=none->Q (.ref c) (up G c (.lst (kvs.map λkv=>kP kv.1)))):pP [.ref a] G Q:=by
 unfold pP;simp only[h];exact q
theorem BR{K:PySem.W.Frag}{H:Hp}:∀(ks:List Key),Dvs K H (ks.map kP) (ks.map kV)
 |[]=>rfl
 |k::ks=>⟨_,_,rfl,KZ k,BR ks⟩
theorem Ft{X:Cx}(hc:X.calm=true):gE X (.type "list") (pN X.K pP):=by
 intro pins s σ H xs us Q I rs h
 obtain⟨ps,G,Q2,d,rp,h,cl⟩:=h
 unfold pP at h
 split at h
 ·rename_i a
  split at h
  ·rename_i kvs ea
   obtain⟨v,rfl,dv⟩:=fQ d
   obtain rfl:v= .ref a:=dv
   obtain⟨u,rfl,ru⟩:=rs.one
   obtain rfl:u=au a:=ru
   obtain⟨vs,hv,dk⟩:=rp.dR ea
   obtain⟨z,hd,ws,kv,dd⟩:=n6 I.hok hv
   obtain⟨ep,da⟩:=dd.dictAt
   have hl:=kv.length
   have hl2:=dk.length
   refine qk (I.ok.hd hc) hd da (by ac_nf) λs' acc c hk g o hS hacc=> ?_
   have hn:s.heap.get? s.heap.objs.size=none:=by
    cases e:s.heap.get? s.heap.objs.size with
    |none=>rfl
    |some o=>exact absurd (aw e) (cL _)
   have hHl:H s.heap.objs.size=none:=I.hok.none_of hn
   obtain⟨hp',g',d',t',o'⟩:=s'
   obtain rfl:g'=s.gens:=g
   obtain rfl:o'=s.os:=o
   have e1:(kvs.map λkv=>kP kv.1)=(vs.map (·.1)).map kP:=by rw[<-wJ dk,cF];rfl
   refine⟨.ref s.heap.objs.size,upd H s.heap.objs.size (.lst ((vs.map (·.1)).map kV)),I.call (ch:=[]) (Un.laidN hk hn hHl) (I.hok.laidN hk hHl ?_) I.bare (λb z=>absurd z (by simp)),rfl,cl _ _ _ _ (h _ (rp.none hHl)) rfl ?_ (bK hHl)⟩
   ·refine⟨by simp;ac_nf,acc.toList,c,w6 ?_ λi x u hx hu=> ?_,by simpa using hS⟩
    ·rw[cS,aB,aB]
     have:=hacc.1
     ac_nf
    ·obtain⟨k,x',hkx,hkv⟩:=hacc.2 i u (by rw[<-Array.getElem?_toList];exact hu)
     have e3:(ws.map (·.1))[i]? =some k:=by rw[aI,hkx];rfl
     rw[<-kv.keys]at e3
     rw[aI,e3]at hx
     cases hx
     exact BS hkv
   ·rw[e1]
    exact rp.new hHl (BR _)
  ·exact h.elim
 ·exact h.elim
theorem B0{X:Cx}{e:Expr}{es:List Expr}{t:A2}{p pos:Pos}(B:BN X.mg)(hc:X.calm=true)(ha:JA X (e::es) t)(hg:Gl X "list" :=by rfl)(he:al (e::es) X.env=(false,eval e X.env)::al es X.env:=by rfl)(hpl:(bC pos (al es X.env)).any (·.1)=false:=by rfl):
  JE X (.Call (.Name "list" p) (e::es) [] pos) (zX pP t):=pT (Ft hc) B.list zR ha hg (by decide) (by decide) he hpl
structure qu(K:PySem.W.Frag)(C:Addr)(f:Str):Prop where
 c:Cls K C
 n:NoAttr K C f
theorem II{X:Cx}{C:Addr}{e:Expr}{f:Str}{t:E2}{pos:Pos}(h:qu X.K C f)(he:JE X e t)(hb:bL e f X.env (eval e X.env)=eval e X.env:=by rfl):JE X (.Attribute e f pos) (LL C t f):=Gd h.c h.n he hb
theorem yN{prog:aF}{w:aS}{A:Around}{E:ae->af->Prop}{s:af}{z TI TO i1 i2 l1 l2:Addr}{k:Nat}{xs ys:Array ae}{c1 c2:ae}{a b:ae}{Q:ae->af->Prop}
  (d:[z,TI,TO,i1,i2].Nodup) (hz:IsZip s.heap z TI TO .none) (hTI:dO s.heap TI (.ref i1) (.ref i2)) (hTO:dO s.heap TO a b)
  (h1:s.heap.IsTupleIter i1 l1 k) (h2:s.heap.IsListIter i2 l2 k) (t1:s.heap.IsTuple l1 xs) (t2:s.heap.IsList l2 ys) (n1:l1∉[z,TI,TO,i1,i2]) (n2:l2∉[z,TI,TO,i1,i2]) (hx:xs[k]? =some c1) (hy:ys[k]? =some c2)
  (hQ:∀h':Heap,IsZip h' z TI TO (rawInt ↑s.heap.objs.size)->(∃a b,dO h' TO a b)->h'.IsTupleIter i1 l1 (k+1)->h'.IsListIter i2 l2 (k+1)->
   dO h' s.heap.objs.size c1 c2->h'.objs.size=s.heap.objs.size+1->
   (∀c o,c≠z->c≠TO->c≠i1->c≠i2->s.heap.get? c=some o->h'.get? c=some o)->Q (.ref s.heap.objs.size) {s with heap:=h'}):
  wpAny (aN prog w) A (bH.«zip.__next__» {pos:=[.ref z]}) (λfin s'=>∃v,fin=Fin.done (Flow.ret v)/\Q v s') E s:=by
 simp only[bp,aA,aP,or_false,not_or]at d n1 n2
 obtain⟨⟨zTI,zTO,z1,z2⟩,⟨TITO,TI1,rL⟩,⟨TO1,TO2⟩,i12,_⟩:=d
 obtain⟨lz1,_,lO1,l11,l12⟩:=n1
 obtain⟨lz2,_,lO2,l21,l22⟩:=n2
 refine aa (show wpAny _ _ (pure (au z,([]:List ae))) _ _ _ from am ?_)
 refine aa (bu hz rfl rfl ?_)
 refine aa (bu hz rfl rfl ?_)
 refine aa (dD hTI rfl ?_)
 refine aa (aa (bu hz rfl rfl (am ?_)))
 simp only[if_true]
 refine aa (iy (aa (bu hz rfl rfl ?_)))
 refine aa (dZ hz (by simp) λh₁ hz₁ hs₁=> ?_)
 have hz1:IsZip h₁ z TI TO .ellipsis:=hz₁
 refine aa ?_
 simp only[List.zipIdx_cons,List.zipIdx_nil,kQ,List.forIn_nil]
 refine aa (aa (kC ?_))
 change wpAny _ _ (bind (bw (au i1)) λx=>pure (some x)) _ _ _
 refine aa (iG (h1.extBut hs₁.extBut (aG z1)) (t1.extBut hs₁.extBut lz1) hx λh₂ j2 sb2=>am ?_)
 have hTO2:dO h₂ TO a b:=sb2.extBut _ _ TO1 (hs₁.extBut _ _ (aG zTO) hTO)
 refine aa (dD hTO2 rfl (aa (oi hTO2 λh₃ p3 sb3=>aa (wpAny_letGo (am ?_)))))
 refine aa (aa (kC ?_))
 change wpAny _ _ (bind (bw (au i2)) λx=>pure (some x)) _ _ _
 have k2:h₃.IsListIter i2 l2 k:=((h2.extBut hs₁.extBut (aG z2)).extBut sb2.extBut (aG i12)).extBut sb3.extBut (aG TO2)
 have t2':h₃.IsList l2 ys:=((t2.extBut hs₁.extBut lz2).extBut sb2.extBut l21).extBut sb3.extBut lO2
 refine aa (wpAny_nextOf_list_item k2 t2' hy λh₄ j4 sb4=>am ?_)
 have hTO4:dO h₄ TO c1 b:=sb4.extBut _ _ TO2 p3
 refine aa (dD hTO4 rfl (aa (oi hTO4 λh₅ p5 sb5=>aa (wpAny_letGo (am (am ?_))))))
 have hTO5:dO h₅ TO c1 c2:=p5
 refine aa (dD hTO5 rfl (aa (wpAny_newTuple ?_)))
 have sz5:h₅.objs.size=s.heap.objs.size:=by rw[sb5.1,sb4.1,sb3.1,sb2.1,hs₁.1]
 have hz5:IsZip h₅ z TI TO .ellipsis:=sb5.extBut _ _ zTO (sb4.extBut _ _ z2 (sb3.extBut _ _ zTO (sb2.extBut _ _ z1 hz1)))
 rw[sz5]
 have zl:z<s.heap.objs.size:=aw hz
 refine aa (aa (dZ (s:={s with heap:=h₅.push _}) (ai _ hz5) (by simp) λh₆ hz6 sb6=> ?_))
 refine dZ hz6 (by simp) λh₇ hz7 sb7=>am ⟨_,rfl,?_⟩
 have up:∀c o,c≠z->h₅.get? c=some o->h₇.get? c=some o:=λc o n e=>sb7.extBut _ _ n (sb6.extBut _ _ n (ai _ e))
 have j1:h₅.IsTupleIter i1 l1 (k+1):=((j2.extBut sb3.extBut (aG TO1)).extBut sb4.extBut i12).extBut sb5.extBut (aG TO1)
 have j2':h₅.IsListIter i2 l2 (k+1):=j4.extBut sb5.extBut (aG TO2)
 refine hQ h₇ hz7 ⟨_,_,up _ _ (aG zTO) hTO5⟩ (j1.extBut (λc o n e=>up c o n e) (aG z1)) (j2'.extBut (λc o n e=>up c o n e) (aG z2)) ?_ ?_ ?_
 ·refine sb7.extBut _ _ (iS zl) (sb6.extBut _ _ (iS zl) ?_)
  rw[<-sz5]
  exact aH _ rfl
 ·rw[sb7.1,sb6.1,cQ,sz5]
 ·intro c o n1 n2 n3 n4 e
  exact up c o n1 (sb5.extBut _ _ n2 (sb4.extBut _ _ n4 (sb3.extBut _ _ n2 (sb2.extBut _ _ n3 (hs₁.extBut _ _ n1 e)))))
theorem qB{prog:aF}{w:aS}{A:Around}{E:ae->af->Prop}{s:af}{z TI TO i1 i2 l1 l2:Addr}{k:Nat}{xs ys:Array ae}{c1 c2:ae}{a b:ae}{Q:Option ae->af->Prop}
  (d:[z,TI,TO,i1,i2].Nodup) (hz:IsZip s.heap z TI TO .none) (hTI:dO s.heap TI (.ref i1) (.ref i2)) (hTO:dO s.heap TO a b)
  (h1:s.heap.IsTupleIter i1 l1 k) (h2:s.heap.IsListIter i2 l2 k) (t1:s.heap.IsTuple l1 xs) (t2:s.heap.IsList l2 ys) (n1:l1∉[z,TI,TO,i1,i2]) (n2:l2∉[z,TI,TO,i1,i2]) (hx:xs[k]? =some c1) (hy:ys[k]? =some c2)
  (hQ:∀h':Heap,IsZip h' z TI TO (rawInt ↑s.heap.objs.size)->(∃a b,dO h' TO a b)->h'.IsTupleIter i1 l1 (k+1)->h'.IsListIter i2 l2 (k+1)->
   dO h' s.heap.objs.size c1 c2->h'.objs.size=s.heap.objs.size+1->
   (∀c o,c≠z->c≠TO->c≠i1->c≠i2->s.heap.get? c=some o->h'.get? c=some o)->Q (some (.ref s.heap.objs.size)) {s with heap:=h'}):
  wpAny (aN prog w) A (pyNext (.ref z)) Q E s:=by
 have hT:s.TypeIs (.ref z) "zip" :=⟨_,hz,rfl⟩
 exact aa (kE (cq hT gC (c9 gC hT F.entry_zip_next
  (yN d hz hTI hTO h1 h2 t1 t2 n1 n2 hx hy λh' a1 a2 a3 a4 a5 a6 a7=>am (hQ h' a1 a2 a3 a4 a5 a6 a7)) (qI (au z)))))
theorem z6(l1 l2:Addr):
  Meets (bH.«zip.__new__» {pos:=[.type "zip",.ref l1,.ref l2]}) λA R s=>
   (∃xs ys,s.heap.IsTuple l1 xs/\s.heap.IsList l2 ys)/\
   ∀h':Heap,IsZip h' (s.heap.objs.size+4) (s.heap.objs.size+2) (s.heap.objs.size+3) .none->dO h' (s.heap.objs.size+2) (.ref s.heap.objs.size) (.ref (s.heap.objs.size+1))->dO h' (s.heap.objs.size+3) .none .none->
    h'.IsTupleIter s.heap.objs.size l1 0->h'.IsListIter (s.heap.objs.size+1) l2 0->h'.objs.size=s.heap.objs.size+5->(∀c o,s.heap.get? c=some o->h'.get? c=some o)->
    R (.ok (.ret (.ref (s.heap.objs.size+4)))) {s with heap:=h'}:=by
 refine Meets.of_wp λprog w A R s h=> ?_
 obtain⟨⟨xs,ys,t1,t2⟩,h⟩:=h
 refine aa (aa (show wpAny _ _ (pure _) _ _ _ from am ?_))
 refine wpAny_ite_false rfl (aa (om sub_zip (wpAny_ite_false rfl (am (wpAny_ite_false rfl ?_)))))
 refine aa (aa ?_)
 refine aa (aa (cH (wpAny_pyIter_tuple t1 (am ?_))))
 refine aa (aa (cH (wpAny_pyIter_list (t2.push _) (am ?_))))
 refine am (am ?_)
 refine aa (wpAny_newTuple ?_ (show 2<=aJ by decide))
 refine aa (wpAny_newTuple ?_ (show 2<=aJ by decide))
 refine aa (HQ ?_ (show 5<=aJ+2 by decide))
 have z1:=cQ s.heap {cls:=br "tuple_iterator",data:=cZ #[au l1,dz 0 0]}
 generalize e1:s.heap.push {cls:=br "tuple_iterator",data:=cZ #[au l1,dz 0 0]}=g1 at*
 have z2:=cQ g1 {cls:=br "list_iterator",data:=cZ #[au l2,dz 0 0]}
 have p1:g1.get? s.heap.objs.size=some {cls:=br "tuple_iterator",data:=cZ #[au l1,dz 0 0]}:=by rw[<-e1];exact aH _ rfl
 have q1:∀c o,s.heap.get? c=some o->g1.get? c=some o:=λc o q=>by rw[<-e1];exact ai _ q
 have p2:=aH g1 (o:={cls:=br "list_iterator",data:=cZ #[au l2,dz 0 0]}) rfl
 have q2:∀c o,g1.get? c=some o->(g1.push {cls:=br "list_iterator",data:=cZ #[au l2,dz 0 0]}).get? c=some o:=λc o q=>ai _ q
 generalize g1.push {cls:=br "list_iterator",data:=cZ #[au l2,dz 0 0]}=g2 at*
 rw[z1]at z2 p2
 refine am ⟨_,rfl,?_⟩
 have z3:=cQ g2 {cls:=br "tuple",data:=eE #[au s.heap.objs.size,au g1.objs.size]}
 have p3:=aH g2 (o:={cls:=br "tuple",data:=eE #[au s.heap.objs.size,au g1.objs.size]}) rfl
 have q3:∀c o,g2.get? c=some o->(g2.push {cls:=br "tuple",data:=eE #[au s.heap.objs.size,au g1.objs.size]}).get? c=some o:=λc o q=>ai _ q
 show R (Except.ok (Flow.ret (au ((g2.push {cls:=br "tuple",data:=eE #[au s.heap.objs.size,au g1.objs.size]}).push {cls:=br "tuple",data:=eE #[bc,bc]}).objs.size))) {s with heap:=(((g2.push {cls:=br "tuple",data:=eE #[au s.heap.objs.size,au g1.objs.size]}).push {cls:=br "tuple",data:=eE #[bc,bc]}).push {cls:=br "zip",data:=cZ #[bc,c7 false,c7 false,au g2.objs.size,au (g2.push {cls:=br "tuple",data:=eE #[au s.heap.objs.size,au g1.objs.size]}).objs.size]})}
 generalize g2.push {cls:=br "tuple",data:=eE #[au s.heap.objs.size,au g1.objs.size]}=g3 at*
 have z4:=cQ g3 {cls:=br "tuple",data:=eE #[bc,bc]}
 have p4:=aH g3 (o:={cls:=br "tuple",data:=eE #[bc,bc]}) rfl
 have q4:∀c o,g3.get? c=some o->(g3.push {cls:=br "tuple",data:=eE #[bc,bc]}).get? c=some o:=λc o q=>ai _ q
 generalize g3.push {cls:=br "tuple",data:=eE #[bc,bc]}=g4 at*
 have s2:g2.objs.size=s.heap.objs.size+2:=z2
 have s3:g3.objs.size=s.heap.objs.size+3:=by rw[z3,s2]
 have s4:g4.objs.size=s.heap.objs.size+4:=by rw[z4,s3]
 rw[s2,s3,s4]
 have z5:=cQ g4 {cls:=br "zip",data:=cZ #[bc,c7 false,c7 false,au (s.heap.objs.size+2),au (s.heap.objs.size+3)]}
 have p5:=aH g4 (o:={cls:=br "zip",data:=cZ #[bc,c7 false,c7 false,au (s.heap.objs.size+2),au (s.heap.objs.size+3)]}) rfl
 have q5:∀c o,g4.get? c=some o->(g4.push {cls:=br "zip",data:=cZ #[bc,c7 false,c7 false,au (s.heap.objs.size+2),au (s.heap.objs.size+3)]}).get? c=some o:=λc o q=>ai _ q
 rw[s4]at z5 p5
 rw[s3]at p4
 rw[s2,z1]at p3
 exact h _ p5 (q5 _ _ (q4 _ _ p3)) (q5 _ _ p4) ⟨_,q5 _ _ (q4 _ _ (q3 _ _ (q2 _ _ p1))),rfl,rfl⟩ ⟨_,q5 _ _ (q4 _ _ (q3 _ _ p2)),rfl,rfl⟩ z5 λc o q=>q5 _ _ (q4 _ _ (q3 _ _ (q2 _ _ (q1 _ _ q))))
theorem zO{prog:aF}{w:aS}{A:Around}{E:ae->af->Prop}{s:af}{l1 l2:Addr}{xs ys:Array ae}{Q:ae->af->Prop}(t1:s.heap.IsTuple l1 xs)(t2:s.heap.IsList l2 ys)
  (h:∀h':Heap,IsZip h' (s.heap.objs.size+4) (s.heap.objs.size+2) (s.heap.objs.size+3) .none->dO h' (s.heap.objs.size+2) (.ref s.heap.objs.size) (.ref (s.heap.objs.size+1))->dO h' (s.heap.objs.size+3) .none .none->
    h'.IsTupleIter s.heap.objs.size l1 0->h'.IsListIter (s.heap.objs.size+1) l2 0->h'.objs.size=s.heap.objs.size+5->(∀c o,s.heap.get? c=some o->h'.get? c=some o)->
    Q (.ref (s.heap.objs.size+4)) {s with heap:=h'}):
  wpAny (aN prog w) A (call (.type "zip") [.ref l1,.ref l2]) Q E s:=
 callType_new F.called_zip (by decide) (F.typeCall_zip_2 _ _) (F.newCall_zip_2 _ _) (λobj=>F.args_object_init_3 obj _ _) F.entry_zip_new (z6 l1 l2)
  ⟨⟨xs,ys,t1,t2⟩,λh' a1 a2 a3 a4 a5 a6 a7=>⟨⟨_,a1,rfl⟩,h h' a1 a2 a3 a4 a5 a6 a7⟩⟩
theorem z7{prog:aF}{w:aS}{A:Around}{E:ae->af->Prop}{s:af}{z TI TO i1 i2 l1 l2:Addr}{k:Nat}{xs ys:Array ae}{c1:ae}{a b:ae}{Q:Fin->af->Prop}
  (hh:A.handled=none) (d:[z,TI,TO,i1,i2].Nodup) (hz:IsZip s.heap z TI TO .none) (hTI:dO s.heap TI (.ref i1) (.ref i2)) (hTO:dO s.heap TO a b)
  (h1:s.heap.IsTupleIter i1 l1 k) (h2:s.heap.IsListIter i2 l2 k) (t1:s.heap.IsTuple l1 xs) (t2:s.heap.IsList l2 ys) (n1:l1∉[z,TI,TO,i1,i2]) (n2:l2∉[z,TI,TO,i1,i2]) (hx:xs[k]? =some c1) (hy:ys[k]? =none)
  (hE:∀(h':Heap) (e:Addr),(∀c o,c≠z->c≠TO->c≠i1->c≠i2->s.heap.get? c=some o->h'.get? c=some o)->(∃o,h'.get? e=some o/\o.cls= .type "StopIteration")->E (.ref e) {s with heap:=h'}):
  wpAny (aN prog w) A (bH.«zip.__next__» {pos:=[.ref z]}) Q E s:=by
 simp only[bp,aA,aP,or_false,not_or]at d n1 n2
 obtain⟨⟨zTI,zTO,z1,z2⟩,⟨TITO,TI1,rL⟩,⟨TO1,TO2⟩,i12,_⟩:=d
 obtain⟨lz1,_,lO1,l11,l12⟩:=n1
 obtain⟨lz2,_,lO2,l21,l22⟩:=n2
 refine aa (show wpAny _ _ (pure (au z,([]:List ae))) _ _ _ from am ?_)
 refine aa (bu hz rfl rfl ?_)
 refine aa (bu hz rfl rfl ?_)
 refine aa (dD hTI rfl ?_)
 refine aa (aa (bu hz rfl rfl (am ?_)))
 simp only[if_true]
 refine aa (iy (aa (bu hz rfl rfl ?_)))
 refine aa (dZ hz (by simp) λh₁ hz₁ hs₁=> ?_)
 have hz1:IsZip h₁ z TI TO .ellipsis:=hz₁
 refine aa ?_
 simp only[List.zipIdx_cons,List.zipIdx_nil,kQ,List.forIn_nil]
 refine aa (aa (kC ?_))
 change wpAny _ _ (bind (bw (au i1)) λx=>pure (some x)) _ _ _
 refine aa (iG (h1.extBut hs₁.extBut (aG z1)) (t1.extBut hs₁.extBut lz1) hx λh₂ j2 sb2=>am ?_)
 have hTO2:dO h₂ TO a b:=sb2.extBut _ _ TO1 (hs₁.extBut _ _ (aG zTO) hTO)
 refine aa (dD hTO2 rfl (aa (oi hTO2 λh₃ p3 sb3=>aa (wpAny_letGo (am ?_)))))
 refine aa (aa (kC ?_))
 change wpAny _ _ (bind (bw (au i2)) λx=>pure (some x)) _ _ _
 have k2:h₃.IsListIter i2 l2 k:=((h2.extBut hs₁.extBut (aG z2)).extBut sb2.extBut (aG i12)).extBut sb3.extBut (aG TO2)
 have t2':h₃.IsList l2 ys:=((t2.extBut hs₁.extBut lz2).extBut sb2.extBut l21).extBut sb3.extBut lO2
 refine aa (wpAny_nextOf_list_end hh k2 t2' hy λh₄ e sb4 he=> ?_)
 have hz4:IsZip h₄ z TI TO .ellipsis:=sb4 _ _ z2 (sb3.extBut _ _ zTO (sb2.extBut _ _ z1 hz1))
 obtain⟨o,ho,hc⟩:=he
 refine dZ hz4 (by simp) λh₅ hz5 sb5=>hE h₅ e (λc u n1 n2 n3 n4 q=> ?_) ⟨o,sb5.extBut _ _ (λq=> ?_) ho,hc⟩
 ·exact sb5.extBut _ _ n1 (sb4 _ _ n4 (sb3.extBut _ _ n2 (sb2.extBut _ _ n3 (hs₁.extBut _ _ n1 q))))
 ·subst q
  rw[show h₄.get? e=_ from hz4]at ho
  cases ho
  exact absurd (br.inj hc) (by decide)
theorem sE{prog:aF}{w:aS}{A:Around}{E:ae->af->Prop}{s:af}{z TI TO i1 i2 l1 l2:Addr}{k:Nat}{xs ys:Array ae}{c1:ae}{a b:ae}{Q:Option ae->af->Prop}
  (hh:A.handled=none) (d:[z,TI,TO,i1,i2].Nodup) (hz:IsZip s.heap z TI TO .none) (hTI:dO s.heap TI (.ref i1) (.ref i2)) (hTO:dO s.heap TO a b)
  (h1:s.heap.IsTupleIter i1 l1 k) (h2:s.heap.IsListIter i2 l2 k) (t1:s.heap.IsTuple l1 xs) (t2:s.heap.IsList l2 ys) (n1:l1∉[z,TI,TO,i1,i2]) (n2:l2∉[z,TI,TO,i1,i2]) (hx:xs[k]? =some c1) (hy:ys[k]? =none)
  (hQ:∀h':Heap,(∀c o,c≠z->c≠TO->c≠i1->c≠i2->s.heap.get? c=some o->h'.get? c=some o)->Q none {s with heap:=h'}):
  wpAny (aN prog w) A (pyNext (.ref z)) Q E s:=by
 have hT:s.TypeIs (.ref z) "zip" :=⟨_,hz,rfl⟩
 exact aa (kE (cq hT gC (c9 gC hT F.entry_zip_next
  (z7 hh d hz hTI hTO h1 h2 t1 t2 n1 n2 hx hy λh' e hk ⟨o,ho,hc⟩=>aa (wpAny_isInstance ⟨o,ho,hc⟩ isSubtype_stop (am (hQ h' hk)))) (qI (au z)))))
noncomputable def Ju(K:PySem.W.Frag)(a1 a2:Addr):It:=
 ⟨λi H=>∃xs ys x y,SqT K H a1 xs/\SqL K H a2 ys/\xs[i]? =some x/\ys[i]? =some y,
  λi H v H'=>∃p,H p=none/\v= .ref p/\∀xs ys,SqT K H a1 xs->SqL K H a2 ys->∃x y,xs[i]? =some x/\ys[i]? =some y/\H'=upd H p (.tup [x,y]),
  λi H=>∃xs ys,SqT K H a1 xs/\SqL K H a2 ys/\(xs.length<=i\/ys.length<=i)⟩
theorem yP{P:aF}{w:aS}{K:PySem.W.Frag}{elts:List Expr}{x1:Nat}{pos:Pos}{a1 a2:Addr}{z TI TO i1 i2:Addr}(d:[z,TI,TO,i1,i2].Nodup)(n1:a1∉[z,TI,TO,i1,i2])(n2:a2∉[z,TI,TO,i1,i2]):
  qG P w K (.Tuple elts x1 pos) (Ju K a1 a2) [z,TI,TO,i1,i2] z (λi h=>IsZip h z TI TO .none/\dO h TI (.ref i1) (.ref i2)/\(∃a b,dO h TO a b)/\h.IsTupleIter i1 a1 i/\h.IsListIter i2 a2 i) where
 mem:=by simp
 obj:=λi h st b hb=>by
  obtain⟨hz,hTI,⟨a,c,hTO⟩,⟨o1,e1,_,d1⟩,⟨o2,e2,_,d2⟩⟩:=st
  have hb':b=z\/b=TI\/b=TO\/b=i1\/b=i2:=by simpa using hb
  rcases hb' with rfl|rfl|rfl|rfl|rfl
  ·exact⟨_,hz,λv q=>by cases (show cZ _=Data.cell v from q)⟩
  ·exact⟨_,hTI,λv q=>by cases (show eE _ _=Data.cell v from q)⟩
  ·exact⟨_,hTO,λv q=>by cases (show eE _ _=Data.cell v from q)⟩
  ·exact⟨o1,e1,λv q=>by rw[d1]at q;cases q⟩
  ·exact⟨o2,e2,λv q=>by rw[d2]at q;cases q⟩
 keep:=λi h h' st k=>by
  obtain⟨hz,hTI,⟨a,c,hTO⟩,⟨o1,e1,c1,d1⟩,⟨o2,e2,c2,d2⟩⟩:=st
  exact⟨k z (by simp) _ hz,k TI (by simp) _ hTI,⟨a,c,k TO (by simp) _ hTO⟩,⟨o1,k i1 (by simp) o1 e1,c1,d1⟩,⟨o2,k i2 (by simp) o2 e2,c2,d2⟩⟩
 item:=by
  intro X hP hw hK hc i pins s σ H E I hf st hg
  subst hP hw hK
  obtain⟨hz,hTI,⟨a,b,hTO⟩,h1,h2⟩:=st
  obtain⟨xs,ys,x,y,sq1,sq2,hx,hy⟩:=hg
  obtain⟨us1,rv1,p1,_⟩:=I.tuple sq1
  obtain⟨us2,rv2,p2,_⟩:=I.list sq2
  obtain⟨u,hu,ru⟩:=rv1.get hx
  obtain⟨v,hv,rv⟩:=rv2.get hy
  have lts:∀b∈[z,TI,TO,i1,i2],b<s.heap.objs.size:=λb hb=>by
   have hb':b=z\/b=TI\/b=TO\/b=i1\/b=i2:=by simpa using hb
   rcases hb' with rfl|rfl|rfl|rfl|rfl
   ·exact aw hz
   ·exact aw hTI
   ·exact aw hTO
   ·obtain⟨o,e,_⟩:=h1;exact aw e
   ·obtain⟨o,e,_⟩:=h2;exact aw e
  refine qB d hz hTI hTO h1 h2 (show s.heap.IsTuple a1 us1.toArray from p1) p2.isList n1 n2 (c1:=u) (c2:=v) (by simpa using hu) (by simpa using hv) λg1 gz gTO gi1 gi2 gT gsz gk=> ?_
  refine⟨_,rfl,wpAny_letOwnedTupleGo_zip gz λg2 hz2 hs2=> ?_⟩
  replace hs2:dJ z g1 g2:=hs2
  have hpn:H s.heap.objs.size=none:=I.hok.fresh (aq _)
  have k2:∀b o,b∉[z,TI,TO,i1,i2]->s.heap.get? b=some o->g2.get? b=some o:=λb o n q=>by
   simp only[aA,aP,or_false,not_or]at n
   exact hs2.extBut b o n.1 (gk b o n.1 n.2.2.1 n.2.2.2.1 n.2.2.2.2 q)
  have hTI2:dO g2 TI (.ref i1) (.ref i2):=by
   simp only[bp,aA,aP,or_false,not_or]at d
   exact hs2.extBut _ _ (aG d.1.1) (gk _ _ (aG d.1.1) d.2.1.1 d.2.1.2.1 d.2.1.2.2 hTI)
  have ht2:g2.get? s.heap.objs.size=some {cls:= .type "tuple",data:= .seq #[u,v]}:=hs2.extBut _ _ (iS (lts z (by simp))) gT
  have ne1:∀b o,H b=some o->b∉[z,TI,TO,i1,i2]:=λb o q hb=>by rw[(hf b hb).1]at q;cases q
  have lt:∀b o,s.heap.get? b=some o->b≠s.heap.objs.size:=λb o q=>aQ (aw q)
  have hok:HOk X.prog X.w (upd H s.heap.objs.size (.tup [x,y])) g2:=λb o q=>by
   by_cases hb:b=s.heap.objs.size
   ·subst hb
    rw[cb]at q
    cases q
    refine⟨(by show 2<=aJ;decide),[u,v],.cons ru (.cons rv .nil),⟨_,ht2,rfl,_,rfl⟩⟩
   ·rw[bo hb]at q
    refine(I.hok b o q).stay (λc v hc' z=> ?_) (λc z=>by rw[bo (bZ z hpn)];exact z) λc xs z=>by rw[bo (bZ z hpn)];exact z
    refine k2 c v ?_ z
    rcases hc' with rfl|hc'
    ·exact ne1 _ _ q
    ·exact ne1 _ _ hc'
  have un:Un (km X.stack) [z,TI,TO,i1,i2] H (upd H s.heap.objs.size (.tup [x,y])) s.heap g2:=by
   refine⟨λb o q _ _ hb=>k2 b o hb q,λb o q _ _ hb=>⟨o.slots,k2 b o hb q⟩,λb o q n _=>by rw[bo (lt b o q)];exact n,
    λb o q hb=>⟨o,k2 b o hb q⟩,λb xs q=>by rw[bo (bZ q hpn)];exact q,λb o xs q=>by rw[bo (bZ q hpn)];exact q,λb ps q=>⟨#[],by rw[bo (bZ q hpn),q];simp⟩⟩
  have I2:Inv X pins σ (upd H s.heap.objs.size (.tup [x,y])) {s with heap:=g2}:=I.call' (s':={s with heap:=g2}) rfl un hok I.bare λb hb=>by
   have q:=hf b hb
   exact⟨q.2.2.2.1,q.2.1,q.2.2.2.2.1,q.2.2.2.2.2⟩
  obtain⟨a',b',gTO⟩:=gTO
  have d':=d
  simp only[bp,aA,aP,or_false,not_or]at d'
  refine⟨.ref s.heap.objs.size,_,I2,rfl,⟨s.heap.objs.size,hpn,rfl,λxs' ys' h1 h2=>⟨x,y,by rw[I.tuple_inj h1 sq1];exact hx,by rw[I.list_inj h2 sq2];exact hy,rfl⟩⟩,⟨hz2,hTI2,⟨_,_,hs2.extBut _ _ (aG d'.1.2.1) gTO⟩,gi1.extBut hs2.extBut (aG d'.1.2.2.1),gi2.extBut hs2.extBut (aG d'.1.2.2.2)⟩,λb hb=> ?_⟩
  rw[bo (aQ (lts b hb))]
  exact(hf b hb).1
 done:=by
  intro X hP hw hK hc i pins s σ H E I hf st hg
  subst hP hw hK
  obtain⟨hz,hTI,⟨a,b,hTO⟩,h1,h2⟩:=st
  obtain⟨xs,ys,sq1,sq2,hx⟩:=hg
  obtain⟨us1,rv1,p1,_⟩:=I.tuple sq1
  obtain⟨us2,rv2,p2,_⟩:=I.list sq2
  have hl:=rv1.length
  have hl2:=rv2.length
  have fin:∀g2:Heap,(∀c o,c≠z->c≠TO->c≠i1->c≠i2->s.heap.get? c=some o->g2.get? c=some o)->Inv X pins σ H {s with heap:=g2}:=λg2 gk=>by
   have k2:∀b o,b∉[z,TI,TO,i1,i2]->s.heap.get? b=some o->g2.get? b=some o:=λb o n q=>by
    simp only[aA,aP,or_false,not_or]at n
    exact gk b o n.1 n.2.2.1 n.2.2.2.1 n.2.2.2.2 q
   have ne1:∀b o,H b=some o->b∉[z,TI,TO,i1,i2]:=λb o q hb=>by rw[(hf b hb).1]at q;cases q
   have hok:HOk X.prog X.w H g2:=λb o q=>by
    refine(I.hok b o q).stay (λc v hc' z=> ?_) (λc z=>z) λc xs z=>z
    refine k2 c v ?_ z
    rcases hc' with rfl|hc'
    ·exact ne1 _ _ q
    ·exact ne1 _ _ hc'
   have un:Un (km X.stack) [z,TI,TO,i1,i2] H H s.heap g2:=by
    refine⟨λb o q _ _ hb=>k2 b o hb q,λb o q _ _ hb=>⟨o.slots,k2 b o hb q⟩,λb o q n _=>n,
     λb o q hb=>⟨o,k2 b o hb q⟩,λb xs q=>q,λb o xs q=>q,λb ps q=>⟨#[],by rw[q];simp⟩⟩
   exact I.call' (s':={s with heap:=g2}) rfl un hok I.bare λb hb=>by
    have q:=hf b hb
    exact⟨q.2.2.2.1,q.2.1,q.2.2.2.2.1,q.2.2.2.2.2⟩
  by_cases hx1:xs.length<=i
  ·exact sD (I.ok.hd hc) d hz hTI hTO h1 (show s.heap.IsTuple a1 us1.toArray from p1) n1 (by simp;ac_nf) λg2 gk=>⟨rfl,fin g2 gk⟩
  ·obtain⟨u,hu,_⟩:=rv1.get (ak (show i<xs.length by ac_nf))
   exact sE (I.ok.hd hc) d hz hTI hTO h1 h2 (show s.heap.IsTuple a1 us1.toArray from p1) p2.isList n1 n2 (c1:=u) (by simpa using hu) (by simp;ac_nf) λg2 gk=>⟨rfl,fin g2 gk⟩
 self:=λ_ _ _ _ _ st h=>wpAny_pyIter_zip st.1 h
noncomputable def Lv(K:PySem.W.Frag)(ta:TA):TI:=λσ H R=>ta σ H λvs H1=>∃a b xs ys,vs=[.ref a,.ref b]/\SqT K H1 a xs/\SqL K H1 b ys/\R (Ju K a b) H1
theorem D0{X:Cx}{a b:Expr}{ta:TA}{p pos:Pos}{elts:List Expr}{x1:Nat}{tp:Pos}(hg:Gl X "zip")(hm:X.mg "zip" =none)(ha:PA X [a,b] ta)(hs:al [a,b] X.env=(false,eval a X.env)::al [b] X.env:=by rfl)(hpl:((bC pos (al [b] X.env)).any λx=>x.fst)=false:=by rfl):
  PI X (.Tuple elts x1 tp) (.Call (.Name "zip" p) [a,b] [] pos) (Lv X.K ta):=by
 intro pins s σ H R I h
 refine fF (nz (u:= .type "zip") I hg hm (by decide+kernel) ?_)
 refine eX (eB (ha pos pins s σ H _ I h) λus s1 hPl=> ?_) hs hpl
 obtain⟨vs,H1,I1,r1,q1⟩:=hPl
 obtain⟨a,b,xs,ys,rfl,sq1,sq2,q⟩:=q1
 obtain⟨u,v,rfl,r,r'⟩:=r1.two
 cases r
 cases r'
 obtain⟨us1,rv1,p1,_⟩:=I1.tuple sq1
 obtain⟨us2,rv2,p2,_⟩:=I1.list sq2
 have l1:a<s1.heap.objs.size:=by obtain⟨o,e,_⟩:=(show s1.heap.IsTuple a us1.toArray from p1);exact aw e
 have l2:b<s1.heap.objs.size:=by obtain⟨o,n,e,_⟩:=p2;exact aw e
 refine zO (show s1.heap.IsTuple a us1.toArray from p1) p2.isList λh' hz hTI hTO hi1 hi2 hz' hk=> ?_
 refine wpAny_pyIter_zip hz ?_
 have nin:∀c,c<s1.heap.objs.size->c∉[s1.heap.objs.size+4,s1.heap.objs.size+2,s1.heap.objs.size+3,s1.heap.objs.size,s1.heap.objs.size+1]:=λc hc=>by
  simp only[aA,aP,or_false,not_or]
  refine⟨?_,?_,?_,?_,?_⟩<;>exact aQ (by ac_nf)
 refine⟨s1.heap.objs.size+4,[s1.heap.objs.size+4,s1.heap.objs.size+2,s1.heap.objs.size+3,s1.heap.objs.size,s1.heap.objs.size+1],_,_,H1,rfl,I1.kept (t':=s1.toks) λb o e=>hk b o e,yP ?_ (nin a l1) (nin b l2),⟨hz,hTI,⟨_,_,hTO⟩,hi1,hi2⟩,λb hb=> ?_,q⟩
 ·exact nd5 s1.heap.objs.size
 ·have hle:s1.heap.objs.size<=b:=by
   have hb':b=s1.heap.objs.size+4\/b=s1.heap.objs.size+2\/b=s1.heap.objs.size+3\/b=s1.heap.objs.size\/b=s1.heap.objs.size+1:=by simpa using hb
   rcases hb' with rfl|rfl|rfl|rfl|rfl<;>first|exact Nat.le_add_right _ _|exact aq _
  exact I1.fpOk hle (I1.hok.fresh hle)
theorem E9{K:PySem.W.Frag}{H1:Hp}{a b:Addr}{us:List V}{xs ys:List PV}(s1:SqT K H1 a us)(d1:Dvs K H1 xs us):vj K H1 (Ju K a b) (iM xs ys) (λG=>lk G b=some ys):=λi H G k r c=>by
 have q1:=k.1 _ _ s1
 have e1:=d1.keep k
 obtain⟨vs,q2,e2⟩:=fN r c
 have hpl:=ls (xs:=xs) (ys:=ys)
 refine⟨λhi=> ?_,λhi=>⟨us,vs,q1,q2,?_⟩,λv H' hi h=> ?_⟩
 ·rw[hpl]at hi
  obtain⟨u,hu,_⟩:=e1.at (ak (show i<xs.length by ac_nf))
  obtain⟨v,hv,_⟩:=e2.at (ak (show i<ys.length by ac_nf))
  exact⟨us,vs,u,v,q1,q2,hu,hv⟩
 ·rw[e1.length,e2.length];ac_nf
 ·obtain⟨p,hp,rfl,h⟩:=h
  obtain⟨u,v,hu,hv,rfl⟩:=h us vs q1 q2
  obtain⟨x,hx,dx⟩:=e1.get hu
  obtain⟨y,hy,dy⟩:=e2.get hv
  have kn:Keep K H (upd H p (.tup [u,v])):=bK hp
  exact⟨.tup [x,y],nr hx hy,kn,r.tup hp,p,_,rfl,.of cb,.cons (dx.keep kn) (.cons (dy.keep kn) .nil)⟩
noncomputable abbrev Ny(t:A2):rL:=λτ G R=>t τ G λps G1=>∃b xs ys,ps=[.tup xs,.ref b]/\lk G1 b=some ys/\R (iM xs ys) (λG=>lk G b=some ys) G1
theorem ER{X:Cx}{a b:Expr}{ta:A2}{p pos tp:Pos}{elts:List Expr}{x1:Nat}(hm:X.mg "zip" =none)(ha:JA X [a,b] ta)(hg:Gl X "zip" :=by rfl)(hs:al [a,b] X.env=(false,eval a X.env)::al [b] X.env:=by rfl)(hpl:((bC pos (al [b] X.env)).any λx=>x.fst)=false:=by rfl):
  JI X (.Tuple elts x1 tp) (.Call (.Name "zip" p) [a,b] [] pos) (Ny ta):= .of (D0 hg hm ha.h hs hpl) λσ H R ⟨τ,G,R2,rs,rp,h,cl⟩=>by
 refine⟨τ,G,_,rs,rp,h,λps G1 vs H1 q d r k=> ?_⟩
 obtain⟨b,xs,ys,rfl,c2,q⟩:=q
 obtain⟨v,vr,rfl,d1,u,vr2,rfl,d2,d3⟩:=d
 obtain rfl:vr2=[]:=d3
 obtain⟨a,us,rfl,s1,e1⟩:=d1
 obtain rfl:u= .ref b:=d2
 obtain⟨ws,q2,e2⟩:=fN r c2
 exact⟨a,b,us,ws,rfl,s1,q2,cl _ _ _ _ _ q r k (E9 s1 e1)⟩
structure Mo(P:aF)(w:aS)(K:PySem.W.Frag)(mg:Str->Option ae)(base:Heap)(n:Str)(C f:Addr)(fd:aR)(k:Nat)(ps:List Str)(sp:gP):Prop where
 c:Mk K C f
 ok:ic P w K mg base k f fd ps sp
 b:Binds K fd ps []
 g:mg n=some (.ref C)
theorem oS{X:Cx}{C f':Addr}{fd:aR}{k k':Nat}{ps:List Str}{x:Str}{e:Expr}{es:List Expr}{t:A2}{p pos:Pos}{sp:gP}(M:Mo X.prog X.w X.K X.mg X.base x C f' fd k ps sp)(hr:Room k' X.A)(hk:k+1<=k')(ha:JA X (e::es) t)(hg:Gl X x:=by rfl)
  (hdb:(x==("__debug__" :Str))=false:=by decide) (he:al (e::es) X.env=(false,eval e X.env)::al es X.env:=by rfl) (hpl:(bC pos (al es X.env)).any (·.1)=false:=by rfl):
  JE X (.Call (.Name x p) (e::es) [] pos) (Gk C sp t):=B4 M.c M.ok M.b hr hk M.g ha hg hdb he hpl
theorem ET{X:Cx}{K:PySem.W.Frag}{D:Addr}{e:Expr}{es:List Expr}{t:A2}{p pos:Pos}(xk:qK K D)(hK:X.K=K)(B:BN X.mg)(ha:JA X (e::es) t)(hg:Gl X "isinstance" :=by rfl)(he:al (e::es) X.env=(false,eval e X.env)::al es X.env:=by rfl)(hpl:(bC pos (al es X.env)).any (·.1)=false:=by rfl):JE X (.Call (.Name "isinstance" p) (e::es) [] pos) (zX (wB K) t):=by
 subst hK
 exact B1 B ha hg he hpl
theorem wv{X:Cx}{C:Addr}{o value:Expr}{f:Str}{ta tv:E2}{pos tpos:Pos}(h:qu X.K C f)(ha:JE X o ta)(hv:JE X value tv):
  JS X (.AugAssign (.Attribute o f tpos) .Add value pos) (um C ta tv f):=rh h.c h.n ha hv
theorem C9{T:List Nat}{f:Nat->List (Tr×Nat)}(h:∀e x,x∈f e->T.take e++tH x.1=T.take x.2):∀(n e:Nat) x,x∈yL f n e->T.take e++gG (fG x.1)=T.take x.2
 |0,e,x,hx=>by cases aC.mp hx;exact bI _
 |n+1,e,x,hx=>by
  rcases bj.mp hx with hx|hx
  ·obtain⟨t,ht,hx⟩:=bQ.mp hx
   obtain⟨u,hu,rfl⟩:=ay.mp hx
   rw[pj,<-eD,h e t ht]
   exact C9 h n t.2 u hu
  ·cases aC.mp hx;exact bI _
theorem sh(t:Tr):gG (fG [t])=tH t:=by rw[pj];exact bI _
mutual
theorem lm(T:List Nat):∀(p:Pt) (e:Nat) x,x∈bq T p e->T.take e++tH x.1=T.take x.2
 | .none,e,x,h=>by simp[bq]at h
 | .blank,e,x,h=>by
  simp only[bq,aC]at h
  rw[h]
  exact bI _
 | .sign s,e,x,h=>by
  unfold bq at h
  split at h
  ·rename_i c hc
   split at h
   ·cases aC.mp h
    show T.take e++tH (.sign ⟨#[c]⟩)=T.take (e+1)
    rw[Am,cO,hc]
    rfl
   ·cases h
  ·cases h
 | .row ps,e,x,h=>by
  rw[jN]at h
  obtain⟨s,hs,rfl⟩:=ay.mp h
  show T.take e++tH (.row s.1)=_
  rw[l5 rfl]
  exact ya T ps e s hs
 | .pick ps,e,x,h=>by unfold bq at h;exact xw T ps 0 e x h
 | .again p,e,x,h=>by
  unfold bq at h
  obtain⟨s,hs,rfl⟩:=ay.mp h
  show T.take e++tH (.again s.1)=_
  rw[l5 rfl]
  exact C9 (λe x hx=>lm T p e x hx) _ _ s hs
 | .held n p,e,x,h=>by
  unfold bq at h
  obtain⟨s,hs,rfl⟩:=ay.mp h
  show T.take e++tH (.held n s.1)=_
  rw[l5 rfl]
  show T.take e++gG (fG [s.1])=_
  rw[sh]
  exact lm T p e s hs
 | .price n p,e,x,h=>by
  unfold bq at h
  obtain⟨s,hs,rfl⟩:=ay.mp h
  show T.take e++tH (.price n s.1)=_
  rw[l5 rfl]
  show T.take e++gG (fG [s.1])=_
  rw[sh]
  exact lm T p e s hs
theorem ya(T:List Nat):∀(ps:List Pt) (e:Nat) x,x∈fc T ps e->T.take e++gG (fG x.1)=T.take x.2
 |[],e,x,h=>by unfold fc at h;cases aC.mp h;exact bI _
 |p::ps,e,x,h=>by
  unfold fc at h
  obtain⟨t,ht,hx⟩:=bQ.mp h
  obtain⟨u,hu,rfl⟩:=ay.mp hx
  rw[pj,<-eD,lm T p e t ht]
  exact ya T ps t.2 u hu
theorem xw(T:List Nat):∀(ps:List Pt) (k e:Nat) x,x∈gi T ps k e->T.take e++tH x.1=T.take x.2
 |[],k,e,x,h=>by unfold gi at h;cases h
 |p::ps,k,e,x,h=>by
  unfold gi at h
  rcases bj.mp h with h|h
  ·obtain⟨s,hs,rfl⟩:=ay.mp h
   show T.take e++tH (.pick (k:Int) s.1)=_
   rw[l5 rfl]
   show T.take e++gG (fG [s.1])=_
   rw[sh]
   exact lm T p e s hs
  ·exact xw T ps (k+1) e x h
end
theorem An{T:List Nat}{a b:Nat}(ha:a<=T.length)(hb:b<=T.length)(h:T.take a=T.take b):a=b:=by
 have:=congrArg lJ h
 rw[bz,bz]at this
 ac_nf
theorem sd{T:List Nat}{p:Pt}{e:Nat}{x y:Tr×Nat}(he:e<=T.length)(hx:x∈bq T p e)(hy:y∈bq T p e)(h:x.1=y.1):x=y:=by
 have h1:=lm T p e x hx
 have h2:=lm T p e y hy
 rw[h,h2]at h1
 have:=An (fX T p e he y hy) (fX T p e he x hx) h1
 exact Prod.ext h this.symm
theorem yi{α:Type}{l:List (Tr×Nat)}{F:Nat->List (α×Nat)}{g:Tr->α->α}(hl:l.Nodup)(hu:∀x∈l,∀y∈l,x.1=y.1->x=y)(hF:∀x∈l,(F x.2).Nodup)(hg:∀t u t' u',g t u=g t' u'->t=t'/\u=u'):
  (l.flatMap λt=>(F t.2).map λu=>(g t.1 u.1,u.2)).Nodup:=by
 induction l with
 |nil=>exact List.nodup_nil
 |cons x l ih=>
  rw[dA,jr]
  obtain⟨hx,hl'⟩:=bp.mp hl
  refine⟨?_,ih hl' (λa ha b hb=>hu a (by simp[ha]) b (by simp[hb])) (λa ha=>hF a (by simp[ha])),?_⟩
  ·have h1:=hF x (by simp)
   rw[List.Nodup,List.pairwise_map]
   refine List.Pairwise.imp (fun{a b} hab=> ?_) h1
   intro h
   have h2:g x.1 a.1=g x.1 b.1:=congrArg Prod.fst h
   have h3:a.2=b.2:=(kJ h).2
   exact hab (Prod.ext (hg _ _ _ _ h2).2 h3)
  ·intro a ha b hb hab
   obtain⟨u,hu1,rfl⟩:=ay.mp ha
   obtain⟨t,ht,hb2⟩:=bQ.mp hb
   obtain⟨v,hv,rfl⟩:=ay.mp hb2
   have h2:g x.1 u.1=g t.1 v.1:=congrArg Prod.fst hab
   have h3:=hu x (by simp) t (by simp[ht]) (hg _ _ _ _ h2).1
   rw[h3]at hx
   exact hx ht
theorem pK{α β:Type}{l:List (α×Nat)}{f:α->β}(h:l.Nodup)(hf:∀a b,f a=f b->a=b):(l.map λx=>(f x.1,x.2)).Nodup:=by
 rw[List.Nodup,List.pairwise_map]
 refine List.Pairwise.imp (fun{a b} hab=> ?_) h
 intro z
 exact hab (Prod.ext (hf _ _ (kJ z).1) (kJ z).2)
theorem C6{L:Nat}{f:Nat->List (Tr×Nat)}(h1:∀e,e<=L->(f e).Nodup)(h2:∀e,e<=L->∀x∈f e,∀y∈f e,x.1=y.1->x=y)(h3:∀e,e<=L->∀x∈f e,x.2<=L):∀(n e:Nat),e<=L->(yL f n e).Nodup
 |0,e,he=>by unfold yL;simp
 |n+1,e,he=>by
  unfold yL
  rw[jr]
  refine⟨yi (F:=λj=>yL f n j) (g:=λt u=>t::u) (h1 e he) (h2 e he) (λx hx=>C6 h1 h2 h3 n x.2 (h3 e he x hx)) (λt u t' u' h=>by injection h with a b;exact⟨a,b⟩),by simp,?_⟩
  intro a ha b hb hab
  obtain⟨t,_,hx⟩:=bQ.mp ha
  obtain⟨u,_,rfl⟩:=ay.mp hx
  rw[aC.mp hb]at hab
  have:(t.1::u.1)=([]:List Tr):=congrArg Prod.fst hab
  cases this
mutual
theorem mY{T:List Nat}:∀(p:Pt) (e:Nat),e<=T.length->(bq T p e).Nodup
 | .none,e,he=>by simp[bq]
 | .blank,e,he=>by simp[bq]
 | .sign s,e,he=>by
  unfold bq
  split
  ·split
   ·simp
   ·simp
  ·simp
 | .row ps,e,he=>by
  rw[jN]
  exact pK (f:=Tr.row) (xZ ps e he) λa b h=>by injection h
 | .pick ps,e,he=>by unfold bq;exact xj ps 0 e he
 | .again p,e,he=>by
  unfold bq
  exact pK (f:=Tr.again) (C6 (L:=T.length) (λe he=>mY p e he) (λe he x hx y hy h=>sd he hx hy h) (λe he x hx=>fX T p e he x hx) _ e he) λa b h=>by injection h
 | .held n p,e,he=>by
  unfold bq
  exact pK (f:=Tr.held n) (mY p e he) λa b h=>by injection h
 | .price n p,e,he=>by
  unfold bq
  exact pK (f:=Tr.price n) (mY p e he) λa b h=>by injection h
theorem xZ{T:List Nat}:∀(ps:List Pt) (e:Nat),e<=T.length->(fc T ps e).Nodup
 |[],e,he=>by unfold fc;simp
 |p::ps,e,he=>by
  unfold fc
  exact yi (F:=λj=>fc T ps j) (g:=λt u=>t::u) (mY p e he) (λx hx y hy h=>sd he hx hy h) (λx hx=>xZ ps x.2 (fX T p e he x hx)) λt u t' u' h=>by injection h with a b;exact⟨a,b⟩
theorem xj{T:List Nat}:∀(ps:List Pt) (k e:Nat),e<=T.length->(gi T ps k e).Nodup
 |[],k,e,he=>by unfold gi;simp
 |p::ps,k,e,he=>by
  unfold gi
  rw[jr]
  refine⟨pK (f:=Tr.pick (k:Int)) (mY p e he) λa b h=>(by injection h),xj ps (k+1) e he,?_⟩
  intro a ha b hb hab
  obtain⟨s,hs,rfl⟩:=ay.mp ha
  obtain⟨i,hi,t2,h2⟩:=xo ps (k+1) e b hb
  rw[<-hab]at h2
  change Tr.pick (k:Int) s.1=Tr.pick (i:Int) t2 at h2
  injection h2 with h3 _
  ac_nf
theorem xo{T:List Nat}:∀(ps:List Pt) (k e:Nat) (x:Tr×Nat),x∈gi T ps k e->∃i:Nat,k<=i/\∃t,x.1=Tr.pick (i:Int) t
 |[],k,e,x,h=>by unfold gi at h;cases h
 |p::ps,k,e,x,h=>by
  unfold gi at h
  rcases bj.mp h with h|h
  ·obtain⟨s,hs,rfl⟩:=ay.mp h
   exact⟨k,aq _,s.1,rfl⟩
  ·obtain⟨i,hi,t,ht⟩:=xo ps (k+1) e x h
   exact⟨i,by ac_nf,t,ht⟩
end
section
end
noncomputable def tag:Tr->Str
 | .blank=> "blank"
 | .sign _=> "sign"
 | .row _=> "row"
 | .again _=> "again"
 | .pick _ _=> "pick"
 | .held _ _=> "held"
 | .price _ _=> "price"
theorem kq(t:Tr):∃xs,fI t= .tup (.str (tag t)::xs):=by cases t<;>exact⟨_,rfl⟩
theorem jl{t u:Tr}(h:iP (fI t) (fI u)=true):tag t=tag u:=by
 obtain⟨xs,e1⟩:=kq t
 obtain⟨ys,e2⟩:=kq u
 rw[e1,e2]at h
 have h':((tag t==tag u)&&iC xs ys)=true:=h
 rw[av]at h'
 exact beq_iff_eq.mp h'.1
mutual
theorem ku:∀(t u:Tr),iP (fI t) (fI u)=true->t=u
 | .blank,u,h=>by
  cases u with
  |blank=>rfl
  |_=>exact absurd (jl h) (by simp only[tag];decide+kernel)
 | .sign s,u,h=>by
  cases u with
  |sign s'=>
   have h':((aY "sign" ==aY "sign")&&((s==s')&&true))=true:=h
   rw[av,av]at h'
   rw[beq_iff_eq.mp h'.2.1]
  |_=>exact absurd (jl h) (by simp only[tag];decide+kernel)
 | .row ts,u,h=>by
  cases u with
  |row us=>
   have h':((aY "row" ==aY "row")&&(iC (c8 ts) (c8 us)&&true))=true:=h
   rw[av,av]at h'
   rw[nN ts us h'.2.1]
  |_=>exact absurd (jl h) (by simp only[tag];decide+kernel)
 | .again ts,u,h=>by
  cases u with
  |again us=>
   have h':((aY "again" ==aY "again")&&(iC (c8 ts) (c8 us)&&true))=true:=h
   rw[av,av]at h'
   rw[nN ts us h'.2.1]
  |_=>exact absurd (jl h) (by simp only[tag];decide+kernel)
 | .pick k t,u,h=>by
  cases u with
  |pick k' t'=>
   have h':((aY "pick" ==aY "pick")&&((k==k')&&(iP (fI t) (fI t')&&true)))=true:=h
   rw[av,av,av]at h'
   rw[beq_iff_eq.mp h'.2.1,ku t t' h'.2.2.1]
  |_=>exact absurd (jl h) (by simp only[tag];decide+kernel)
 | .held k t,u,h=>by
  cases u with
  |held k' t'=>
   have h':((aY "held" ==aY "held")&&((k==k')&&(iP (fI t) (fI t')&&true)))=true:=h
   rw[av,av,av]at h'
   rw[beq_iff_eq.mp h'.2.1,ku t t' h'.2.2.1]
  |_=>exact absurd (jl h) (by simp only[tag];decide+kernel)
 | .price k t,u,h=>by
  cases u with
  |price k' t'=>
   have h':((aY "price" ==aY "price")&&((k==k')&&(iP (fI t) (fI t')&&true)))=true:=h
   rw[av,av,av]at h'
   rw[beq_iff_eq.mp h'.2.1,ku t t' h'.2.2.1]
  |_=>exact absurd (jl h) (by simp only[tag];decide+kernel)
theorem nN:∀(ts us:List Tr),iC (c8 ts) (c8 us)=true->ts=us
 |[],[],_=>rfl
 |[],_::_,h=>by cases (show false=true from h)
 |_::_,[],h=>by cases (show false=true from h)
 |t::ts,u::us,h=>by
  have h':(iP (fI t) (fI u)&&iC (c8 ts) (c8 us))=true:=h
  rw[av]at h'
  rw[ku t u h'.1,nN ts us h'.2]
end
theorem yD{t u:Tr}(h:t≠u):iP (fI t) (fI u)=false:=by
 cases e:iP (fI t) (fI u)with
 |false=>rfl
 |true=>exact absurd (ku t u e) h
theorem j8(l:Addr)(es:Array ju)(n:Nat)(dd:Option Addr)(sl:Array (Option ae))(b:Str)(u:Tok):
  Meets (bH.«dict.__eq__» ⟨[.ref l,.str b u],[]⟩) (λ_ R s=>s.heap.get? l=some {cls:= .type "dict",dict:=dd,data:= .dict es n,slots:=sl}/\R (.ok (.ret .notImplemented)) s):=
 .of_wp λprog w A R s h=>by obtain⟨hp,g,d,tk,os⟩:=s;obtain⟨hl,h⟩:=h;have f1:=F.sub_str_dict;wp_walk using wpAny_loadPart' hl;exact⟨_,rfl,h⟩
theorem jP(b:Str)(u:Tok)(l:Addr)(es:Array ju)(n:Nat)(dd:Option Addr)(sl:Array (Option ae)):
  Meets (bH.«str.__eq__» ⟨[.str b u,.ref l],[]⟩) (λ_ R s=>s.heap.get? l=some {cls:= .type "dict",dict:=dd,data:= .dict es n,slots:=sl}/\R (.ok (.ret .notImplemented)) s):=
 .of_wp λprog w A R s h=>by obtain⟨hp,g,d,tk,os⟩:=s;obtain⟨hl,h⟩:=h;wp_walk using wpAny_loadPart' hl,wpAny_load hl;exact⟨_,rfl,h⟩
section
variable{X:Cx}{pins:List (Addr×Obj)}{σ:L2.St}{H:Hp}{s:af}{A:Around}
theorem ur{l:Addr}{es:Array ju}{n:Nat}(b:Str)(u:Tok)(ho:s.heap.get? l=some {cls:= .type "dict",data:= .dict es n})(hu:A.units<fS):SeqAt.RcAt A s (.str b u) (.ref l) false:=λprog w E Q h=>
 SeqAt.rc_eq_decline_or (k:=false) (typeIs_str s b u) ⟨_,ho,rfl⟩ (by decide) F.sub_dict_str F.slot_str_eq F.slot_dict_eq_refl
  (λ_ hq=>eU F.slot_str_eq (typeIs_str s b u) F.entry_str_eq (F.args_str_eq_2 _ _) (jP b u l es n none #[]) ⟨ho,hq⟩)
  (λ_ hq=>eU F.slot_dict_eq_refl ⟨_,ho,rfl⟩ F.entry_dict_eq (F.args_dict_eq_2 _ _) (j8 l es n none #[] b u) ⟨ho,hq⟩)
  (λ_ hq=>om (rfl:isSame (.str b u) (.ref l)=pure false) hq) (.inr hu) h
theorem uW{l:Addr}{es:Array ju}{n:Nat}(b:Str)(u:Tok)(ho:s.heap.get? l=some {cls:= .type "dict",data:= .dict es n})(hu:A.units<fS):aO A s (.str b u) (.ref l) false:=λprog w E Q h=>by
 unfold eqBool
 refine cH ?_
 refine wpAny_ite_split (λhab=>absurd (eq_of_beq hab) nofun) (λ_=> ?_)
 exact aa (ur b u ho hu prog w E _ (ke h))
noncomputable def EA:B2:=λp q G Q=>match q with
 | .tup ps=>ps.all (λy=>match y with| .str _=>true|_=>false)=true/\(match p with
  | .ref a=>(match G a with
   |some (.lst _)=>Q (.bl true) G
   |some (.dK _)=>Q (.bl true) G
   |_=>False)
  |p=>dj 100 p=true/\Q (.bl (!ps.any λy=>iP y p)) G)
 |_=>False
theorem Du(I:Inv X pins σ H s){p:PV}{x:V}{v:ae}(dp:Dv X.K H p x)(rp:RelV x v)(f1:dj 100 p=true)(hu:A.units+100<fS):
  ∀{ps:List PV} {xs:List V} {us:List ae},Dvs X.K H ps xs->Vals xs us->ps.all (λy=>match y with| .str _=>true|_=>false)=true->∃e:ae->Bool,(∀u∈us,aO A s u v (e u))/\us.any e=ps.any λy=>iP y p:=by
 refine fun{ps xs us} d r f=>⟨λu=>match u with| .str z _=>iP (.str z) p|_=>false,?_,?_⟩
 ·induction ps generalizing xs us with
  |nil=>obtain rfl:xs=[]:=d;cases r;intro u hu';cases hu'
  |cons y ps ih=>
   obtain⟨z,zs,rfl,d1,d2⟩:=d
   rw[eK,av]at f
   cases r with
   |cons r1 r2=>
   intro u hu'
   rcases aA.mp hu' with rfl|hu'
   ·cases y with
    |str b=>
     have:=LD I 1 100 (.str b) p A d1 r1 dp rp rfl f1 (by ac_nf)
     obtain rfl:z= .str b:=d1
     obtain⟨t,rfl⟩:=r1
     exact this
    |_=>cases f.1
   ·exact ih d2 r2 f.2 u hu'
 ·induction ps generalizing xs us with
  |nil=>obtain rfl:xs=[]:=d;cases r;rfl
  |cons y ps ih=>
   obtain⟨z,zs,rfl,d1,d2⟩:=d
   rw[eK,av]at f
   cases r with
   |cons r1 r2=>
   rw[cK,cK,ih d2 r2 f.2]
   cases y with
   |str b=>
    obtain rfl:z= .str b:=d1
    obtain⟨t,rfl⟩:=r1
    rfl
   |_=>cases f.1
theorem xz{v:ae}(h:∀z t,aO A s (.str z t) v false):
  ∀{ps:List PV} {xs:List V} {us:List ae},Dvs X.K H ps xs->Vals xs us->ps.all (λy=>match y with| .str _=>true|_=>false)=true->∀u∈us,aO A s u v false
 |[],xs,us,d,r,f,u,hu'=>by obtain rfl:xs=[]:=d;cases r;cases hu'
 |y::ps,xs,us,d,r,f,u,hu'=>by
  obtain⟨z,zs,rfl,d1,d2⟩:=d
  rw[eK,av]at f
  cases r with
  |cons r1 r2=>
  rcases aA.mp hu' with rfl|hu'
  ·cases y with
   |str b=>
    obtain rfl:z= .str b:=d1
    obtain⟨t,rfl⟩:=r1
    exact h b t
   |_=>cases f.1
  ·exact xz h d2 r2 f.2 u hu'
theorem KD(hu:X.A.units+200<fS):gW X (cr .NotIn) (fL X.K EA):=by
 intro pins s σ H x y v u Q I rx ry h
 obtain⟨p,q,G,Q2,d1,d2,rp,h,cl⟩:=h
 have hu1:X.A.in1.units+100<fS:=by rw[PySem.Around.in1_units];ac_nf
 unfold EA at h
 split at h
 ·rename_i ps
  obtain⟨f,h⟩:=h
  obtain⟨b,us,rfl,sb,db⟩:=d2
  cases ry
  obtain⟨its,r,pl,hz⟩:=I.tuple sb
  split at h
  ·rename_i a
   obtain rfl:x= .ref a:=d1
   cases rx
   obtain⟨hh,hq⟩:(∀z t,aO X.A.in1 s (.str z t) (.ref a) false)/\Q2 (.bl true) G:=by
    split at h
    ·rename_i qs e
     obtain⟨vs,e1,_⟩:=rp a _ e
     obtain⟨_,its',n,_,e2⟩:=I.hok a _ e1
     exact⟨λz t=>aO.str_list (items:=its'.toArray) z t ⟨_,e2,rfl,n,rfl⟩ (by ac_nf),h⟩
    ·rename_i kvs e
     obtain⟨vs,e1,_⟩:=rp a _ e
     obtain⟨_,_,ws,_,⟨cls,dd,data,sl⟩,es,ep,e2,⟨c1,c2,c3⟩,c4,_⟩:=I.hok a _ e1
     simp only at c1 c2 c3 c4
     subst c1 c2 c3 c4
     exact⟨λz t=>uW z t e2 (by ac_nf),h⟩
    ·exact h.elim
   refine SeqAt.notIn_tupleAt (λ_=>false) pl (λy hy=>xz hh db r f y (by simpa using hy)) ⟨.bl true,H,I,?_,cl _ _ _ _ hq rfl rp .refl⟩
   rw[show its.toArray.any (λ_=>false)=false by simp]
   rfl
  ·obtain⟨fp,hq⟩:=h
   obtain⟨e,h1,h2⟩:=Du I d1 rx fp hu1 db r f
   refine SeqAt.notIn_tupleAt e pl (λy hy=>h1 y (by simpa using hy)) ⟨.bl _,H,I,rfl,?_⟩
   rw[show its.toArray.any e=its.any e by simp,h2]
   exact cl _ _ _ _ hq rfl rp .refl
 ·exact h.elim
end
end L3
namespace L2
open PySem PySem.Spec PyProof.Rows
theorem tQ{X:Cx}{C G:Addr}{k j:Nat}{f:Addr}{fd:aR}{ps:List Str}{sp:Sp}{xf xc n:Str}{p pos np p1 p3:Pos}{e:Expr}{es:List Expr}{t:TA}{b0:Stmt}{suite:List Stmt}{tb:TS}{env:Env}{outer:List Env}(hst:X.stack=env::outer)(henv:X.env=env)
  (F:FnOk X.prog X.w X.K X.mg X.base (mS X.prog X.w C) k f fd ps sp) (hr:Room k X.A) (hg:Gl X xf) (hm:X.mg xf=some (.ref f)) (hk:PySem.W.keepIn X.K (.ref f)=true) (hb:Binds X.K fd ps [])
  (q:PySem.W.excIn X.K C rD "ValueError.__new__" =true) (qg:PySem.W.excIn X.K G rD "ValueError.__new__" =true) (hup:jj X.K C G=true) (hgc:Gl X xc) (hmc:X.mg xc=some (.ref G)) (hN:X.N.Nodup) (hj:X.N[j]? =some n) (hl:X.env.scope.names.lookup n=some .local)
  (ha:PA X.nox (e::es) t) (hs:∀x:Addr,PSs (X.inX (.ref x)) (b0::suite) tb) (hdb:(xf==("__debug__" :Str))=false) (hdc:(xc==("__debug__" :Str))=false)
  (he:al (e::es) X.env=(false,eval e X.env)::al es X.env) (hpl:(bC pos (al es X.env)).any (·.1)=false) (hsw:eN (.Call (.Name xf p) (e::es) [] pos) none p1.line X.env=pure false)
  {pins:List (Addr×Obj)} {s:af} {σ:St} {H:Hp} {D:Ends} {Q:Flow->af->Prop} (I:Inv X pins σ H s) (h:si sp t C j tb D σ H) (hQ:∀H' s',Inv X pins σ H' s'->D.nx σ H'->Q .next s'):
  wpAny (aN X.prog X.w) X.A (execs [.Expr (.Call (.Name xf p) (e::es) [] pos) p1] X.env) Q
   (λex s'=>wpAny (aN X.prog X.w) X.A (noteFrame ex X.env) (λ_ s₂=>wpAny (aN X.prog X.w) X.A (setFlight ex none) (λ_ s₃=>wpAny (aN X.prog X.w) X.A (handleBy ex X.env [.ExceptHandler (some (.Name xc np)) (some n) (b0::suite) p3]) (SP X pins D) X.xe s₃) X.xe s₂) X.xe s') s:=by
 refine lh (wpAny_Expr_any ?_ I.quiet hsw)
 refine fF (mq I hg hm ?_ hdb)
 refine PySem.W.callWith_K (h₀:=X.base) I.ok.mod.kin hk (aW (ha pos pins s σ H _ (I.wish _) h) (λus s1 h1=> ?_) λ_ _ z=>z.elim) he hpl
 obtain⟨vs,H1,I1,r,q1⟩:=h1
 have I2:=I1.unwish
 refine⟨I2.kIn,?_⟩
 have hl':(us++[]).length=ps.length:=by rw[bI,<-r.length];exact F.len _ _ _ _ q1
 refine wpAny_call (mG (F.run X.A X.stack s1 H1 ⟨us,[]⟩ (us++[]) vs _ _ hr I2.env0 (hb s1 us I2.kIn hl') (by rw[bI];exact r) q1) λres s' hq=> ?_)
 cases res with
 |ok fl=>
  cases fl with
  |ret u=>
   obtain⟨v,H',I',_,q'⟩:=I2.after hq
   exact dL (hQ H' _ I' q')
  |next=>exact bG hq
  |brk=>exact bG hq
  |cont=>exact bG hq
 |error ex=>
  have hq':mS X.prog X.w C X.stack H1 s1 (λ_ _ H2=>(∀b xs,H1 b=some (.tup xs)->H2 b=some (.tup xs))->(∀b o u,H1 b=some (.frz o u)->H2 b=some (.frz o u))->∀x,H2 x=none->tb (D.drop j) (σ.set j (some (.ref x))) (upd H2 x (uV x C))) ex s':=hq
  exact zN hst henv I2 hq' q qg hup hgc hmc hN hj hl (λH' x hE tt ff hx=>hE tt ff x hx) hs hdc
theorem AY{X:Cx}{C G:Addr}{k j:Nat}{f f2:Addr}{fd fd2:aR}{ps ps2:List Str}{sp sp2:Sp}{xf xf2 xc n:Str}{p pos p' pos' np p1 p2 p3 p4 p5:Pos}{c e e2:Expr}{es es2:List Expr}{tc:TT}{t t2:TA}{b0:Stmt}{suite:List Stmt}{tb:TS}{env:Env}{outer:List Env}(hst:X.stack=env::outer)(henv:X.env=env)
  (F:FnOk X.prog X.w X.K X.mg X.base (mS X.prog X.w C) k f fd ps sp) (hg:Gl X xf) (hm:X.mg xf=some (.ref f)) (hk:PySem.W.keepIn X.K (.ref f)=true) (hb:Binds X.K fd ps [])
  (F2:FnOk X.prog X.w X.K X.mg X.base (mS X.prog X.w C) k f2 fd2 ps2 sp2) (hg2:Gl X xf2) (hm2:X.mg xf2=some (.ref f2)) (hk2:PySem.W.keepIn X.K (.ref f2)=true) (hb2:Binds X.K fd2 ps2 []) (hr:Room k X.A)
  (q:PySem.W.excIn X.K C rD "ValueError.__new__" =true) (qg:PySem.W.excIn X.K G rD "ValueError.__new__" =true) (hup:jj X.K C G=true) (hgc:Gl X xc) (hmc:X.mg xc=some (.ref G)) (hN:X.N.Nodup) (hj:X.N[j]? =some n) (hl:X.env.scope.names.lookup n=some .local)
  (hc:PT X.nox c tc) (ha:PA X.nox (e::es) t) (ha2:PA X.nox (e2::es2) t2) (hs:∀x:Addr,PSs (X.inX (.ref x)) (b0::suite) tb) (hdb:(xf==("__debug__" :Str))=false:=by decide) (hdb2:(xf2==("__debug__" :Str))=false:=by decide) (hdc:(xc==("__debug__" :Str))=false:=by decide)
  (he:al (e::es) X.env=(false,eval e X.env)::al es X.env:=by rfl) (hpl:(bC pos (al es X.env)).any (·.1)=false:=by rfl) (hsw:eN (.Call (.Name xf p) (e::es) [] pos) none p1.line X.env=pure false:=by rfl)
  (he2:al (e2::es2) X.env=(false,eval e2 X.env)::al es2 X.env:=by rfl) (hpl2:(bC pos' (al es2 X.env)).any (·.1)=false:=by rfl) (hsw2:eN (.Call (.Name xf2 p') (e2::es2) [] pos') none p2.line X.env=pure false:=by rfl):
  PS X (.Try [.If c [.Expr (.Call (.Name xf p) (e::es) [] pos) p1] [.Expr (.Call (.Name xf2 p') (e2::es2) [] pos') p2] p5] [.ExceptHandler (some (.Name xc np)) (some n) (b0::suite) p3] [] [] p4)
   (λD σ H=>tc σ H λb H1=>if b then si sp t C j tb D σ H1 else si sp2 t2 C j tb D σ H1):=by
 intro pins s σ H D I h
 refine wpAny_Try_except ?_
 refine lh (wpAny_If (aW (hc pins s σ H _ (I.wish _) h) (λd s1 h1=> ?_) λ_ _ z=>z.elim))
 obtain⟨H1,I1,q1⟩:=h1
 have I2:=I1.unwish
 cases d with
 |true=>exact tQ hst henv F hr hg hm hk hb q qg hup hgc hmc hN hj hl ha hs hdb hdc he hpl hsw I2 q1 λH' s' I' q'=>dL (dL ⟨σ,H',I',q'⟩)
 |false=>exact tQ hst henv F2 hr hg2 hm2 hk2 hb2 q qg hup hgc hmc hN hj hl ha2 hs hdb2 hdc he2 hpl2 hsw2 I2 q1 λH' s' I' q'=>dL (dL ⟨σ,H',I',q'⟩)
end L2
namespace L3
open PySem L2 PySem.Spec PyProof.Rows
theorem BU{X:Cx}{C G:Addr}{k k2 k' j:Nat}{f f2:Addr}{fd fd2:aR}{ps ps2:List Str}{sp sp2:vo}{xf xf2 xc n:Str}{p pos p' pos' np p1 p2 p3 p4 p5:Pos}{c e e2:Expr}{es es2:List Expr}{tc:T2}{t t2:A2}{b0:Stmt}{suite:List Stmt}{tb:S2}{outer:List Env}
  (Cl:jC X.prog X.w X.K X.mg X.base C k xf f fd ps sp) (Cl2:jC X.prog X.w X.K X.mg X.base C k2 xf2 f2 fd2 ps2 sp2) (hr:Room k' X.A) (hk:k<=k') (hk2:k2<=k') (hmc:X.mg xc=some (.ref G)) (q:PySem.W.excIn X.K C rD "ValueError.__new__" =true) (qg:PySem.W.excIn X.K G rD "ValueError.__new__" =true) (hup:jj X.K C G=true) (hN:X.N.Nodup)
  (hc:JT X.nox c tc) (ha:JA X.nox (e::es) t) (ha2:JA X.nox (e2::es2) t2) (hs:∀x:Addr,JB (X.inX (.ref x)) (b0::suite) tb) (hj:X.N[j]? =some n:=by rfl) (hl:X.env.scope.names.lookup n=some .local:=by rfl) (hst:X.stack=X.env::outer:=by rfl)
  (hg:Gl X xf:=by rfl) (hg2:Gl X xf2:=by rfl) (hgc:Gl X xc:=by rfl) (hdb:(xf==("__debug__" :Str))=false:=by decide) (hdb2:(xf2==("__debug__" :Str))=false:=by decide) (hdc:(xc==("__debug__" :Str))=false:=by decide)
  (he:al (e::es) X.env=(false,eval e X.env)::al es X.env:=by rfl) (hpl:(bC pos (al es X.env)).any (·.1)=false:=by rfl) (hsw:eN (.Call (.Name xf p) (e::es) [] pos) none p1.line X.env=pure false:=by rfl)
  (he2:al (e2::es2) X.env=(false,eval e2 X.env)::al es2 X.env:=by rfl) (hpl2:(bC pos' (al es2 X.env)).any (·.1)=false:=by rfl) (hsw2:eN (.Call (.Name xf2 p') (e2::es2) [] pos') none p2.line X.env=pure false:=by rfl):
  JS X (.Try [.If c [.Expr (.Call (.Name xf p) (e::es) [] pos) p1] [.Expr (.Call (.Name xf2 p') (e2::es2) [] pos') p2] p5] [.ExceptHandler (some (.Name xc np)) (some n) (b0::suite) p3] [] [] p4) (sIf tc (vW sp t C j tb) (vW sp2 t2 C j tb)):=⟨λpins s1 σ H1 D I h=>by
 obtain⟨τ,G1,D2,rs,rp,q2,cl⟩:=h
 refine AY (tb:=zn X.K tb) hst rfl (Cl.ok.mono hk) hg Cl.m Cl.kp Cl.b (Cl2.ok.mono hk2) hg2 Cl2.m Cl2.kp Cl2.b hr q qg hup hgc hmc hN hj hl hc.h ha.h ha2.h (λx=>(hs x).h) hdb hdb2 hdc he hpl hsw he2 hpl2 hsw2 pins s1 σ H1 D I ⟨τ,G1,_,rs,rp,q2,λb G2 H2 q3 r3 k3=> ?_⟩
 have main:∀(sp:vo) (t:A2),vW sp t C j tb D2 τ G2->si (MQ X.K C sp) (BP X.nox.K t) C j (zn X.K tb) D σ H2:=λsp t q2=>by
  refine⟨τ,G2,_,rs.keep k3,r3,q2,λps G2 vs H2 q3 d3 r3' k3'=> ?_⟩
  have k3:=k3.trans k3'
  refine⟨ps,G2,_,_,d3,r3',q3,λv G3 v' H3 q4 _ r4 k4=>cl.nx _ _ _ _ q4 (rs.keep (k3.trans k4)) r4 (k3.trans k4),λG3 H3 q4 r4 tt ff x hx=> ?_⟩
  have k4:Keep X.K H2 H3:=EG tt ff
  have k5:Keep X.K H3 (upd H3 x (uV x C)):=bK hx
  have k6:=(k3.trans k4).trans k5
  exact⟨_,_,D2.drop j,(rs.keep k6).set (p:= .ref x) (v:= .ref x) rfl j,r4.upd k5 (λa o e ne=>by rw[aK ne]at e;exact e) (λo e=>by rw[ao]at e;cases e;exact cb),q4 x (r4.none hx),((cl.drop j).keep k6)⟩
 cases b with
 |true=>exact main sp t q3
 |false=>exact main sp2 t2 q3⟩
theorem Kz{P:aF}{w:aS}{K:PySem.W.Frag}{mg:Str->Option ae}{base:Heap}{k:Nat}{f:Addr}{fd:aR}{ps:List Str}{sp sp':gP}(a:ic P w K mg base k f fd ps sp)(b:ic P w K mg base k f fd ps sp'):ic P w K mg base k f fd ps (λps G Q=>sp ps G Q\/sp' ps G Q):=
 ⟨λvs H Q E h=>by
  obtain⟨as,G,Q2,d,rp,h|h,cl⟩:=h
  ·exact a.len vs H Q E ⟨as,G,Q2,d,rp,h,cl⟩
  ·exact b.len vs H Q E ⟨as,G,Q2,d,rp,h,cl⟩,λA outer s H args us vs Q E hr he hb hv h=>by
  obtain⟨as,G,Q2,d,rp,h|h,cl⟩:=h
  ·exact a.run A outer s H args us vs Q E hr he hb hv ⟨as,G,Q2,d,rp,h,cl⟩
  ·exact b.run A outer s H args us vs Q E hr he hb hv ⟨as,G,Q2,d,rp,h,cl⟩⟩
noncomputable def ub:vo:=λ_ _ _ _=>False
theorem Bp{P:aF}{w:aS}{K:PySem.W.Frag}{mg:Str->Option ae}{base:Heap}{C:Addr}{k:Nat}{f:Addr}{fd:aR}{ps:List Str}:FC P w K mg base C k f fd ps ub:=
 ⟨λvs H Q E h=>by obtain⟨_,_,_,_,_,_,h,_⟩:=h;exact h.elim,λA outer s H args us vs Q E hr he hb hv h=>by obtain⟨_,_,_,_,_,_,h,_⟩:=h;exact h.elim⟩
noncomputable abbrev Gh(r:M2)(to:E2):E2:=λτ G Q=>to τ G λx G1=>match x with
 | .str _=>r x [] G1 Q
 |_=>False
noncomputable def vJ:M2:=λp ps G Q=>match p,ps with
 | .str x,[]=>(Txt.upper x).length<=1000/\Q (.str (Txt.upper x)) G
 |_,_=>False
section
variable{X:Cx}{o:Expr}{to:E2}{apos cpos:Pos}{name:Str}{id:String}{r:M2}
theorem IA(slot:Slot "str" name id)(hty:typeOf (.builtin id)=pure (.type "method_descriptor"))(hm:zT X id (sH X.K r))(ho:JE X o to)
  (hbase:bL o name X.env (eval o X.env)=eval o X.env:=by rfl) (hline:(apos.endLine==cpos.line)=true:=by rfl):
  JE X (.Call (.Attribute o name apos) [] [] cpos) (Gh r to):= .of (Bd PySem.F.plainAttrs_str slot hty hm ho.h hbase hline) λσ H Q ⟨τ,G,Q2,rs,rp,q,cl⟩=>by
 refine⟨τ,G,_,rs,rp,q,λp G1 v H1 q1 d1 r1 k1=> ?_⟩
 cases p with
 |str z=>
  obtain rfl:v= .str z:=d1
  exact⟨rfl,.str z,[],G1,Q2,rfl,.nil,r1,q1,cl.keep k1⟩
 |_=>exact bG q1
theorem EE:zT X "str.upper" (sH X.K vJ):=by
 intro pins s σ H x xs v us Q I rx rs h
 obtain⟨p,ps,G,Q2,d,ds,rp,h,cl⟩:=h
 unfold vJ at h
 split at h
 ·rename_i z
  obtain rfl:x= .str z:=d
  obtain rfl:xs=[]:=ds
  cases rs
  obtain⟨t,rfl⟩:=rx
  exact PySem.SC.upper (by
   unfold bH.Str.tooLong
   refine decide_eq_false ?_
   have:=h.1
   have hsl:aJ=16777216:=by rw[fC]
   ac_nf) ⟨.str _,H,I.tok _,⟨_,rfl⟩,cl _ _ _ _ h.2 rfl rp .refl⟩
 ·exact h.elim
theorem BY(ho:JE X o to)(hbase:bL o "upper" X.env (eval o X.env)=eval o X.env:=by rfl)(hline:(apos.endLine==cpos.line)=true:=by rfl):JE X (.Call (.Attribute o "upper" apos) [] [] cpos) (Gh vJ to):=IA PySem.F.slot_str_upper PySem.F.type_str_upper EE ho hbase hline
end
end L3
namespace T21
open PySem L2 L3
local macro_rules | `(tactic| left) => `(tactic| with_reducible conv => whnf)
local macro_rules | `(tactic| exists $e:term) => `(tactic| (left; refine $e))
local macro_rules | `(tactic| ext) => `(tactic| (left; refine j6 rfl rfl (nZ rfl ?_)))
local macro_rules | `(tactic| nofun) => `(tactic| (left; refine ib rfl ?_))
local macro_rules | `(tactic| symm) => `(tactic| repeat' first
 | (show JG _ (.Tuple [_, _, _, _] _ _) _; first
  | exact jg_name4 (i := 2) (j := 3) (k := 4) (l := 5) rfl (by assumption) rfl (by first | exact iJ rfl | exact ik rfl) rfl (by first | exact iJ rfl | exact ik rfl) rfl (by first | exact iJ rfl | exact ik rfl) rfl (by first | exact iJ rfl | exact ik rfl))
 | (show JT _ (.Compare (.Constant .none _ _) [.In] _ _) _; first
  | refine' iO (o_inNoneL (by assumption)) ?_ ?_ rfl)
 | (show JE _ (.Subscript (.Name _ _) (.Name "place" _) _) _; first
  | refine' wz (by assumption) ?_ ?_)
 | (show JI _ _ (.Name "ways" _) _; first
  | refine' sN ?_)
 | (show JI _ _ (.Name "more" _) _; first
  | refine' sN ?_)
 | (show JI _ _ (.Name "turns" _) _; first
  | refine' sN ?_)
 | (show JS _ (.Assign [.Subscript (.Name "ways" _) _ _] _ _) _; first
  | refine' nG ?_ (pS ?_ ?_ (xH (by assumption))))
 | (show JS _ (.Assign [.Subscript (.Subscript _ _ _) _ _] _ _) _; first
  | refine' nG ?_ (pS ?_ ?_ (xH (by assumption))))
 | (show JS _ (.Assign [.Subscript _ _ _] (.Constant _ _ _) _) _; first
  | refine' nG ?_ (pS ?_ ?_ (xH (by assumption))))
 | (show JE _ (.Subscript (.Subscript (.Attribute _ "table" _) _ _) _ _) _; first
  | refine' wz (by assumption) ?_ ?_)
 | (show JE _ (.Call (.Attribute _ "get" _) [_, _] [] _) _; first
  | refine' IH (by assumption) ?_ ?_ ?_)
 | (show JE _ (.Dict [some _] [_] _) _; first
  | refine' E4 ?_ ?_)
 | (show JS _ (.AugAssign (.Attribute _ _ _) .Sub _ _) _; first
  | refine' zr (by assumption) (by assumption) ?_ ?_)
 | (show JS _ (.AugAssign (.Attribute _ _ _) .Add _ _) _; first
  | refine' wv (by assumption) ?_ ?_)
 | (show JI _ _ (.Call (.Name "zip" _) [_, .Subscript _ _ _] _ _) _; first
  | refine' ER (BN.zip (by assumption)) ?_)
 | (show JE _ (.Call (.Name "list" _) [.Call (.Name _ _) _ _ _] _ _) _; first
  | refine' jc_list (by assumption) rfl ?_)
 | (show JE _ (.Call (.Name "isinstance" _) [.Name "e" _, _] _ _) _; first
  | refine' ET (by assumption) (by rfl) (by assumption) ?_)
 | (show JE _ (.Call (.Name "Counts" _) _ _ _) _; first
  | refine' oS (by assumption) (by assumption) (by first | assumption | omega) ?_)
 | (show JE _ (.Call (.Name "Descent" _) _ _ _) _; first
  | refine' oS (by assumption) (by assumption) (by first | assumption | omega) ?_)
 | (show JE _ (.Call (.Name "ByNumber" _) _ _ _) _; first
  | refine' oS (by assumption) (by assumption) (by first | assumption | omega) ?_)
 | (show JE _ (.Call (.Name "ByMarks" _) _ _ _) _; first
  | refine' oS (by assumption) (by assumption) (by first | assumption | omega) ?_)
 | (show JS _ (.Try [.If _ _ _ _] _ _ _ _) _; first
  | refine' BU (j := 2) (by assumption) (by assumption) (by assumption) (by first | assumption | omega) (by first | assumption | omega) (by assumption) (by assumption) (by assumption) (by assumption) (by assumption) ?_ ?_ ?_ (λ_ => ?_))
 | (show JT _ (.Compare (.Name "thing" _) [.NotIn] _ _) _; first
  | refine' iO (KD (by assumption)) ?_ ?_ rfl)
 | (show JE _ (.Call (.Attribute _ "upper" _) _ _ _) _; first
  | refine' BY ?_)
 | (show JE _ (.Call (.Name "int" _) _ _ _) _; first
  | refine' ww (by assumption) ?_)
 | (show JE _ (.BinOp (.Subscript _ _ _) .Mult (.Call _ _ _ _) _) _; first
  | refine' jmS (by assumption) ?_ ?_)
 | (show JE _ (.Attribute _ _ _) _; first
  | refine' II (by assumption) ?_)
 | (show JI _ _ (.Name "ends" _) _; first
  | refine' sN ?_)
 | (show JE _ (.Subscript (.Name "ends" _) _ _) _; first
  | refine' wz (by assumption) ?_ ?_)
 | (show JS _ (.Assign [.Subscript (.Name "ahead" _) _ _] _ _) _; first
  | refine' nG ?_ (pS ?_ ?_ (xH (by assumption))))
 | (show JE _ (.Call (.Attribute _ "update" _) [_] [] _) _; first
  | refine' zw ?_ ?_)
 | (show JE _ (.Call (.Name "list" _) _ _ _) _; first
  | refine' B0 (by assumption) rfl ?_)
 | (show JB _ _ _; first
  | exact Iu
  | refine' Ir ?_
  | refine' EY ?_ ?_)
 | (show JA _ _ _; first
  | exact Iz
  | refine' E1 ?_ ?_)
 | (show JF _ _ _; first
  | exact Ik
  | refine' Ij ?_)
 | (show JO _ _ _; first
  | exact EO
  | refine' EN ?_)
 | (show JS _ (.Assign [.Name _ _] _ _) _; first
  | refine' zV 11 ?_ (by assumption)
  | refine' zV 10 ?_ (by assumption)
  | refine' zV 0 ?_ (by assumption)
  | refine' zV 1 ?_ (by assumption)
  | refine' zV 2 ?_ (by assumption)
  | refine' zV 3 ?_ (by assumption)
  | refine' zV 4 ?_ (by assumption)
  | refine' zV 5 ?_ (by assumption)
  | refine' zV 6 ?_ (by assumption)
  | refine' zV 7 ?_ (by assumption)
  | refine' zV 8 ?_ (by assumption)
  | refine' zV 9 ?_ (by assumption))
 | (show JS _ (.Assign [.Attribute _ _ _] _ _) _; first
  | refine' Ih (by assumption) (by assumption) ?_ ?_)
 | (show JS _ (.AugAssign (.Attribute _ _ _) _ _ _) _; first
  | refine' rh (by assumption) (by assumption) ?_ ?_)
 | (show JS _ (.Raise _ _ _) _; first
  | refine' BV (by assumption) (by assumption) (by assumption) ?_)
 | (show JE _ (.Attribute _ _ _) _; first
  | refine' Gd (by assumption) (by assumption) ?_)
 | (show JS _ (.Assign [.Tuple _ _ _] _ _) _; first
  | refine' nG ?_ ?_)
 | (show JS _ (.Assign [.Subscript _ _ _] _ _) _; first
  | refine' nG ?_ (pS ?_ ?_ FK))
 | (show JS _ (.Return (some _) _) _; first
  | refine' Ig ?_)
 | (show JS _ (.If _ _ _ _) _; first
  | refine' K9 ?_ ?_ ?_)
 | (show JS _ (.For _ _ _ [] _) _; first
  | refine' BW PassesOwn.never rfl ?_ ?_ ?_
  | refine' BW PassesOwn.leaving rfl ?_ ?_ ?_)
 | (show JS _ (.While _ _ [] _) _; first
  | refine' uL PassesOwn.never ?_ ?_
  | refine' uL PassesOwn.leaving ?_ ?_)
 | (show JS _ (.Expr _ _) _; first
  | refine' EK ?_)
 | (show JS _ (.AugAssign (.Name _ _) _ _ _) _; first
  | refine' nE (n := 0) pG ?_ (by assumption) rfl (by first | exact iJ rfl | exact ik rfl)
  | refine' nE (n := 1) pG ?_ (by assumption) rfl (by first | exact iJ rfl | exact ik rfl)
  | refine' nE (n := 2) pG ?_ (by assumption) rfl (by first | exact iJ rfl | exact ik rfl)
  | refine' nE (n := 3) pG ?_ (by assumption) rfl (by first | exact iJ rfl | exact ik rfl)
  | refine' nE (n := 4) pG ?_ (by assumption) rfl (by first | exact iJ rfl | exact ik rfl)
  | refine' nE (n := 5) pG ?_ (by assumption) rfl (by first | exact iJ rfl | exact ik rfl))
 | (show JS _ (.AugAssign (.Subscript _ _ _) _ _ _) _; first
  | refine' EL Lx pG FK ?_ ?_ ?_)
 | (show JS _ _ _; first
  | exact EJ)
 | (show JE _ (.Name _ _) _; first
  | exact jv 11
  | exact jv 10
  | exact jv 0
  | exact jv 1
  | exact jv 2
  | exact jv 3
  | exact jv 4
  | exact jv 5
  | exact jv 6
  | exact jv 7
  | exact jv 8
  | exact jv 9
  | exact IG (by assumption)
  | exact IE (by assumption)
  | exact IF (by assumption)
  | exact La (by assumption))
 | (show JE _ (.Constant _ _ _) _; first
  | exact Lm
  | exact Lf
  | exact Nx
  | exact Li)
 | (show JE _ (.BinOp (.Name "script" _) .Add _ _) _; first
  | refine' Nt ?_ ?_)
 | (show JE _ (.BinOp (.Constant (.str _) _ _) .Mult _ _) _; first
  | refine' jmS (by assumption) ?_ ?_)
 | (show JE _ (.BinOp _ .Add _ _) _; first
  | refine' jaE (by assumption) ?_ ?_
  | refine' Iy ?_ ?_)
 | (show JE _ (.BinOp (.Tuple _ _ _) .Mult _ _) _; first
  | refine' EV ?_ ?_)
 | (show JT _ (.Compare _ [.IsNot] [.Constant (.bool _) _ _] _) _; first
  | refine' EI ?_ ?_ rfl)
 | (show JE _ (.BinOp _ .Sub _ _) _; first
  | refine' Ip ?_ ?_)
 | (show JE _ (.BinOp _ .Mult _ _) _; first
  | refine' Iv ?_ ?_)
 | (show JE _ (.BinOp _ .Mod _ _) _; first
  | refine' Ix ?_ ?_)
 | (show JE _ (.BinOp _ .FloorDiv _ _) _; first
  | refine' EW ?_ ?_)
 | (show JE _ (.BinOp _ .Pow _ _) _; first
  | refine' Iq ?_ ?_)
 | (show JT _ (.Compare _ [.Eq] _ _) _; first
  | refine' K7 (by assumption) ?_ ?_)
 | (show JT _ (.Compare _ [.NotEq] _ _) _; first
  | refine' K1 (by assumption) ?_ ?_)
 | (show JE _ (.Compare _ [.NotEq] _ _) _; first
  | refine' Lb (by assumption) ?_ ?_)
 | (show JT _ (.Compare _ [.Lt] _ _) _; first
  | refine' K3 ?_ ?_)
 | (show JE _ (.Compare _ [.Lt] _ _) _; first
  | refine' Lc ?_ ?_)
 | (show JT _ (.Compare _ [.Gt] _ _) _; first
  | refine' K5 ?_ ?_)
 | (show JE _ (.Compare _ [.Gt] _ _) _; first
  | refine' Ld ?_ ?_)
 | (show JT _ (.Compare _ [.GtE] _ _) _; first
  | refine' K6 ?_ ?_)
 | (show JT _ (.Compare _ [.In] _ _) _; first
  | refine' K4 ?_ ?_ rfl)
 | (show JT _ (.Compare _ [.Is] _ _) _; first
  | refine' Ic ?_ ?_ rfl)
 | (show JT _ (.UnaryOp .Not _ _) _; first
  | refine' Ib ?_)
 | (show JT _ (.BoolOp _ _ _) _; first
  | refine' Nr ?_)
 | (show JW _ _ _; first
  | refine' K0 ?_ ?_
  | refine' H0 ?_ ?_
  | refine' HZ ?_
  | refine' EH ?_)
 | (show JT _ _ _; first
  | refine' Ia ?_)
 | (show JE _ (.UnaryOp .USub _ _) _; first
  | refine' Nu JQ ?_)
 | (show JE _ (.BoolOp _ _ _) _; first
  | refine' Lp ?_ ?_
  | refine' Lh ?_)
 | (show JE _ (.IfExp _ _ _ _) _; first
  | refine' Ln ?_ ?_ ?_)
 | (show JE _ (.List _ _) _; first
  | refine' Lk ?_)
 | (show JE _ (.Tuple _ _ _) _; first
  | refine' Le ?_)
 | (show JE _ (.Subscript _ (.Slice _ _ _ _) _) _; first
  | refine' Lg ?_
  | refine' jsE (by assumption) ?_ ?_ ?_
  | refine' E3 ?_ ?_ ?_)
 | (show JE _ (.Subscript _ _ _) _; first
  | refine' Ll ?_ ?_)
 | (show JE _ (.Call (.Attribute _ _ _) _ _ _) _; first
  | refine' zy ?_ ?_
  | refine' zx ?_ ?_
  | refine' EQ ?_ ?_
  | refine' Ii ?_
  | refine' IC (by assumption) (by assumption) (by first | assumption | omega) ?_ ?_
  | refine' ID (by assumption) (by assumption) (by first | assumption | omega) ?_)
 | (show JE _ (.Dict [] [] _) _; first
  | exact IJ)
 | (show JE _ (.Call (.Name "isinstance" _) [.Name "caught" _, _] _ _) _; first
  | refine' B1 (by assumption) ?_)
 | (show JE _ (.Call (.Name _ _) [.Compare _ _ _ _] _ _) _; first
  | refine' ww (by assumption) ?_)
 | (show JE _ (.Call (.Name _ _) [.BoolOp _ _ _] _ _) _; first
  | refine' ww (by assumption) ?_)
 | (show JE _ (.Call (.Name _ _) _ _ _) _; first
  | refine' Lo (by assumption) (by assumption) (by first | assumption | omega) ?_
  | refine' IK Ej (by assumption) (by assumption) (by assumption) (by first | assumption | omega) ?_
  | refine' B4 (by assumption) (by assumption) (by assumption) (by assumption) (by first | assumption | omega) (by assumption) ?_
  | refine' Io (by assumption) ?_
  | refine' EU (by assumption) ?_
  | refine' Im (by assumption) rfl ?_
  | refine' Il (by assumption) rfl ?_
  | refine' BZ (by assumption) ?_)
 | (show JI _ _ (.Call (.Name _ _) _ _ _) _; first
  | refine' zB (BN.range (by assumption)) ?_
  | refine' zA (BN.range (by assumption)) ?_
  | refine' yw ?_)
 | (show JI _ _ _ _; first
  | refine' yw ?_)
 | (show JG _ (.Name _ _) _; first
  | exact zW 11 (by assumption)
  | exact zW 10 (by assumption)
  | exact zW 0 (by assumption)
  | exact zW 1 (by assumption)
  | exact zW 2 (by assumption)
  | exact zW 3 (by assumption)
  | exact zW 4 (by assumption)
  | exact zW 5 (by assumption)
  | exact zW 6 (by assumption)
  | exact zW 7 (by assumption)
  | exact zW 8 (by assumption)
  | exact zW 9 (by assumption))
 | (show JG _ (.Tuple _ _ _) _; first
  | exact jgS2 0 (by assumption)
  | exact jgS2 1 (by assumption)
  | exact jgS2 2 (by assumption)
  | exact jgS2 3 (by assumption)
  | exact jgS2 4 (by assumption)
  | exact jgS2 5 (by assumption)
  | exact jgS2 6 (by assumption)
  | exact jgS2 7 (by assumption)
  | exact jgS2 8 (by assumption)))
noncomputable def jo(names:List (Str×dP)):e8:={kind:= .function,names:=names,isGenerator:=false,isCoroutine:=false,more:=[]}
noncomputable abbrev vC:Stmt:=top 9
noncomputable abbrev vz:Stmt:=top 10
section
variable{P:aF}{w:aS}{K:PySem.W.Frag}{mg:Str->Option ae}{base:Heap}{f fi:Addr}{fd di:aR}
theorem xQ:bn ["pattern", "kind"] ["pattern"] (aL vC):=⟨rfl,rfl,rfl,by decide+kernel,rfl,by decide+kernel,by decide+kernel⟩
noncomputable def oK:gP:=λps G Q=>∃p,ps=[n5 p]/\Q (.tup (eI (cy p))) G
theorem Bt(F:Fun K "inner_patterns" "inner_patterns" vC f fd)(B:BN mg):ic P w K mg base 1 f fd ["pattern"] oK:=by
 have nd:=xQ.nd
 refine kG F xQ (λvs G Q h=> ?_) (λcdv A outer s H E as G Q hr h=> ?_)
 ·obtain⟨p,rfl,_⟩:=h
  rfl
 have hU:=en hr
 apply iW
 case a=>symm
 obtain⟨p,rfl,q⟩:=h
 cases p with
 |none=>exact⟨dH,rfl,rfl,rfl,rfl,dH,rfl,rfl,dH,G,GE.refl,q⟩
 |blank=>exact⟨dH,rfl,rfl,rfl,rfl,dH,rfl,rfl,dH,G,GE.refl,q⟩
 |sign s=>exact⟨dH,rfl,rfl,rfl,rfl,dH,rfl,rfl,dH,G,GE.refl,q⟩
 |row ps=>exact⟨dH,rfl,rfl,G,GE.refl,q⟩
 |pick ps=>exact⟨dH,rfl,rfl,G,GE.refl,q⟩
 |again p=>exact⟨dH,rfl,rfl,rfl,rfl,dH,G,GE.refl,q⟩
 |held n p=>exact⟨dH,rfl,rfl,rfl,rfl,dH,rfl,rfl,dH,G,GE.refl,q⟩
 |price n p=>exact⟨dH,rfl,rfl,rfl,rfl,dH,rfl,rfl,dH,G,GE.refl,q⟩
theorem xO:bn ["pattern", "makes", "waiting", "make"] ["pattern"] (aL vz):=⟨rfl,rfl,rfl,by decide+kernel,rfl,by decide+kernel,by decide+kernel⟩
noncomputable def oI:gP:=λps G Q=>∃p,ps=[n5 p]/\size p<=10000/\∀c,G c=none->Q (.ref c) (up G c (.lst (eI (makes p))))
theorem Br(F:Fun K "makes_of" "makes_of" vz f fd)(B:BN mg)(C:cE P w K mg base 1 "inner_patterns" fi di ["pattern"] oK):ic P w K mg base 2 f fd ["pattern"] oI:=by
 have nd:=xO.nd
 refine kG F xO (λvs G Q h=> ?_) (λcdv A outer s H E as G Q hr h=> ?_)
 ·obtain⟨p,rfl,_⟩:=h
  rfl
 have hU:=en hr
 apply iW
 case a=>symm
 obtain⟨p,rfl,hz,q⟩:=h
 refine⟨dH,λm hm=>⟨dH,λv hv=> ?_⟩⟩
 obtain⟨hvm,hv⟩:=bT hv
 refine⟨λk τ G'=>∃(dn st:List Pt) (z:Option PV),τ=[some (n5 p),some (.ref m),some (.ref v),z]/\G' m=some (.lst (eI dn))/\G' v=some (.lst (eI st.reverse))/\GE G G'/\dn++dF st=makes p/\k=dE st,
  ⟨_,[],[p],.none,rfl,by rw[aK (aG hvm),ao];rfl,by rw[ao];rfl,(GE.refl.new hm).mod hv,by simp[dF],rfl⟩,?_⟩
 rintro k τ G' ⟨dn,st,z,rfl,gm,gv,ge,he,rfl⟩
 have hl:dn.length+dE st=size p:=by
  have:=congrArg lJ he
  rwa [aM,e7,bJ]at this
 refine uF (a9 gv) ?_
 cases st with
 |nil=>
  have hd:dn=makes p:=by simpa [dF]using he
  subst hd
  exact⟨_,ge.at gm,q m hm⟩
 |cons x st=>
  have ln:(eI (x::st).reverse).length=st.length+1:=by rw[fB,cf];rfl
  have hs:dE (x::st)=size x+dE st:=rfl
  have hx:=jf x
  have hi:=fR (cy x)
  have hst:=fR st
  rw[show eI (x::st).reverse=eI st.reverse++[n5 x]by rw[fJ,j7];rfl]at gv ln⊢
  refine jD ?_ ?_
  ·refine decide_eq_true ?_
   rw[ln];ac_nf
  refine⟨⟨_,gv⟩,FW gv ?_⟩
  refine⟨⟨eI dn,by rw[aK (aG hvm)];exact gm⟩,i8 (by rw[aK (aG hvm)];exact gm) (by rw[fB];ac_nf) ?_⟩
  refine⟨⟨_,by rw[aK hvm,ao]⟩,x,rfl,Cm (by rw[aK hvm,ao]) ?_ ?_⟩
  ·rw[cf,fB,fB,cf];ac_nf
  refine⟨dE (cy x++st),?_,dn++[x],cy x++st,_,rfl,?_,?_,((ge.mod hv).mod hm).mod hv,?_,rfl⟩
  ·rw[md];ac_nf
  ·rw[aK (aG hvm),ao,j7];rfl
  ·rw[ao,List.reverse_append,j7,sT (cy x)]
  ·rw[kW]
   rw[<-he]
   simp[dF,iH x]
end
theorem sU{lo:Int}{n i:Nat}{x:PV}(h:(i4 lo n)[i]? =some x):i<n/\x= .int (lo-i):=by
 unfold i4 at h
 rw[aI]at h
 cases e:(dC n)[i]? with
 |none=>rw[e]at h;cases h
 |some j=>
  rw[e]at h
  have hi:i<n:=by
   have:=(aj.mp e).1
   simpa using this
  rw[eQ hi]at e
  cases e
  cases h
  exact⟨hi,rfl⟩
theorem qb(lo:Int)(n:Nat):(i4 lo n).length=n:=by unfold i4;simp
theorem yy{n j:Nat}(h:j<n):zC n (j:Int)=some j:=by
 unfold zC
 rw[if_pos (by ac_nf),if_pos (by ac_nf)]
 simp
theorem ql{α:Type}(xs:List α)(x:α):mW (xs++[x]) (-1)=some x:=by
 unfold mW zC
 rw[if_neg (by ac_nf),if_pos (by simp;ac_nf)]
 show(xs++[x])[(-1+((xs++[x]).length:Int)).toNat]? =some x
 rw[aM,show(-1+((xs.length+[x].length:Nat):Int)).toNat=xs.length by simp;ac_nf]
 simp
theorem Fk{ps:List Pt}{i:Nat}{x:PV}(h:(eI ps)[i]? =some x):∃c,ps[i]? =some c/\x=n5 c:=by
 rw[gx,aI]at h
 cases e:ps[i]? with
 |none=>rw[e]at h;cases h
 |some c=>rw[e]at h;cases h;exact⟨c,rfl,rfl⟩
theorem tu{ps:List Pt}{i:Nat}{c:Pt}(h:ps[i]? =some c):(eI ps)[i]? =some (n5 c):=by
 rw[gx,aI,h];rfl
noncomputable abbrev lO:Stmt:=top 11
section
variable{P:aF}{w:aS}{K:PySem.W.Frag}{mg:Str->Option ae}{base:Heap}{f fi fm:Addr}{fd di dm:aR}
theorem qW:bn ["pattern", "makes", "sizes", "parts", "number", "numbers", "part"] ["pattern"] (aL lO):=⟨rfl,rfl,rfl,by decide+kernel,rfl,by decide+kernel,by decide+kernel⟩
theorem rB:fq (aL lO) ["pattern", "makes", "sizes", "parts", "number", "numbers", "part"] (jo [(".0",.local),("make",.local)]) ["make"] [none] 0 "make" =true:=by decide+kernel
noncomputable def nc:gP:=λps G Q=>∃p,ps=[n5 p]/\size p<=10000/\∀c,G c=none->Q (.ref c) (up G c (.lst (fY p)))
theorem we(F:Fun K "parts_of" "parts_of" lO f fd)(B:BN mg)(CI:cE P w K mg base 1 "inner_patterns" fi di ["pattern"] oK)(CM:cE P w K mg base 2 "makes_of" fm dm ["pattern"] oI):ic P w K mg base 3 f fd ["pattern"] nc:=by
 have nd:=qW.nd
 refine kG F qW (λvs G Q h=> ?_) (λcdv A outer s H E as G Q hr h=> ?_)
 ·obtain⟨p,rfl,_⟩:=h
  rfl
 have hU:=en hr
 apply iW
 case a=>
  symm
  all_goals try (refine' yu (n:=2) (ix:=[none]) (j:=0) nd rfl rfl rB rfl ?_ (λC s H fp=>⟨?_,?_⟩))
  all_goals try (refine' yu (n:=3) (ix:=[none]) (j:=0) nd rfl rfl rB rfl ?_ (λC s H fp=>⟨?_,?_⟩))
  all_goals symm
 obtain⟨p,rfl,hz,q⟩:=h
 have lM:(eI (makes p)).length=size p:=by rw[fB,bJ]
 exists⟨p,rfl,hz,λmk hmk=> ?_⟩
 left
 rw[jY]
 left
 intro sz hsz
 have nsm:sz≠mk:=(bT hsz).1
 refine i7 (λ_=>true) (λ_=> .int 1) (by rw[lM];ac_nf) (λys=>a9 (by rw[aK (aG nsm),ao])) (λx ys R _ hR=>hR) (λx ys R _ _ hR=>hR) ?_
 rw[iE.mpr (λ_ _=>rfl),List.map_const',lM]
 left
 rw[a9 (show up (up G mk _) sz _ mk=some (.lst (eI (makes p)))by rw[aK (aG nsm),ao])]
 left
 intro pa hpa
 obtain⟨nps,hpa2⟩:=bT hpa
 obtain⟨npm,hpa3⟩:=bT hpa2
 have hsz':=(bT hsz).2
 refine i7 (λ_=>true) (λ_=> .tup []) (by rw[lM];ac_nf) (λys=>a9 (by rw[aK (aG npm),aK (aG nsm),ao])) (λx ys R _ hR=>hR) (λx ys R _ _ hR=>⟨dH,hR⟩) ?_
 rw[iE.mpr (λ_ _=>rfl),List.map_const',lM]
 exists uF (xs:=eI (makes p)) (a9 (by rw[aK (aG npm),aK (aG nsm),ao])) ?_
 rw[lM]
 exists⟨rfl,⟨by ac_nf,by ac_nf,by decide,by decide⟩,?_⟩
 rw[show((size p:Int)-1- -1).toNat=size p by ac_nf]
 refine⟨λi τ G2=>∃(S T:List PV) (t4 t5 t6:Option PV),τ=[some (n5 p),some (.ref mk),some (.ref sz),some (.ref pa),t4,t5,t6]/\G2 mk=some (.lst (eI (makes p)))/\G2 sz=some (.lst S)/\G2 pa=some (.lst T)/\GE G G2/\
  S.length=size p/\T.length=size p/\(∀j,j<size p-i->S[j]? =some (.int 1))/\(∀j c,size p-i<=j->(makes p)[j]? =some c->S[j]? =some (.int (size c))/\T[j]? =some (.tup ((cz (j+1) (cy c)).map dM))),?_,?_,?_,?_⟩
 ·refine⟨_,_,_,_,_,rfl,by rw[aK (aG npm),aK (aG nsm),ao],by rw[aK (aG nps),ao],ao,((GE.refl.new hmk).mod hsz').mod hpa3,by simp,by simp,λj hj=> ?_,λj c hj hc=> ?_⟩
  ·rw[jG,if_pos (by ac_nf)]
  ·have:=(aj.mp hc).1
   rw[bJ]at this
   ac_nf
 ·intros;trivial
 ·rintro i x τ G2 hx ⟨S,T,t4,t5,t6,rfl,gm,gs,gp,ge,lS,lT,h1,h2⟩
  obtain⟨hi,rfl⟩:=sU hx
  obtain⟨j0,hj0⟩:∃j0,j0=size p-1-i:=⟨_,rfl⟩
  have hjn:((size p:Int)-1-i)=(j0:Int):=by ac_nf
  rw[hjn]
  have hjl:j0<(makes p).length:=by rw[bJ];ac_nf
  obtain⟨c0,hc0⟩:∃c0,(makes p)[j0]? =some c0:=⟨_,ak hjl⟩
  exists⟨dH,λnb hnb=> ?_⟩
  have nbm:mk≠nb:=bt gm hnb
  have nbs:sz≠nb:=bt gs hnb
  have nbp:pa≠nb:=bt gp hnb
  exists cU (a9 (by rw[aK nbm];exact gm)) (bX (tu hc0)) ?_
  exists⟨c0,rfl,?_⟩
  exists⟨λk τ G3=>∃(S2:List PV) (t6:Option PV),τ=[some (n5 p),some (.ref mk),some (.ref sz),some (.ref pa),some (.int j0),some (.ref nb),t6]/\G3 mk=some (.lst (eI (makes p)))/\G3 sz=some (.lst S2)/\G3 pa=some (.lst T)/\G3 nb=some (.lst ((cz (j0+1) ((cy c0).take k)).map dM))/\GE G G3/\
   S2.length=size p/\S2[j0]? =some (.int (1+dE ((cy c0).take k)))/\∀j,j≠j0->S2[j]? =S[j]?,?_,?_,?_,?_⟩
  ·refine⟨S,t6,rfl,by rw[aK nbm];exact gm,by rw[aK nbs];exact gs,by rw[aK nbp];exact gp,ao,ge.new hnb,lS,?_,λ_ _=>rfl⟩
   rw[h1 j0 (by ac_nf)];simp[dE]
  ·intros;trivial
  ·rintro k x τ G3 hx3 ⟨S2,t6',rfl,gm3,gs3,gp3,gn3,ge3,lS2,e1,e2⟩
   obtain⟨c,hc,rfl⟩:=Fk hx3
   have hkl:k<(cy c0).length:=(aj.mp hc).1
   have tk:(cy c0).take (k+1)=(cy c0).take k++[c]:=by rw[cO,hc];rfl
   have spl:cy c0=(cy c0).take k++c::(cy c0).drop (k+1):=by
    have e3:=(gX k (cy c0)).symm
    rw[dY hkl]at e3
    have e4:(cy c0)[k]=c:=by
     have:=hc;rw[ak hkl]at this;exact a8 this
    rw[e4]at e3
    exact e3
   have hpart:=ue hc0 spl
   have hle:=ud hpart
   have hcp:=uc c
   exists⟨⟨_,gn3⟩,?_⟩
   exists cU (a9 gs3) (bX e1) ?_
   exists wS ?_
   exists i8 gn3 (by rw[aB,dX,bz];have:=fR (cy c0);have:=ud hc0;have:=jf c0;ac_nf) ?_
   have nn:(nb:Addr)≠sz:=aG nbs
   exists Lq (i:=(j0:Int)) (a9 (by rw[aK nbs];exact gs3)) (bX e1) ?_
   exists cU (a9 ao) (ql _ _) ?_
   left
   have e5:S2[j0+1+dE ((cy c0).take k)]? =some (.int (size c)):=by
    rw[e2 _ (by ac_nf)]
    exact(h2 _ c (by ac_nf) hpart).1
   refine cU (a9 (by rw[aK nbs];exact gs3)) (by
    have e6:=bX e5
    rw[show(((j0+1+dE ((cy c0).take k):Nat):Int))=(j0:Int)+(1+(dE ((cy c0).take k):Int))by ac_nf]at e6
    exact e6) ?_
   exists sv (k:=(j0:Int)) (by rw[aK nbs];exact gs3) (yy (by ac_nf)) ?_
   refine⟨_,_,rfl,by rw[aK (aG nsm),aK nbm];exact gm3,ao,by rw[aK (by exact nps),aK nbp];exact gp3,?_,(ge3.mod (by
    cases e:G nb with
    |none=>rfl
    |some o=>rw[ge _ _ e]at hnb;cases hnb)).mod hsz',by rw[List.length_set];exact lS2,?_,λj hj=> ?_⟩
   ·rw[aK (aG nbs),ao,tk,kZ,bD]
    simp[cz,dM]
    ac_nf
   ·rw[cw (by ac_nf),tk,md]
    simp[dE];ac_nf
   ·rw[bW (aG hj)];exact e2 j hj
  ·rintro τ G3 ⟨S2,t6',rfl,gm3,gs3,gp3,gn3,ge3,lS2,e1,e2⟩
   rw[fB,ce]at gn3 e1
   exists rY (a9 gn3) ?_
   exists sv (k:=(j0:Int)) gp3 (yy (by ac_nf)) ?_
   refine⟨S2,_,_,_,_,rfl,by rw[aK (aG npm)];exact gm3,by rw[aK (aG nps)];exact gs3,ao,ge3.mod hpa3,lS2,by rw[List.length_set];exact lT,λj hj=> ?_,λj c hj hc=> ?_⟩
   ·rw[e2 j (by ac_nf)];exact h1 j (by ac_nf)
   ·by_cases hjj:j=j0
    ·subst hjj
     rw[hc0]at hc;cases hc
     refine⟨?_,?_⟩
     ·rw[e1,jf c0];simp
     ·rw[cw (by ac_nf)]
    ·rw[e2 j hjj,bW (aG hjj)]
     exact h2 j c (by ac_nf) hc
 ·rintro τ G2 ⟨S,T,t4,t5,t6,rfl,gm,gs,gp,ge,lS,lT,h1,h2⟩
  rw[qb]at h1 h2
  have eT:T=fY p:=by
   apply List.ext_getElem?
   intro j
   by_cases hj:j<size p
   ·obtain⟨c,hc⟩:∃c,(makes p)[j]? =some c:=⟨_,ak (by rw[bJ];exact hj)⟩
    rw[(h2 j c (by ac_nf) hc).2,fH hc]
   ·rw[dU (by ac_nf),dU (by rw[qA];ac_nf)]
  subst eT
  exact⟨_,ge.at gp,q pa hpa3⟩
end
noncomputable abbrev Gs:Stmt:=top 13
section
variable{P:aF}{w:aS}{K:PySem.W.Frag}{mg:Str->Option ae}{base:Heap}{f:Addr}{fd:aR}
theorem FO:bn ["ways", "more", "times", "place"] ["ways", "more", "times"] (aL Gs):=⟨rfl,rfl,rfl,by decide+kernel,rfl,by decide+kernel,by decide+kernel⟩
noncomputable def ua:gP:=λps G Q=>∃(a b:Addr) (t n:Nat) (ws ms:Ws) (h g:Nat->Nat),ps=[.ref a,.ref b,.int (t:Int)]/\G a=some (.dK (eL ws))/\G b=some (.rd (eL ms))/\Wy ws n h/\Wy ms n g/\0<t/\n<=1000/\(∀w∈ms,w.2<2^64)/\Q .non (up G a (.dK (eL (lD t ws ms))))
theorem HI(F:Fun K "add_ways" "add_ways" Gs f fd)(B:BN mg):ic P w K mg base 1 f fd ["ways", "more", "times"] ua:=by
 have nd:=FO.nd
 refine kG F FO (λvs G Q h=> ?_) (λcdv A outer s H E as G Q hr h=> ?_)
 ·obtain⟨_,_,_,_,_,_,_,_,rfl,_⟩:=h
  rfl
 have hU:=en hr
 apply iW
 case a=>symm
 obtain⟨a,b,t,n,ws,ms,h,g,rfl,ga,gb,hw,hm,ht,hn,hb,q⟩:=h
 have key:(eL ms).map (λkv=>kP kv.1)=ms.map λw=>PV.int (w.1:Int):=by unfold eL;rw[cF];rfl
 have nab:b≠a:=λz=>by rw[z,ga]at gb;cases gb
 exists wK rfl gb ?_
 rw[key]
 refine⟨λi τ G'=>∃z:Option PV,τ=[some (.ref a),some (.ref b),some (.int (t:Int)),z]/\G'=up G a (.dK (eL (lD t ws (ms.take i)))),⟨none,rfl,?_⟩,?_,?_,?_⟩
 ·rw[List.take_zero];exact(w8 ga).symm
 ·rintro i τ G' _ ⟨z,_,rfl⟩
  rw[aK nab];exact gb
 ·rintro i x τ G' hx ⟨z,rfl,rfl⟩
  rw[aI]at hx
  cases em:ms[i]? with
  |none=>rw[em]at hx;cases hx
  |some m=>
   rw[em]at hx
   cases hx
   have hi:=hw.put_part (i:=i) ht hm
   exists⟨pV (i5 ao),?_⟩
   exists sQ (i5 ao) rfl ?_
   rw[tK hi.pos]
   left
   have e1:=nw hm.nd em
   have hp:=hm.pos m (ax em)
   refine kX (mE (by rw[aK nab];exact gb)) rfl (show gF (eL ms) (.inl (m.1:Int))=some (.int (m.2:Int))by rw[lW ms m.1 hm.pos,e1,if_neg (by ac_nf)]) ?_
   exists BG (.inl ⟨by ac_nf,by have:=hb m (ax em);ac_nf⟩) ?_
   exists wS ?_
   exists vV ao rfl (by have:=hi.len;unfold eL;rw[aB];ac_nf) ?_
   refine⟨_,rfl,?_⟩
   rw[ia,zS em,<-pE _ _ _ hi.nd]
   congr 4
 ·rintro τ G' ⟨z,rfl,rfl⟩
  rw[aB,ce]
  exact⟨_,GE.refl,q⟩
end
noncomputable abbrev wY:Stmt:=dQ (top 14) 0
noncomputable abbrev vx:Stmt:=dQ (top 14) 2
noncomputable abbrev Ac:Stmt:=dQ (top 14) 3
noncomputable abbrev Gr:Stmt:=dQ (top 14) 4
noncomputable abbrev z9:Stmt:=dQ (top 14) 5
noncomputable abbrev vH:Stmt:=dQ (top 14) 6
section
variable{P:aF}{w:aS}{K:PySem.W.Frag}{mg:Str->Option ae}{base:Heap}{f fa C:Addr}{fd da:aR}
theorem FL:bn ["self", "number", "at", "ways", "part", "further", "place"] ["self", "number", "at"] (aL Gr):=⟨rfl,rfl,rfl,by decide+kernel,rfl,by decide+kernel,by decide+kernel⟩
noncomputable def zU(C:Addr)(V:List Nat->Pt->Nat->Nat->Nat)(ok:Pt->Bool):gP:=λps G Q=>∃(a dx m pa tb:Addr) (ts:List Addr) (T:List Nat) (p q:Pt) (n e:Nat),ps=[.ref a,.int (n:Int),.int (e:Int)]/\Cs T p/\Tb C G a T p (Dn n e) dx m pa tb ts/\(makes p)[n]? =some q/\ok q=true/\e<=T.length/\
 ∀d ws,G d=none->Wy ws (T.length+1) (V T q e)->Q (.ref d) (up G d (.rd (eL ws)))
noncomputable def Gu:List Nat->Pt->Nat->Nat->Nat:=λT q e=>pD T (cy q) (dl e)
theorem HF(c:Cls K C)(n1:NoAttr K C "signs")(n2:NoAttr K C "makes")(n3:NoAttr K C "parts")(n4:NoAttr K C "table")(F:Fun K "count_row" "Counts.count_row" Gr f fd)(B:BN mg)(CA:cE P w K mg base 1 "add_ways" fa da ["ways", "more", "times"] ua):ic P w K mg base 2 f fd ["self", "number", "at"] (zU C Gu λ_=>true):=by
 have nd:=FL.nd
 refine Fd F FL (λvs G Q h=> ?_) (λcdv A outer s H E as G Q hr h=> ?_)
 ·obtain⟨_,_,_,_,_,_,_,_,_,_,_,rfl,_⟩:=h
  rfl
 have hU:=en hr
 apply iW
 case a=>symm
 obtain⟨a,dx,m,pa,tb,ts,T,p,qq,n,e,rfl,cs,tbl,hq,-,he,q⟩:=h
 left
 intro w0 hw0
 exists sW rfl ao ?_
 rw[ia]
 exists cu (by rw[aK (bt tbl.ins hw0)];exact tbl.ins) rfl ?_
 exists cU (a9 (by rw[aK (bt tbl.pts hw0)];exact tbl.pts)) (bX (fH hq)) ?_
 left
 have lnP:((cz (n+1) (cy qq)).map dM).length=(cy qq).length:=by rw[aB,dX]
 refine⟨λi τ G'=>∃(w1:Addr) (ws:Ws) (t4 t5 t6:Option PV),τ=[some (.ref a),some (.int (n:Int)),some (.int (e:Int)),some (.ref w1),t4,t5,t6]/\G w1=none/\G' w1=some (.dK (eL ws))/\GE G G'/\Wy ws (T.length+1) (pD T ((cy qq).take i) (dl e)),?_,?_,?_,?_⟩
 ·exact⟨w0,[(e,1)],none,none,none,rfl,hw0,ao,GE.refl.new hw0,Wy.one (by ac_nf)⟩
 ·intros;trivial
 ·rintro i x τ G' hx ⟨w1,ws,t4,t5,t6,rfl,hw1,gw,ge,wy⟩
  have hxl:=(aj.mp hx).1
  rw[lnP]at hxl
  obtain⟨cc,hcc⟩:∃cc,(cy qq)[i]? =some cc:=⟨_,ak hxl⟩
  obtain⟨j,rfl,hj,hnj⟩:=gq hq hcc hx
  left
  intro fu hfu
  have nfw:fu≠w1:=λz=>by rw[z,gw]at hfu;cases hfu
  have hfu0:G fu=none:=by
   cases ez:G fu with
   |none=>rfl
   |some o=>rw[ge _ _ ez]at hfu;cases hfu
  exists Je rfl (by rw[aK (aG nfw)];exact gw) ?_
  rw[i3]
  refine⟨λi τ G2=>∃(fs:Ws) (t6:Option PV),τ=[some (.ref a),some (.int (n:Int)),some (.int (e:Int)),some (.ref w1),some (.int (j:Int)),some (.ref fu),t6]/\G2 w1=some (.rd (eL ws))/\G2 fu=some (.dK (eL fs))/\GE G G2/\Wy fs (T.length+1) (wa T cc (ws.take i)),?_,?_,?_,?_⟩
  ·exact⟨[],t6,rfl,ao,by rw[aK nfw,ao];rfl,((ge.mod hfu0).mod hw1),Wy.nil⟩
  ·rintro i τ G2 _ ⟨fs,t6,_,g1,_⟩
   exact g1
  ·rintro i2 x τ G2 hx ⟨fs,t6,rfl,g1,g2,lz,wf⟩
   obtain⟨v,hv,rfl⟩:=yt hx
   obtain⟨k1,k2,k3⟩:=wy.key hv
   have hle:e<=v.1:=yb _ (λk hk=>LQ hk) v.1 (by rw[k1];ac_nf)
   have tb2:=tbl.ge lz
   obtain⟨t,d,kvs,ms,r1,r2,r3,r4,r5⟩:=tb2.read hj (k:=v.1) (by
    rcases cV e v.1 with z|z
    ·exact .inl z
    ·exact .inr ⟨by ac_nf,hnj⟩) (by ac_nf)
   exists cu tb2.ins rfl ?_
   exists cU (a9 tb2.tbl) (bX r1) ?_
   exists kX (i5 r2) rfl r3 ?_
   exists kX (mE g1) rfl (wy.read hv) ?_
   exists⟨fu,d,v.2,T.length+1,fs,ms,_,_,rfl,g2,r4,wf,r5,k2,by have:=cs.len;ac_nf,r5.big cs (ax hj) (by ac_nf),?_⟩
   refine⟨lD v.2 fs ms,_,rfl,by rw[aK (aG nfw)];exact g1,ao,lz.mod hfu0,?_⟩
   refine(wf.add k2 r5.nd r5.lt r5.pos).congr λx=> ?_
   rw[ra hv,r5.val]
  ·rintro τ G2 ⟨fs,t6,rfl,g1,g2,lz,wf⟩
   rw[aB,ce]at wf
   exists⟨fu,fs,_,_,_,rfl,hfu0,g2,lz,wf.congr λx=> ?_⟩
   rw[ux wy,lG,hcc]
   exact congrFun (qY T cc _ _).symm x
 ·rintro τ G' ⟨w1,ws,t4,t5,t6,rfl,hw1,gw,ge,wy⟩
  rw[lnP]at wy
  rw[ce]at wy
  left
  exact⟨_,GW.rd ge gw,q w1 ws hw1 wy⟩
end
section
variable{P:aF}{w:aS}{K:PySem.W.Frag}{mg:Str->Option ae}{base:Heap}{f fa C:Addr}{fd da:aR}
theorem AD:bn ["self", "number", "at", "ways", "part"] ["self", "number", "at"] (aL z9):=⟨rfl,rfl,rfl,by decide+kernel,rfl,by decide+kernel,by decide+kernel⟩
noncomputable def Ah:List Nat->Pt->Nat->Nat->Nat:=λT q e j=>((cy q).map λp=>nT T p e j).sum
theorem none_of{G G':Gp}{a:Addr}(ge:GE G G')(h:G' a=none):G a=none:=by
 cases ez:G a with
 |none=>rfl
 |some o=>rw[ge _ _ ez]at h;cases h
theorem En(c:Cls K C)(n1:NoAttr K C "signs")(n2:NoAttr K C "makes")(n3:NoAttr K C "parts")(n4:NoAttr K C "table")(F:Fun K "count_pick" "Counts.count_pick" z9 f fd)(B:BN mg)(CA:cE P w K mg base 1 "add_ways" fa da ["ways", "more", "times"] ua):ic P w K mg base 2 f fd ["self", "number", "at"] (zU C Ah λ_=>true):=by
 have nd:=AD.nd
 refine Fd F AD (λvs G Q h=> ?_) (λcdv A outer s H E as G Q hr h=> ?_)
 ·obtain⟨_,_,_,_,_,_,_,_,_,_,_,rfl,_⟩:=h
  rfl
 have hU:=en hr
 apply iW
 case a=>symm
 obtain⟨a,dx,m,pa,tb,ts,T,p,qq,n,e,rfl,cs,tbl,hq,-,he,q⟩:=h
 left
 intro w0 hw0
 exists cu (by rw[aK (bt tbl.ins hw0)];exact tbl.ins) rfl ?_
 exists cU (a9 (by rw[aK (bt tbl.pts hw0)];exact tbl.pts)) (bX (fH hq)) ?_
 left
 have lnP:((cz (n+1) (cy qq)).map dM).length=(cy qq).length:=by rw[aB,dX]
 refine⟨λi τ G'=>∃(ws:Ws) (t4:Option PV),τ=[some (.ref a),some (.int (n:Int)),some (.int (e:Int)),some (.ref w0),t4]/\G' w0=some (.dK (eL ws))/\GE G G'/\Wy ws (T.length+1) (λj=>(((cy qq).take i).map λp=>nT T p e j).sum),?_,?_,?_,?_⟩
 ·exact⟨[],none,rfl,ao,GE.refl.new hw0,Wy.nil⟩
 ·intros;trivial
 ·rintro i x τ G' hx ⟨ws,t4,rfl,gw,ge,wy⟩
  have hxl:=(aj.mp hx).1
  rw[lnP]at hxl
  obtain⟨cc,hcc⟩:∃cc,(cy qq)[i]? =some cc:=⟨_,ak hxl⟩
  obtain⟨j,rfl,hj,hnj⟩:=gq hq hcc hx
  have tb2:=tbl.ge ge
  obtain⟨t,d,kvs,ms,r1,r2,r3,r4,r5⟩:=tb2.read hj (k:=e) (.inr ⟨rfl,hnj⟩) he
  exists cu tb2.ins rfl ?_
  exists cU (a9 tb2.tbl) (bX r1) ?_
  exists kX (i5 r2) rfl r3 ?_
  exists⟨w0,d,1,T.length+1,ws,ms,_,_,rfl,gw,r4,wy,r5,by ac_nf,by have:=cs.len;ac_nf,r5.big cs (ax hj) he,?_⟩
  refine⟨lD 1 ws ms,_,rfl,ao,ge.mod hw0,?_⟩
  refine(wy.add (by ac_nf) r5.nd r5.lt r5.pos).congr λx=> ?_
  rw[r5.val,lG,hcc]
  simp
 ·rintro τ G' ⟨ws,t4,rfl,gw,ge,wy⟩
  rw[lnP]at wy
  rw[ce]at wy
  left
  exact⟨_,GW.rd ge gw,q w0 ws hw0 wy⟩
theorem xV:bn ["self", "number", "at", "ways", "turns", "place"] ["self", "number", "at"] (aL vH):=⟨rfl,rfl,rfl,by decide+kernel,rfl,by decide+kernel,by decide+kernel⟩
noncomputable def yO:List Nat->Pt->Nat->Nat->Nat:=λT q e=>nT T q e
noncomputable def IT:Pt->Bool
 | .again _=>true
 |_=>false
theorem Bz(c:Cls K C)(n1:NoAttr K C "signs")(n2:NoAttr K C "makes")(n3:NoAttr K C "parts")(n4:NoAttr K C "table")(F:Fun K "count_again" "Counts.count_again" vH f fd)(B:BN mg)(CA:cE P w K mg base 1 "add_ways" fa da ["ways", "more", "times"] ua):ic P w K mg base 2 f fd ["self", "number", "at"] (zU C yO IT):=by
 have nd:=xV.nd
 refine Fd F xV (λvs G Q h=> ?_) (λcdv A outer s H E as G Q hr h=> ?_)
 ·obtain⟨_,_,_,_,_,_,_,_,_,_,_,rfl,_⟩:=h
  rfl
 have hU:=en hr
 apply iW
 case a=>symm
 obtain⟨a,dx,m,pa,tb,ts,T,p,qq,n,e,rfl,cs,tbl,hq,hag,he,q⟩:=h
 cases qq with
 |again r=>
  have hcb:=cs.ag r (ax hq)
  obtain⟨j,ej,hj,hnj⟩:=gq (i:=0) (cc:=r) hq rfl rfl
  have hj1:j=n+1:=im.mp (PV.int.inj ej).symm
  left
  intro w0 hw0
  exists sW rfl ao ?_
  rw[ia]
  have ge0:GE G (up G w0 (.dK [(.inl (e:Int),.int 1)])):=GE.refl.new hw0
  have tb1:=tbl.ge ge0
  obtain⟨t,d,kvs,tw,r1,r2,r3,r4,r5⟩:=tb1.read hj (k:=e) (.inr ⟨rfl,hnj⟩) he
  exists cu tb1.ins rfl ?_
  exists cu tb1.ins rfl ?_
  exists cU (a9 tb1.pts) (bX (fH hq)) ?_
  exists ib (x:= .int (j:Int)) (by rw[hj1];rfl) ?_
  exists cU (a9 tb1.tbl) (bX r1) ?_
  exists kX (i5 r2) rfl r3 ?_
  exists wK rfl r4 ?_
  rw[i3]
  refine⟨λi τ G'=>∃(ws:Ws) (t5:Option PV),τ=[some (.ref a),some (.int (n:Int)),some (.int (e:Int)),some (.ref w0),some (.ref d),t5]/\G' w0=some (.dK (eL ws))/\G' d=some (.rd (eL tw))/\GE G G'/\Wy ws (T.length+1) (λj=>dl e j+wa T (.again r) (tw.take i) j),?_,?_,?_,?_⟩
  ·exact⟨[(e,1)],none,rfl,ao,r4,ge0,(Wy.one (by ac_nf)).congr λj=>rfl⟩
  ·rintro i τ G' _ ⟨ws,t5,_,_,g2,_⟩
   exact g2
  ·rintro i x τ G' hx ⟨ws,t5,rfl,gw,gd,ge,wy⟩
   obtain⟨v,hv,rfl⟩:=yt hx
   obtain⟨k1,k2,k3⟩:=r5.key hv
   have hle:e<v.1:=by
    rcases cV e v.1 with z|z
    ·exact z
    ·rw[jW hcb z]at k1;ac_nf
   have tb2:=tbl.ge ge
   obtain⟨t2,d2,kvs2,ms,s1,s2,s3,s4,s5⟩:=tb2.read hq (k:=v.1) (.inl hle) (by ac_nf)
   exists cu tb2.ins rfl ?_
   exists cU (a9 tb2.tbl) (bX s1) ?_
   exists kX (i5 s2) rfl s3 ?_
   exists kX (mE gd) rfl (r5.read hv) ?_
   exists⟨w0,d2,v.2,T.length+1,ws,ms,_,_,rfl,gw,s4,wy,s5,k2,by have:=cs.len;ac_nf,s5.big cs (ax hq) (by ac_nf),?_⟩
   refine⟨lD v.2 ws ms,_,rfl,ao,by rw[aK (λz=>by rw[z,gw]at gd;cases gd)];exact gd,ge.mod hw0,?_⟩
   refine(wy.add k2 s5.nd s5.lt s5.pos).congr λx=> ?_
   rw[ra hv,s5.val,Nat.add_assoc]
  ·rintro τ G' ⟨ws,t5,rfl,gw,gd,ge,wy⟩
   rw[aB,ce]at wy
   exists⟨_,GW.rd ge gw,q w0 ws hw0 (wy.congr λx=> ?_)⟩
   rw[ux r5]
   exact(iq hcb he).symm
 |_=>cases hag
end
section
variable{P:aF}{w:aS}{K:PySem.W.Frag}{mg:Str->Option ae}{base:Heap}{f fa fp fr C:Addr}{fd da dp dr:aR}
theorem Lu{S:Str}{c:Nat}{G:Gp}{Q:K2}(q:Q (.bl (decide (c∈S.cps.toList))) G):Ls false (.str ⟨#[c]⟩) (.str S) G Q:=by
 show Q (.bl ((!(fV S ⟨#[c]⟩ 0 S.length 1).isEmpty))) G
 rw[StrLaws.found_one];exact q
theorem sJ{z:Str}{G:Gp}{Q:K2}(h:z.length<=16000000)(q:Q (.int z.length) G):lv [.str z] G Q:=⟨h,q⟩
theorem AI:bn ["self", "number", "at", "make", "kind"] ["self", "number", "at"] (aL Ac):=⟨rfl,rfl,rfl,by decide+kernel,rfl,by decide+kernel,by decide+kernel⟩
theorem Et(c:Cls K C)(n1:NoAttr K C "signs")(n2:NoAttr K C "makes")(n3:NoAttr K C "parts")(n4:NoAttr K C "table")(F:Fun K "count_from" "Counts.count_from" Ac f fd)(B:BN mg)(MP:er P w K mg base C 2 "count_pick" fp dp ["self", "number", "at"] (zU C Ah λ_=>true))(MA:er P w K mg base C 2 "count_again" fa da ["self", "number", "at"] (zU C yO IT))(MR:er P w K mg base C 2 "count_row" fr dr ["self", "number", "at"] (zU C Gu λ_=>true)):ic P w K mg base 3 f fd ["self", "number", "at"] (zU C yO λ_=>true):=by
 have nd:=AI.nd
 refine Fd F AI (λvs G Q h=> ?_) (λcdv A outer s H E as G Q hr h=> ?_)
 ·obtain⟨_,_,_,_,_,_,_,_,_,_,_,rfl,_⟩:=h
  rfl
 have hU:=en hr
 apply iW
 case a=>symm
 obtain⟨a,dx,m,pa,tb,ts,T,p,qq,n,e,rfl,cs,tbl,hq,-,he,q⟩:=h
 exists cu tbl.ins rfl ?_
 exists cU (a9 tbl.mks) (bX (tu hq)) ?_
 left
 cases qq with
 |none=>
  nofun
  exists j6 rfl rfl (jD rfl ?_)
  left
  intro w0 hw0
  exact⟨_,GW.rd (GE.refl.new hw0) ao,q w0 [] hw0 Wy.nil⟩
 |sign z=>
  nofun
  ext
  exists j6 rfl rfl (jD rfl ?_)
  exists cu tbl.ins rfl ?_
  exists sJ (by rw[gM];have:=cs.len;ac_nf) ?_
  rw[gM]
  left
  have no:nT T (.sign z) e=(λ_=>0)->∀w0,G w0=none->∃G0,GW G0 (up G w0 (.dK []))/\Q (.ref w0) G0:=λh w0 hw0=>⟨_,GW.rd (GE.refl.new hw0) ao,q w0 [] hw0 (by show Wy [] _ (nT T (.sign z) e);rw[h];exact Wy.nil)⟩
  refine Mh (λh=> ?_) (λh=> ?_)
  ·have h1:(e:Int)<(T.length:Nat):=of_decide_eq_true h
   have h2:e<T.length:=by ac_nf
   obtain⟨ch,ec⟩:∃ch,T[e]? =some ch:=⟨_,ak h2⟩
   exists cu tbl.ins rfl ?_
   exists pU (c:=ch) (by rw[gM];have:=cs.len;ac_nf) (bX (by rw[yn];exact ec)) ?_
   exists ib (x:= .str z) rfl ?_
   exists Lu ?_
   left
   by_cases hc:ch∈z.cps.toList
   ·refine jD (decide_eq_true hc) ?_
    left
    intro w0 hw0
    exists wS ?_
    exists sW rfl ao ?_
    rw[ia]
    refine⟨_,GW.rd (GE.refl.new hw0) ao,q w0 [(e+1,1)] hw0 ((Wy.one (by ac_nf)).congr λj=> ?_)⟩
    show _=jz (bq T (.sign z) e) j
    unfold bq
    rw[ec]
    simp only[if_pos hc]
    exact(mI _ _ _).symm
   ·refine nZ (decide_eq_false hc) ?_
    exists no ?_
    funext j
    show jz (bq T (.sign z) e) j=0
    unfold bq
    rw[ec]
    simp only[if_neg hc]
    rfl
  ·have h1:¬(e:Int)<(T.length:Nat):=of_decide_eq_false h
   exists no ?_
   funext j
   show jz (bq T (.sign z) e) j=0
   unfold bq
   rw[dU (by ac_nf)]
   rfl
 |pick ps=>
  nofun
  ext
  ext
  exists j6 rfl rfl (jD rfl ?_)
  exists⟨⟨a,dx,_,rfl,tbl.ins,rfl⟩,?_⟩
  exists⟨a,dx,m,pa,tb,ts,T,p,_,n,e,rfl,cs,tbl,hq,rfl,he,λd ws hd hw=>⟨_,GE.refl.gw,q d ws hd (hw.congr λj=> ?_)⟩⟩
  exact yj.symm
 |again r=>
  nofun
  ext
  ext
  ext
  exists j6 rfl rfl (jD rfl ?_)
  exists⟨⟨a,dx,_,rfl,tbl.ins,rfl⟩,?_⟩
  left
  exact⟨a,dx,m,pa,tb,ts,T,p,_,n,e,rfl,cs,tbl,hq,rfl,he,λd ws hd hw=>⟨_,GE.refl.gw,q d ws hd hw⟩⟩
 |blank=>
  nofun
  ext
  ext
  ext
  ext
  exists⟨⟨a,dx,_,rfl,tbl.ins,rfl⟩,?_⟩
  left
  exact⟨a,dx,m,pa,tb,ts,T,p,_,n,e,rfl,cs,tbl,hq,rfl,he,λd ws hd hw=>⟨_,GE.refl.gw,q d ws hd (hw.congr λj=>(kj rfl he).symm)⟩⟩
 |row ps=>
  nofun
  ext
  ext
  ext
  ext
  exists⟨⟨a,dx,_,rfl,tbl.ins,rfl⟩,?_⟩
  left
  exact⟨a,dx,m,pa,tb,ts,T,p,_,n,e,rfl,cs,tbl,hq,rfl,he,λd ws hd hw=>⟨_,GE.refl.gw,q d ws hd (hw.congr λj=>(kj rfl he).symm)⟩⟩
 |held nm r=>
  nofun
  ext
  ext
  ext
  ext
  exists⟨⟨a,dx,_,rfl,tbl.ins,rfl⟩,?_⟩
  left
  exact⟨a,dx,m,pa,tb,ts,T,p,_,n,e,rfl,cs,tbl,hq,rfl,he,λd ws hd hw=>⟨_,GE.refl.gw,q d ws hd (hw.congr λj=>(kj rfl he).symm)⟩⟩
 |price nm r=>
  nofun
  ext
  ext
  ext
  ext
  exists⟨⟨a,dx,_,rfl,tbl.ins,rfl⟩,?_⟩
  left
  exact⟨a,dx,m,pa,tb,ts,T,p,_,n,e,rfl,cs,tbl,hq,rfl,he,λd ws hd hw=>⟨_,GE.refl.gw,q d ws hd (hw.congr λj=>(kj rfl he).symm)⟩⟩
end
section
variable{P:aF}{w:aS}{K:PySem.W.Frag}{mg:Str->Option ae}{base:Heap}{f fm fp fr C:Addr}{fd dm dp dr:aR}
theorem xK:bn ["self"] ["self"] (aL vx):=⟨rfl,rfl,rfl,by decide+kernel,rfl,by decide+kernel,by decide+kernel⟩
noncomputable def sj(C:Addr):gP:=λps G Q=>∃(a dx m pa tb:Addr) (ts:List Addr) (T:List Nat) (p:Pt),ps=[.ref a]/\Cs T p/\Tb C G a T p (λ_ _=>True) dx m pa tb ts/\Q (.int (nT T p 0 T.length:Nat)) G
theorem ED(p:Pt):(makes p)[0]? =some p:=by rw[iH p];rfl
theorem Bk(c:Cls K C)(n1:NoAttr K C "signs")(n4:NoAttr K C "table")(F:Fun K "total" "Counts.total" vx f fd)(B:BN mg):ic P w K mg base 1 f fd ["self"] (sj C):=by
 have nd:=xK.nd
 refine kG F xK (λvs G Q h=> ?_) (λcdv A outer s H E as G Q hr h=> ?_)
 ·obtain⟨_,_,_,_,_,_,_,_,rfl,_⟩:=h
  rfl
 have hU:=en hr
 apply iW
 case a=>symm
 obtain⟨a,dx,m,pa,tb,ts,T,p,rfl,cs,tbl,q⟩:=h
 obtain⟨t,d,kvs,ms,r1,r2,r3,r4,r5⟩:=tbl.read (ED p) (k:=0) trivial (cg _)
 exists cu tbl.ins rfl ?_
 exists cU (i:=0) (a9 tbl.tbl) (bX (j:=0) r1) ?_
 exists kX (i5 r2) rfl r3 ?_
 exists⟨pV (mE r4),?_⟩
 exists cu tbl.ins rfl ?_
 exists sJ (by rw[gM];have:=cs.len;ac_nf) ?_
 rw[gM]
 exists sQ (mE r4) rfl ?_
 rw[tK r5.pos,r5.val]
 exact⟨_,GE.refl,q⟩
theorem AG:bn ["self", "pattern", "text", "at", "number"] ["self", "pattern", "text"] (aL wY):=⟨rfl,rfl,rfl,by decide+kernel,rfl,by decide+kernel,by decide+kernel⟩
theorem Ji:fq (aL wY) ["self", "pattern", "text", "at", "number"] (jo [(".0",.local),("make",.local)]) ["make"] [none] 0 "make" =true:=by decide+kernel
noncomputable def vS(C:Addr):gP:=λps G Q=>∃(a dx:Addr) (T:List Nat) (p:Pt),ps=[.ref a,n5 p,.str (qC T)]/\G a=some (.ins C dx [])/\Cs T p/\∀G' m pa tb ts,Ch [a] G G'->Tb C G' a T p (λ_ _=>True) dx m pa tb ts->Q .non G'
theorem Es(c:Cls K C)(n1:NoAttr K C "signs")(n2:NoAttr K C "makes")(n3:NoAttr K C "parts")(n4:NoAttr K C "table")(F:Fun K "__init__" "Counts.__init__" wY f fd)(B:BN mg)(CM:cE P w K mg base 2 "makes_of" fm dm ["pattern"] oI)(CP:cE P w K mg base 3 "parts_of" fp dp ["pattern"] nc)(MF:er P w K mg base C 3 "count_from" fr dr ["self", "number", "at"] (zU C yO λ_=>true)):ic P w K mg base 4 f fd ["self", "pattern", "text"] (vS C):=by
 have nd:=AG.nd
 refine kG F AG (λvs G Q h=> ?_) (λcdv A outer s H E as G Q hr h=> ?_)
 ·obtain⟨_,_,_,_,rfl,_⟩:=h
  rfl
 have hU:=en hr
 apply iW
 case a=>
  symm
  all_goals try (refine' lx (ix:=[none]) (j:=0) Ji rfl ?_ (λC s H fp=>⟨?_,?_⟩))
  all_goals symm
 obtain⟨a,dx,T,p,rfl,ga,cs,q⟩:=h
 have lM:(eI (makes p)).length=size p:=by rw[fB,bJ]
 have hsz:=cs.siz
 have hln:=cs.len
 exists jS ga (aV rfl) ?_
 exists⟨p,rfl,by ac_nf,λm hm=> ?_⟩
 left
 have nma:m≠a:=(bT hm).1
 refine jS (by rw[aK (aG nma),ao]) (aV rfl) ?_
 exists⟨p,rfl,by ac_nf,λpa hpa=> ?_⟩
 left
 obtain⟨npa,hpa2⟩:=bT hpa
 obtain⟨npm,hpa3⟩:=bT hpa2
 have hpa0:G pa=none:=(bT hpa3).2
 have hm0:G m=none:=(bT hm).2
 refine jS (by rw[aK (aG npa),ao]) (aV rfl) ?_
 rw[w9 (a:=a) (b:=m) (aG nma),ia,w9 (a:=a) (b:=pa) (aG npa),ia]
 exists cu ao rfl ?_
 left
 rw[a9 (show up (up (up G m _) pa _) a _ m=some (.lst (eI (makes p)))by rw[aK nma,aK (aG npm),ao])]
 left
 intro acc hacc
 obtain⟨nca,hac2⟩:=bT hacc
 obtain⟨ncp,hac3⟩:=bT hac2
 obtain⟨ncm,hac0⟩:=bT hac3
 have k0:Ch [a] G (up (up (up G m (.lst (eI (makes p)))) pa (.lst (fY p))) a (.ins C dx [("signs",.str (qC T)),("makes",.ref m),("parts",.ref pa)])):=((Ch.refl.mod' hm0).mod' hpa0).put (by simp)
 have g0a:up (up (up G m (.lst (eI (makes p)))) pa (.lst (fY p))) a (.ins C dx [("signs",.str (qC T)),("makes",.ref m),("parts",.ref pa)]) a=some (.ins C dx [("signs",.str (qC T)),("makes",.ref m),("parts",.ref pa)]):=ao
 have g0m:up (up (up G m (.lst (eI (makes p)))) pa (.lst (fY p))) a (.ins C dx [("signs",.str (qC T)),("makes",.ref m),("parts",.ref pa)]) m=some (.lst (eI (makes p))):=by rw[aK nma,aK (aG npm),ao]
 have g0p:up (up (up G m (.lst (eI (makes p)))) pa (.lst (fY p))) a (.ins C dx [("signs",.str (qC T)),("makes",.ref m),("parts",.ref pa)]) pa=some (.lst (fY p)):=by rw[aK npa,ao]
 change NL _ _ _ _ _ _ _ _ (up (up (up G m (.lst (eI (makes p)))) pa (.lst (fY p))) a (.ins C dx [("signs",.str (qC T)),("makes",.ref m),("parts",.ref pa)])) acc
 change up (up (up G m (.lst (eI (makes p)))) pa (.lst (fY p))) a (.ins C dx [("signs",.str (qC T)),("makes",.ref m),("parts",.ref pa)]) acc=none at hacc
 generalize up (up (up G m (.lst (eI (makes p)))) pa (.lst (fY p))) a (.ins C dx [("signs",.str (qC T)),("makes",.ref m),("parts",.ref pa)])=G0 at k0 g0a g0m g0p hacc⊢
 refine⟨λi ys G1=>∃ts:List Addr,ys=ts.map PV.ref/\ts.length=i/\ts.Nodup/\(∀t∈ts,G1 t=some (.dK [])/\G0 t=none)/\GE G0 G1/\G1 acc=some (.lst ys),?_,?_,?_,?_⟩
 ·exact⟨[],rfl,rfl,by simp,by simp,GE.refl.new hacc,ao⟩
 ·rintro i ys G1 hi ⟨ts,rfl,rfl,nd',ht,ge,gc⟩
  refine⟨a9 (ge _ _ g0m),gc,?_⟩
  rw[aB];ac_nf
 ·rintro i ys G1 x hx ⟨ts,rfl,rfl,nd',ht,ge,gc⟩
  refine jD rfl ?_
  left
  intro d hd
  have hd0:=none_of ge hd
  have ndc:d≠acc:=λz=>by rw[z,gc]at hd;cases hd
  refine⟨by rw[aK (aG ndc)];exact gc,ts++[d],by rw[bD];rfl,by simp,?_,λt h=> ?_,((ge.mod hd0).mod hacc),ao⟩
  ·rw[jr]
   refine⟨nd',by simp,λx hx y hy=> ?_⟩
   cases aC.mp hy
   intro z
   rw[z]at hx
   rw[(ht d hx).1]at hd;cases hd
  ·rcases bj.mp h with h|h
   ·have h1:=ht t h
    exact⟨by rw[aK (λz=>by rw[z,gc]at h1;cases h1.1),aK (bt h1.1 hd)];exact h1.1,h1.2⟩
   ·cases aC.mp h
    exact⟨by rw[aK ndc,ao],hd0⟩
 ·rintro ys G1 ⟨ts,rfl,hts,nd',ht,ge,gc⟩
  rw[lM]at hts
  exists jS (ge _ _ g0a) (aV rfl) ?_
  have nac:a≠acc:=bt g0a hacc
  have k1:Ch [a] G (up G1 a (.ins C dx (JD T m pa acc))):=(k0.trans ge.ch).put (by simp)
  have nta:∀t∈ts,t≠a:=λt h z=>by have:=(ht t h).2;rw[z,g0a]at this;cases this
  have htG:∀t∈ts,G t=none:=λt h=>by
   cases ez:G t with
   |none=>rfl
   |some o=>
    have:=k0 t o (by simpa using nta t h) ez
    rw[(ht t h).2]at this;cases this
  have tb0:Tb C (up G1 a (.ins C dx (JD T m pa acc))) a T p (λ_ _=>False) dx m pa acc ts:=⟨ao,by rw[aK nma];exact ge _ _ g0m,by rw[aK npa];exact ge _ _ g0p,by rw[aK (aG nac)];exact gc,hts,λi t hi=>⟨[],by rw[aK (nta t (ax hi))];exact(ht t (ax hi)).1,λ_ _ _ hf=>hf.elim⟩⟩
  have l0:∀(j:Nat) (t:Addr),ts[j]? =some t->∃kvs,up G1 a (.ins C dx (JD T m pa acc)) t=some (.dK kvs)/\kvs.length<=0:=λj t hj=>⟨[],by rw[aK (nta t (ax hj))];exact(ht t (ax hj)).1,aq _⟩
  change (λG3=>_) (up G1 a (.ins C dx (JD T m pa acc)))
  generalize up G1 a (.ins C dx (JD T m pa acc))=G2 at k1 tb0 l0⊢
  exists sJ (by rw[gM];ac_nf) ?_
  rw[gM]
  exists⟨rfl,⟨by ac_nf,by ac_nf,by decide,by decide⟩,?_⟩
  rw[show((T.length:Int)- -1).toNat=T.length+1 by ac_nf]
  refine⟨λi τ G3=>∃(t3 t4:Option PV),τ=[some (.ref a),some (n5 p),some (.str (qC T)),t3,t4]/\Ch [a] G G3/\Tb C G3 a T p (λ_ e=>T.length<e+i) dx m pa acc ts/\∀(j:Nat) (t:Addr),ts[j]? =some t->∃kvs,G3 t=some (.dK kvs)/\kvs.length<=i,?_,?_,?_,?_⟩
  ·exact⟨none,none,rfl,k1,tb0.mono λ_ e h1 h2=>by ac_nf,l0⟩
  ·intros;trivial
  ·rintro i x τ G3 hx ⟨t3,t4,rfl,k3,tb3,l3⟩
   obtain⟨hi,rfl⟩:=sU hx
   obtain⟨e0,he0⟩:∃e0,e0=T.length-i:=⟨_,rfl⟩
   rw[show((T.length:Int)-(i:Nat))=(e0:Nat)by ac_nf]
   exists cu tb3.ins rfl ?_
   exists uF (a9 tb3.mks) ?_
   rw[lM]
   exists⟨rfl,⟨by ac_nf,by ac_nf,by decide,by decide⟩,?_⟩
   rw[show((size p:Int)-1- -1).toNat=size p by ac_nf]
   refine⟨λk τ G4=>∃(t4:Option PV),τ=[some (.ref a),some (n5 p),some (.str (qC T)),some (.int (e0:Nat)),t4]/\Ch [a] G G4/\Tb C G4 a T p (λj e=>e0<e\/e=e0/\size p<=j+k) dx m pa acc ts/\∀(j:Nat) (t:Addr),ts[j]? =some t->∃kvs,G4 t=some (.dK kvs)/\kvs.length<=i+1/\(j+k<size p->kvs.length<=i),?_,?_,?_,?_⟩
   ·refine⟨t4,rfl,k3,tb3.mono' λj e h0 h1 h2=> ?_,λj t hj=> ?_⟩
    ·rcases h2 with h2|⟨h2,h3⟩
     ·ac_nf
     ·ac_nf
    ·obtain⟨kvs,h1,h2⟩:=l3 j t hj
     exact⟨kvs,h1,by ac_nf,λ_=>h2⟩
   ·intros;trivial
   ·rintro k x τ G4 hx ⟨t4,rfl,k4,tb4,l4⟩
    obtain⟨hk,rfl⟩:=sU hx
    obtain⟨n,hn⟩:∃n,n=size p-1-k:=⟨_,rfl⟩
    rw[show((size p:Int)-1-(k:Nat))=(n:Nat)by ac_nf]
    have hnl:n<(makes p).length:=by rw[bJ];ac_nf
    obtain⟨qn,hqn⟩:∃qn,(makes p)[n]? =some qn:=⟨_,ak hnl⟩
    obtain⟨t,htn⟩:∃t,ts[n]? =some t:=⟨_,ak (by ac_nf)⟩
    obtain⟨kvs,hk1,_,hk3⟩:=l4 n t htn
    exists⟨⟨a,dx,_,rfl,tb4.ins,rfl⟩,?_⟩
    exists⟨a,dx,m,pa,acc,ts,T,p,qn,n,e0,rfl,cs,tb4.mono λj e h1 h2=> ?_,hqn,rfl,by ac_nf,λd ws hd hw=> ?_⟩
    ·rcases h2 with h2|⟨h2,h3⟩
     ·exact .inl h2
     ·exact .inr ⟨h2,by ac_nf⟩
    left
    have ge5:GE G4 (up G4 d (.rd (eL ws))):=GE.refl.new hd
    have tb5:=tb4.ge ge5
    refine cu tb5.ins rfl ?_
    exists cU (a9 tb5.tbl) (bX (Jp (α:=Nat) htn)) ?_
    exists vV (ge5 _ _ hk1) rfl (by have:=hk3 (by ac_nf);ac_nf) ?_
    refine⟨_,rfl,(k4.new hd).mod' (htG t (ax htn)),tb4.write nd' htn hqn hk1 hd hw λj e h1 h2=> ?_,λj t' hj=> ?_⟩
    ·rcases h2 with h2|⟨h2,h3⟩
     ·exact .inl (.inl h2)
     ·by_cases z:j=n
      ·exact .inr ⟨z,h2⟩
      ·exact .inl (.inr ⟨h2,by ac_nf⟩)
    ·obtain⟨kv',m1,m2,m3⟩:=l4 j t' hj
     by_cases z:t'=t
     ·subst z
      refine⟨_,ao,?_,λh=> ?_⟩
      ·have:=ut (k:= .inl (e0:Int)) (v:= .ref d) kvs
       have:=hk3 (by ac_nf)
       ac_nf
      ·exfalso
       have pw:=vg.mp nd'
       obtain⟨a1,b1⟩:=aj.mp hj
       obtain⟨a2,b2⟩:=aj.mp htn
       rcases Nat.lt_or_gt_of_ne (show j≠n by ac_nf)with z|z
       ·exact pw j n a1 a2 z (by rw[b1,b2])
       ·ac_nf
     ·exact⟨kv',by rw[aK z,aK (bt m1 hd)];exact m1,m2,λh=>m3 (by ac_nf)⟩
   ·rintro τ G4 ⟨t4,rfl,k4,tb4,l4⟩
    rw[qb]at tb4 l4
    refine⟨_,_,rfl,k4,tb4.mono λj e h1 h2=> ?_,λj t hj=> ?_⟩
    ·by_cases z:e0<e
     ·exact .inl z
     ·exact .inr ⟨by ac_nf,by ac_nf⟩
    ·obtain⟨kvs,h1,h2,_⟩:=l4 j t hj
     exact⟨kvs,h1,h2⟩
  ·rintro τ G3 ⟨t3,t4,rfl,k3,tb3,l3⟩
   rw[qb]at tb3
   exact⟨_,GE.refl,q G3 m pa acc ts k3 (tb3.mono λj e h1 _=>by ac_nf)⟩
end
noncomputable abbrev Ad:Stmt:=dQ (top 14) 1
noncomputable abbrev vF:Stmt:=dQ (top 23) 0
noncomputable abbrev rQ:Stmt:=dQ (top 23) 1
noncomputable abbrev vE:Stmt:=dQ (top 24) 0
noncomputable abbrev rO:Stmt:=dQ (top 24) 1
noncomputable abbrev rP:Stmt:=dQ (top 24) 2
noncomputable abbrev vG:Stmt:=dQ (top 24) 3
noncomputable abbrev Dg:Stmt:=dQ (top 24) 4
noncomputable abbrev o7:Stmt:=dQ (top 24) 5
noncomputable abbrev lQ:Stmt:=dQ (top 24) 6
noncomputable abbrev lP:Stmt:=dQ (top 24) 7
noncomputable def lF:List Nat->Nat->Nat×Nat
 |[],k=>(0,k)
 |n::ns,k=>if k<n then(0,k)else((lF ns (k-n)).1+1,(lF ns (k-n)).2)
theorem i6(n:Nat)(ns:List Nat)(k:Nat):lF (n::ns) k=if k<n then(0,k)else((lF ns (k-n)).1+1,(lF ns (k-n)).2):=rfl
section
variable{P:aF}{w:aS}{K:PySem.W.Frag}{mg:Str->Option ae}{base:Heap}{f C CB:Addr}{fd:aR}
theorem AJ:bn ["self", "number", "at"] ["self", "number", "at"] (aL Ad):=⟨rfl,rfl,rfl,by decide+kernel,rfl,by decide+kernel,by decide+kernel⟩
noncomputable def nh(C:Addr):gP:=λps G Q=>∃(a dx m pa tb:Addr) (ts:List Addr) (T:List Nat) (p q:Pt) (n e:Nat),ps=[.ref a,.int (n:Int),.int (e:Int)]/\Tb C G a T p (λ_ _=>True) dx m pa tb ts/\(makes p)[n]? =some q/\e<=T.length/\
 ∀d ws,G d=some (.rd (eL ws))->Wy ws (T.length+1) (nT T q e)->Q (.ref d) G
theorem Eu(c:Cls K C)(n4:NoAttr K C "table")(F:Fun K "ends_of" "Counts.ends_of" Ad f fd)(B:BN mg):ic P w K mg base 1 f fd ["self", "number", "at"] (nh C):=by
 have nd:=AJ.nd
 refine kG F AJ (λvs G Q h=> ?_) (λcdv A outer s H E as G Q hr h=> ?_)
 ·obtain⟨_,_,_,_,_,_,_,_,_,_,_,rfl,_⟩:=h
  rfl
 have hU:=en hr
 apply iW
 case a=>symm
 obtain⟨a,dx,m,pa,tb,ts,T,p,qq,n,e,rfl,tbl,hq,he,q⟩:=h
 obtain⟨t,d,kvs,ms,r1,r2,r3,r4,r5⟩:=tbl.read hq (k:=e) trivial he
 exists cu tbl.ins rfl ?_
 exists cU (a9 tbl.tbl) (bX r1) ?_
 exists kX (i5 r2) rfl r3 ?_
 exact⟨_,GE.refl,q d ms r4 r5⟩
theorem xT:bn ["self", "number"] ["self", "number"] (aL vF):=⟨rfl,rfl,rfl,by decide+kernel,rfl,by decide+kernel,by decide+kernel⟩
noncomputable def xG(CB:Addr):gP:=λps G Q=>∃(a dx:Addr) (k:Int),ps=[.ref a,.int k]/\G a=some (.ins CB dx [])/\Q .non (up G a (.ins CB dx [("left",.int k)]))
theorem Bx(c:Cls K CB)(n1:NoAttr K CB "left")(F:Fun K "__init__" "ByNumber.__init__" vF f fd)(B:BN mg):ic P w K mg base 1 f fd ["self", "number"] (xG CB):=by
 have nd:=xT.nd
 refine kG F xT (λvs G Q h=> ?_) (λcdv A outer s H E as G Q hr h=> ?_)
 ·obtain⟨_,_,_,rfl,_⟩:=h
  rfl
 have hU:=en hr
 apply iW
 case a=>symm
 obtain⟨a,dx,k,rfl,ga,q⟩:=h
 exists jS ga (aV rfl) ?_
 exact⟨_,GE.refl,q⟩
theorem uk:bn ["self", "sizes", "mark"] ["self", "sizes"] (aL rQ):=⟨rfl,rfl,rfl,by decide+kernel,rfl,by decide+kernel,by decide+kernel⟩
noncomputable def jR(CB:Addr):gP:=λps G Q=>∃(a dx sz:Addr) (k:Nat) (ns:List Nat),ps=[.ref a,.ref sz]/\G a=some (.ins CB dx [("left",.int (k:Int))])/\G sz=some (.lst (ns.map dM))/\k<ns.sum/\
 Q (.int ((lF ns k).1:Nat)) (up G a (.ins CB dx [("left",.int ((lF ns k).2:Nat))]))
theorem GH{C a dx:Addr}{f:Str}{G:Gp}{Q:Gp->Prop}{fs:List (Str×PV)}{i j:Int}{τ:jc}{tv:E2}(h:G a=some (.ins C dx fs))(e:fs.lookup f=some (.int i))(hl:fs.length<1000)(hv:∀R:K2,R (.int j) G->tv τ G R)(hq:Q (up G a (.ins C dx (jU f (.int (i-j)) fs)))):xy C f (.ref a) tv τ G Q:=by
 unfold xy;simp only[h,e]
 exact⟨trivial,hv _ (by simp only[h];exact⟨trivial,hl,hq⟩)⟩
theorem ze(c:Cls K CB)(n1:NoAttr K CB "left")(F:Fun K "choose" "ByNumber.choose" rQ f fd)(B:BN mg):ic P w K mg base 1 f fd ["self", "sizes"] (jR CB):=by
 have nd:=uk.nd
 refine kG F uk (λvs G Q h=> ?_) (λcdv A outer s H E as G Q hr h=> ?_)
 ·obtain⟨_,_,_,_,_,rfl,_⟩:=h
  rfl
 have hU:=en hr
 apply iW
 case a=>symm
 obtain⟨a,dx,sz,k,ns,rfl,ga,gs,hk,q⟩:=h
 have nsa:sz≠a:=λz=>by rw[z,ga]at gs;cases gs
 exists⟨λm τ G'=>∃(j r:Nat),τ=[some (.ref a),some (.ref sz),some (.int (j:Int))]/\G'=up G a (.ins CB dx [("left",.int (r:Int))])/\j+m=ns.length/\r<(ns.drop j).sum/\(j+(lF (ns.drop j) r).1,(lF (ns.drop j) r).2)=lF ns k,⟨ns.length,0,k,rfl,(w8 ga).symm,by ac_nf,hk,by simp⟩,?_⟩
 rintro m τ G' ⟨j,r,rfl,rfl,hm,hr2,he⟩
 have gs':up G a (.ins CB dx [("left",.int (r:Int))]) sz=some (.lst (ns.map dM)):=by rw[aK nsa];exact gs
 cases ed:ns.drop j with
 |nil=>rw[ed]at hr2;exact absurd hr2 (iD _)
 |cons x xs=>
  have hj:ns[j]? =some x:=by
   have:(ns.drop j)[0]? =some x:=by rw[ed];rfl
   rwa [List.getElem?_drop]at this
  have hat:(ns.map dM)[j]? =some (.int (x:Int)):=by rw[aI,hj];rfl
  have hd1:ns.drop (j+1)=xs:=by rw[<-List.tail_drop,ed];rfl
  rw[ed]at hr2 he
  rw[dN]at hr2
  exists cu ao rfl ?_
  exists cU (a9 gs') (bX hat) ?_
  left
  by_cases hx:x<=r
  ·refine jD (decide_eq_true (by ac_nf)) ?_
   exists GH (i:=(r:Int)) (j:=(x:Int)) ao rfl (aV rfl) (λR r'=> ?_) ?_
   ·refine cU (a9 gs') (bX hat) ?_
    exact r'
   rw[ia]
   exists⟨m-1,by have:=(aj.mp hj).1;ac_nf,j+1,r-x,rfl,?_,by have:=(aj.mp hj).1;ac_nf,by rw[hd1];ac_nf,?_⟩
   ·show up G a (.ins CB dx [("left",.int ((r:Int)-(x:Int)))])=_
    rw[show(r:Int)-(x:Int)=((r-x:Nat):Int)by ac_nf]
   ·rw[hd1,<-he]
    show _=(j+(lF (x::xs) r).1,(lF (x::xs) r).2)
    rw[i6,if_neg (by ac_nf),show j+1+(lF xs (r-x)).1=j+((lF xs (r-x)).1+1)by ac_nf]
  ·refine nZ (decide_eq_false (by ac_nf)) ?_
   left
   have e1:lF (x::xs) r=(0,r):=by rw[i6,if_pos (by ac_nf)]
   rw[e1]at he
   have e2:(lF ns k).1=j:=by rw[<-he];rfl
   have e3:(lF ns k).2=r:=by rw[<-he]
   rw[e2,e3]at q
   exact⟨_,GE.refl,q⟩
end
noncomputable def yF(cn gd:Addr)(e:Nat):List (Str×PV):=[("counts",.ref cn),("guide",.ref gd),("at",.int (e:Int))]
noncomputable def NN:Pt->Prop
 | .row ps=>1<=ps.length/\ps.length<=6
 | .pick ps=>1<=ps.length/\ps.length<=6
 |_=>True
structure Ds(CD CC CB:Addr)(G:Gp)(ds cn gd:Addr)(T:List Nat)(p:Pt)(k e:Nat)(dd db dx m pa tb:Addr)(ts:List Addr):Prop where
 ins:G ds=some (.ins CD dd (yF cn gd e))
 gui:G gd=some (.ins CB db [("left",.int (k:Int))])
 tab:Tb CC G cn T p (λ_ _=>True) dx m pa tb ts
 cs:Cs T p
 ar:∀q∈makes p,NN q
noncomputable def On(G:Gp)(ow:Addr)(S:Nat->Prop)(o:Nat->Nat):Prop:=∃kvs,jm G ow=some kvs/\∀j,S j->(gF kvs (.inl (j:Int))).getD (.int 0)= .int (o j:Int)
section
variable{CD CC CB:Addr}{G G':Gp}{ds cn gd dd db dx m pa tb:Addr}{T:List Nat}{p:Pt}{k e:Nat}{ts:List Addr}
theorem Ds.ge(h:Ds CD CC CB G ds cn gd T p k e dd db dx m pa tb ts)(g:GE G G'):Ds CD CC CB G' ds cn gd T p k e dd db dx m pa tb ts:=⟨g _ _ h.ins,g _ _ h.gui,h.tab.ge g,h.cs,h.ar⟩
theorem wL{a:Addr}{kvs:List (Key×PV)}(g:GE G G')(h:jm G a=some kvs):jm G' a=some kvs:=by
 cases eg:G a with
 |none=>simp[jm,eg]at h
 |some o=>
  cases o with
  |dK k'=>simp[jm,eg]at h;subst h;exact i5 (g _ _ eg)
  |rd k'=>simp[jm,eg]at h;subst h;exact mE (g _ _ eg)
  |_=>simp[jm,eg]at h
theorem On.ge{ow:Addr}{S:Nat->Prop}{o:Nat->Nat}(h:On G ow S o)(g:GE G G'):On G' ow S o:=by
 obtain⟨kvs,h1,h2⟩:=h
 exact⟨kvs,wL g h1,h2⟩
end
section
variable{P:aF}{w:aS}{K:PySem.W.Frag}{mg:Str->Option ae}{base:Heap}{f fa CD CC CB:Addr}{fd da:aR}
theorem xM:bn ["self", "number", "at", "onward", "ends"] ["self", "number", "at", "onward"] (aL rP):=⟨rfl,rfl,rfl,by decide+kernel,rfl,by decide+kernel,by decide+kernel⟩
theorem Fm:fq (aL rP) ["self", "number", "at", "onward", "ends"] (jo [(".0",.local),("end",.local),("ends",.free),("onward",.free)]) ["end", "ends", "onward"] [none,some 4,some 3] 0 "end" =true:=by decide+kernel
noncomputable def kf(CD CC CB:Addr):gP:=λps G Q=>∃(ds cn gd dd db dx m pa tb:Addr) (ts:List Addr) (T:List Nat) (p q:Pt) (k e0 n e:Nat) (ow:Addr) (o:Nat->Nat),ps=[.ref ds,.int (n:Int),.int (e:Int),.ref ow]/\Ds CD CC CB G ds cn gd T p k e0 dd db dx m pa tb ts/\(makes p)[n]? =some q/\e<=T.length/\On G ow (λj=>nT T q e j≠0) o/\
 Q (.int (bB o (bq T q e):Nat)) G
theorem tU:∀(ws:Ws) (g:Nat->Nat),(ws.map λv=>((v.2:Nat):Int)*((g v.1:Nat):Int)).sum=(((ws.map λv=>g v.1*v.2).sum:Nat):Int)
 |[],g=>rfl
 |v::ws,g=>by
  rw[aD,dN,tU ws g,aD,dN]
  rw[Int.natCast_add,Int.natCast_mul,Int.mul_comm]
theorem Bo(c:Cls K CD)(n1:NoAttr K CD "counts")(F:Fun K "size" "Descent.size" rP f fd)(B:BN mg)(ME:er P w K mg base CC 1 "ends_of" fa da ["self", "number", "at"] (nh CC)):ic P w K mg base 2 f fd ["self", "number", "at", "onward"] (kf CD CC CB):=by
 have nd:=xM.nd
 refine kG F xM (λvs G Q h=> ?_) (λcdv A outer s H E as G Q hr h=> ?_)
 ·obtain⟨_,_,_,_,_,_,_,_,_,_,_,_,_,_,_,_,_,_,_,rfl,_⟩:=h
  rfl
 have hU:=en hr
 apply iW
 case a=>
  symm
  all_goals try (refine' lx Fm rfl ?_ λ_ _ _ _=>⟨?_,?_⟩)
  all_goals symm
 obtain⟨ds,cn,gd,dd,db,dx,m,pa,tb,ts,T,p,qq,k,e0,n,e,ow,o,rfl,D,hq,he,⟨okv,ho1,ho2⟩,q⟩:=h
 exists cu D.ins rfl ?_
 exists⟨⟨cn,dx,_,rfl,D.tab.ins,rfl⟩,?_⟩
 exists⟨cn,dx,m,pa,tb,ts,T,p,qq,n,e,rfl,D.tab,hq,he,λd ws gd' wy=> ?_⟩
 exists wK rfl gd' ?_
 rw[i3]
 intro acc hacc
 have nda:d≠acc:=bt gd' hacc
 have hln:=wy.len
 have hLT:=D.cs.len
 refine i7 (λ_=>true) (λx=>match x with| .int i=> .int ((jy ws i.toNat:Int)*(o i.toNat:Int))|_=> .non) (by rw[aB];ac_nf) (λys=>by rw[aK nda];exact gd') (λx ys R _ hR=>hR) (λx ys R hx _ hR=> ?_) ?_
 ·obtain⟨v,hv,rfl⟩:=ay.mp hx
  obtain⟨i,hi⟩:=gY.mp hv
  obtain⟨k1,k2,k3⟩:=wy.key hi
  have hlk:=nw wy.nd hi
  have goe:jm (up G acc (.lst ys)) ow=some okv:=wL (GE.refl.new hacc) ho1
  exists kX (mE (by rw[aK nda];exact gd')) rfl (wy.read hi) ?_
  exists⟨pV goe,?_⟩
  exists sQ goe rfl ?_
  rw[ho2 v.1 (by show nT T qq e v.1≠0;rw[k1];ac_nf)]
  exists BG (.inl ⟨by ac_nf,by have:=wy.big D.cs (ax hq) he v hv;ac_nf⟩) ?_
  have e1:((v.1:Int)).toNat=v.1:=by ac_nf
  show R (.int ((v.2:Int)*(o v.1:Int))) _
  change R (.int ((jy ws ((v.1:Int)).toNat:Int)*(o ((v.1:Int)).toNat:Int))) _ at hR
  rw[e1,hlk]at hR
  exact hR
 have el:((ws.map λw=>PV.int (w.1:Int)).filter λ_=>true).map (λx=>match x with| .int i=>PV.int ((jy ws i.toNat:Int)*(o i.toNat:Int))|_=> .non)=(ws.map λv=>((v.2:Nat):Int)*((o v.1:Nat):Int)).map PV.int:=by
  rw[iE.mpr (λ_ _=>rfl),cF,cF]
  refine gh λv hv=> ?_
  obtain⟨i,hi⟩:=gY.mp hv
  have e1:((v.1:Int)).toNat=v.1:=by ac_nf
  show PV.int ((jy ws ((v.1:Int)).toNat:Int)*(o ((v.1:Int)).toNat:Int))= .int ((v.2:Int)*(o v.1:Int))
  rw[e1,nw wy.nd hi]
 rw[el]
 exists At (ns:=ws.map λv=>((v.2:Nat):Int)*((o v.1:Nat):Int)) jY ?_
 rw[tU ws o,IZ (h:=o) wy.nd wy.lt]
 refine⟨G,GE.refl.new hacc,?_⟩
 have e2:ie (T.length+1) (λk=>jy ws k*o k)=bB o (bq T qq e):=by
  rw[Di he]
  exact fA λj _=>by rw[wy.val]
 rw[e2]
 exact q
end
section
variable{P:aF}{w:aS}{K:PySem.W.Frag}{mg:Str->Option ae}{base:Heap}{f fa CD CC CB:Addr}{fd da:aR}
theorem xS:bn ["self", "counts", "guide"] ["self", "counts", "guide"] (aL vE):=⟨rfl,rfl,rfl,by decide+kernel,rfl,by decide+kernel,by decide+kernel⟩
noncomputable def xF(CD:Addr):gP:=λps G Q=>∃(a dx cn gd:Addr),ps=[.ref a,.ref cn,.ref gd]/\G a=some (.ins CD dx [])/\Q .non (up G a (.ins CD dx (yF cn gd 0)))
theorem Bv(c:Cls K CD)(n1:NoAttr K CD "counts")(n2:NoAttr K CD "guide")(n3:NoAttr K CD "at")(F:Fun K "__init__" "Descent.__init__" vE f fd)(B:BN mg):ic P w K mg base 1 f fd ["self", "counts", "guide"] (xF CD):=by
 have nd:=xS.nd
 refine kG F xS (λvs G Q h=> ?_) (λcdv A outer s H E as G Q hr h=> ?_)
 ·obtain⟨_,_,_,_,rfl,_⟩:=h
  rfl
 have hU:=en hr
 apply iW
 case a=>symm
 obtain⟨a,dx,cn,gd,rfl,ga,q⟩:=h
 exists jS ga (aV rfl) ?_
 exists jS ao (aV rfl) ?_
 exists jS ao (aV rfl) ?_
 rw[ia,ia]
 exact⟨_,GE.refl,q⟩
theorem xU:bn ["self", "number", "places", "onward", "ahead", "place"] ["self", "number", "places", "onward"] (aL vG):=⟨rfl,rfl,rfl,by decide+kernel,rfl,by decide+kernel,by decide+kernel⟩
noncomputable def ma(CD CC CB:Addr):gP:=λps G Q=>∃(ds cn gd dd db dx m pa tb:Addr) (ts:List Addr) (T:List Nat) (p q:Pt) (k e0 n:Nat) (pl ow:Addr) (js:List Nat) (o:Nat->Nat),ps=[.ref ds,.int (n:Int),.ref pl,.ref ow]/\Ds CD CC CB G ds cn gd T p k e0 dd db dx m pa tb ts/\(makes p)[n]? =some q/\G pl=some (.lst (js.map dM))/\js.length<=10000/\(∀j∈js,j<=T.length)/\On G ow (λi=>∃j∈js,nT T q j i≠0) o/\
 ∀c G',G c=none->GE G G'->On G' c (λj=>j∈js) (λj=>bB o (bq T q j))->Q (.ref c) G'
theorem By(c:Cls K CD)(n1:NoAttr K CD "counts")(F:Fun K "onward_ahead" "Descent.onward_ahead" vG f fd)(B:BN mg)(MS:er P w K mg base CD 2 "size" fa da ["self", "number", "at", "onward"] (kf CD CC CB)):ic P w K mg base 3 f fd ["self", "number", "places", "onward"] (ma CD CC CB):=by
 have nd:=xU.nd
 refine kG F xU (λvs G Q h=> ?_) (λcdv A outer s H E as G Q hr h=> ?_)
 ·obtain⟨_,_,_,_,_,_,_,_,_,_,_,_,_,_,_,_,_,_,_,_,rfl,_⟩:=h
  rfl
 have hU:=en hr
 apply iW
 case a=>symm
 obtain⟨ds,cn,gd,dd,db,dx,m,pa,tb,ts,T,p,qq,k,e0,n,pl,ow,js,o,rfl,D,hq,gp,hjl,hjs,hon,q⟩:=h
 left
 intro ah hah
 left
 rw[a9 (show up G ah (.dK []) pl=some (.lst (js.map dM))by rw[aK (bt gp hah)];exact gp)]
 exists⟨λi τ G'=>∃(kvs:List (Key×PV)) (t5:Option PV),τ=[some (.ref ds),some (.int (n:Int)),some (.ref pl),some (.ref ow),some (.ref ah),t5]/\G'=up G ah (.dK kvs)/\kvs.length<=i/\∀j∈js.take i,gF kvs (.inl (j:Int))=some (.int (bB o (bq T qq j):Nat)),⟨[],none,rfl,rfl,aq _,by simp⟩,?_,?_,?_⟩
 ·rintro i τ G' hi ⟨kvs,t5,rfl,rfl,_⟩
  exact a9 (by rw[aK (bt gp hah)];exact gp)
 ·rintro i x τ G' hx ⟨kvs,t5,rfl,rfl,hl,hv⟩
  rw[aI]at hx
  cases ej:js[i]? with
  |none=>rw[ej]at hx;cases hx
  |some j=>
   rw[ej]at hx
   cases hx
   have mj:=ax ej
   have hil:=(aj.mp ej).1
   have ge1:GE G (up G ah (.dK kvs)):=GE.refl.new hah
   have D1:=D.ge ge1
   obtain⟨okv,ho1,ho2⟩:=hon.ge ge1
   exists⟨⟨ds,dd,_,rfl,D1.ins,rfl⟩,?_⟩
   exists⟨ds,cn,gd,dd,db,dx,m,pa,tb,ts,T,p,qq,k,e0,n,j,ow,o,rfl,D1,hq,hjs j mj,⟨okv,ho1,λi hi=>ho2 i ⟨j,mj,hi⟩⟩,?_⟩
   exists vV ao rfl (by ac_nf) ?_
   refine⟨_,_,rfl,by rw[ia],?_,λj' hj'=> ?_⟩
   ·have:=ut (k:= .inl (j:Int)) (v:= .int (bB o (bq T qq j):Nat)) kvs
    ac_nf
   ·show gF (iY kvs (.inl (j:Int)) (.int (bB o (bq T qq j):Nat))) (.inl (j':Int))=_
    rw[o9]
    by_cases e:j=j'
    ·subst e;rw[if_pos rfl]
    ·rw[if_neg (pR e)]
     rw[cO,ej]at hj'
     rcases bj.mp hj' with h|h
     ·exact hv j' h
     ·exact absurd (by simpa using h) (aG e)
 ·rintro τ G' ⟨kvs,t5,rfl,rfl,hl,hv⟩
  rw[aB,ce]at hv
  exists⟨_,GE.refl,q ah _ hah (GE.refl.new hah) ⟨kvs,i5 ao,λj hj=> ?_⟩⟩
  rw[hv j hj];rfl
end
theorem yf{T:List Nat}{o:Nat->Nat}{e:Nat}:∀(ps:List Pt) (i k:Nat),k<(ps.map λc=>bB o (bq T c e)).sum->
  ∃c,ps[(lF (ps.map λc=>bB o (bq T c e)) k).1]? =some c/\(lF (ps.map λc=>bB o (bq T c e)) k).2<bB o (bq T c e)/\
   pk o (gi T ps i e) k=(pk o (bq T c e) (lF (ps.map λc=>bB o (bq T c e)) k).2).map λy=>(Tr.pick ((i+(lF (ps.map λc=>bB o (bq T c e)) k).1:Nat):Int) y.1,y.2)
 |[],i,k,h=>absurd h (iD _)
 |p::ps,i,k,h=>by
  rw[aD,dN]at h
  rw[aD,i6]
  have hw:bB o ((bq T p e).map λt=>(Tr.pick (i:Int) t.1,t.2))=bB o (bq T p e):=io (Tr.pick (i:Int)) (bq T p e)
  by_cases hk:k<bB o (bq T p e)
  ·rw[if_pos hk]
   refine⟨p,rfl,hk,?_⟩
   unfold gi
   rw[oQ _ _ _ (by rw[hw];exact hk),nk (Tr.pick (i:Int)) (bq T p e) k]
   rfl
  ·rw[if_neg hk]
   obtain⟨c,h1,h2,h3⟩:=yf (T:=T) (o:=o) (e:=e) ps (i+1) (k-bB o (bq T p e)) (by ac_nf)
   refine⟨c,by simpa using h1,h2,?_⟩
   unfold gi
   rw[mh _ _ _ (by rw[hw];ac_nf),hw,h3]
   congr 1
   funext y
   rw[show i+1+(lF (ps.map λc=>bB o (bq T c e)) (k-bB o (bq T p e))).1=i+((lF (ps.map λc=>bB o (bq T c e)) (k-bB o (bq T p e))).1+1)by ac_nf]
theorem qM{T:List Nat}{o:Nat->Nat}{e:Nat}:∀(ps:List Pt) (i:Nat),bB o (gi T ps i e)=(ps.map λc=>bB o (bq T c e)).sum
 |[],i=>by unfold gi;rfl
 |p::ps,i=>by
  unfold gi
  rw[jL,io (Tr.pick (i:Int)) (bq T p e),qM ps (i+1),aD,dN]
theorem Ds.left{CD CC CB:Addr}{G:Gp}{ds cn gd dd db dx m pa tb:Addr}{T:List Nat}{p:Pt}{k e r:Nat}{ts:List Addr}(h:Ds CD CC CB G ds cn gd T p k e dd db dx m pa tb ts):Ds CD CC CB (up G gd (.ins CB db [("left",.int (r:Int))])) ds cn gd T p r e dd db dx m pa tb ts:=by
 have ng:∀{b:Addr} {o:MO},G b=some o->o≠ .ins CB db [("left",.int (k:Int))]->up G gd (.ins CB db [("left",.int (r:Int))]) b=some o:=fun{b o} hb ho=>by
  rw[aK (λz=>by rw[z,h.gui]at hb;cases hb;exact ho rfl)];exact hb
 refine⟨ng h.ins (by intro z;cases z),ao,⟨ng h.tab.ins (by intro z;cases z),ng h.tab.mks (by intro z;cases z),ng h.tab.pts (by intro z;cases z),ng h.tab.tbl (by intro z;cases z),h.tab.tl,λi t hi=> ?_⟩,h.cs,h.ar⟩
 obtain⟨kvs,h1,h3⟩:=h.tab.row i t hi
 refine⟨kvs,ng h1 (by intro z;cases z),λq hq e he hl=> ?_⟩
 obtain⟨d,ws,h4,h5,h6⟩:=h3 q hq e he hl
 exact⟨d,ws,h4,ng h5 (by intro z;cases z),h6⟩
theorem pL{T:List Nat}{ps:List Pt}{c:Pt}{e j:Nat}(hc:c∈ps)(h:nT T c e j≠0):nT T (.pick ps) e j≠0:=by
 rw[yj]
 induction ps with
 |nil=>cases hc
 |cons x ps ih=>
  rw[aD,dN]
  rcases aA.mp hc with rfl|hc
  ·ac_nf
  ·have:=ih hc;ac_nf
section
variable{P:aF}{w:aS}{K:PySem.W.Frag}{mg:Str->Option ae}{base:Heap}{f fi fm fa CD CC CB:Addr}{fd di dm da:aR}
noncomputable def l8(CD CC CB:Addr)(n:Nat):gP:=λps G Q=>∃(ds cn gd dd db dx m pa tb:Addr) (ts:List Addr) (T:List Nat) (p q:Pt) (k e num:Nat) (ow:Addr) (o:Nat->Nat),ps=[.ref ds,.int (num:Int),.ref ow]/\Ds CD CC CB G ds cn gd T p k e dd db dx m pa tb ts/\(makes p)[num]? =some q/\depth q<=n/\e<=T.length/\On G ow (λj=>nT T q e j≠0) o/\k<bB o (bq T q e)/\
 ∀t e' r G',pk o (bq T q e) k=some (t,e',r)->Ds CD CC CB G' ds cn gd T p r e' dd db dx m pa tb ts->Ch [ds,gd] G G'->Q (fI t) G'
theorem uj:bn ["self", "parts", "onward", "mark"] ["self", "parts", "onward"] (aL lQ):=⟨rfl,rfl,rfl,by decide+kernel,rfl,by decide+kernel,by decide+kernel⟩
theorem Cv:fq (aL lQ) ["self", "parts", "onward", "mark"] (jo [(".0",.local),("part",.local),("self",.free),("onward",.free)]) ["part", "self", "onward"] [none,some 0,some 2] 0 "part" =true:=by decide+kernel
noncomputable def tZ(CD CC CB:Addr)(n:Nat):gP:=λas G Q=>∃(ds cn gd dd db dx m pa tb:Addr) (ts:List Addr) (T:List Nat) (p:Pt) (ps:List Pt) (k e num:Nat) (ow:Addr) (o:Nat->Nat),as=[.ref ds,.tup ((cz (num+1) ps).map dM),.ref ow]/\Ds CD CC CB G ds cn gd T p k e dd db dx m pa tb ts/\(makes p)[num]? =some (.pick ps)/\j9 ps<=n/\ps.length<=6/\e<=T.length/\On G ow (λj=>nT T (.pick ps) e j≠0) o/\k<bB o (bq T (.pick ps) e)/\
 ∀t e' r G',pk o (bq T (.pick ps) e) k=some (t,e',r)->Ds CD CC CB G' ds cn gd T p r e' dd db dx m pa tb ts->Ch [ds,gd] G G'->Q (fI t) G'
theorem zd{n k:Nat}(hk:2<=k)(c:Cls K CD)(n1:NoAttr K CD "counts")(n2:NoAttr K CD "guide")(n3:NoAttr K CD "at")(F:Fun K "make_pick" "Descent.make_pick" lQ f fd)(B:BN mg)(MS:er P w K mg base CD 2 "size" fa da ["self", "number", "at", "onward"] (kf CD CC CB))(MC:er P w K mg base CB 1 "choose" fi di ["self", "sizes"] (jR CB))(MT:er P w K mg base CD k "make_tree" fm dm ["self", "number", "onward"] (l8 CD CC CB n)):ic P w K mg base (k+1) f fd ["self", "parts", "onward"] (tZ CD CC CB n):=by
 have nd:=uj.nd
 refine kG F uj (λvs G Q h=> ?_) (λcdv A outer s H E as G Q hr h=> ?_)
 ·obtain⟨_,_,_,_,_,_,_,_,_,_,_,_,_,_,_,_,_,_,rfl,_⟩:=h
  rfl
 have hU:=en hr
 apply iW
 case a=>
  symm
  all_goals try (refine' lx Cv rfl ?_ λ_ _ _ _=>⟨?_,?_⟩)
  all_goals symm
 obtain⟨ds,cn,gd,dd,db,dx,m,pa,tb,ts,T,p,ps,k0,e,num,ow,o,rfl,D,hq,hdp,hpl,he,hon,hk0,q⟩:=h
 have trP:bq T (.pick ps) e=gi T ps 0 e:=by unfold bq;rfl
 have hk1:k0<(ps.map λc=>bB o (bq T c e)).sum:=by rw[<-qM (T:=T) (o:=o) (e:=e) ps 0,<-trP];exact hk0
 obtain⟨cm,hcm,hrm,hpk⟩:=yf (T:=T) (o:=o) (e:=e) ps 0 k0 hk1
 exists cu D.ins rfl ?_
 exists⟨⟨gd,db,_,rfl,D.gui,rfl⟩,?_⟩
 left
 intro acc hacc
 have hlP:((cz (num+1) ps).map dM).length=ps.length:=by rw[aB,dX]
 refine⟨λi ys G1=>ys=(ps.take i).map (λc=>dM (bB o (bq T c e)))/\G1=up G acc (.lst ys),⟨by simp,rfl⟩,?_,?_,?_⟩
 ·rintro i ys G1 hi ⟨rfl,rfl⟩
  refine⟨trivial,ao,?_⟩
  rw[aB,bz];ac_nf
 ·rintro i ys G1 x hx ⟨rfl,rfl⟩
  have hxl:=(aj.mp hx).1
  rw[hlP]at hxl
  obtain⟨cc,hcc⟩:∃cc,ps[i]? =some cc:=⟨_,ak hxl⟩
  obtain⟨j,rfl,hj,_⟩:=gq hq hcc hx
  have ge1:GE G (up G acc (.lst ((ps.take i).map λc=>dM (bB o (bq T c e))))):=GE.refl.new hacc
  have D1:=D.ge ge1
  obtain⟨okv,ho1,ho2⟩:=hon.ge ge1
  refine jD rfl ?_
  exists⟨⟨ds,dd,_,rfl,D1.ins,rfl⟩,?_⟩
  exists cu D1.ins rfl ?_
  exists⟨ds,cn,gd,dd,db,dx,m,pa,tb,ts,T,p,cc,k0,e,j,e,ow,o,rfl,D1,hj,he,⟨okv,ho1,λi hi=>ho2 i (pL (ax hcc) hi)⟩,ao,?_,ia⟩
  rw[cO,hcc,bD]
  rfl
 ·rintro ys G1 ⟨rfl,rfl⟩
  rw[hlP,ce]
  have ge1:GE G (up G acc (.lst (ps.map λc=>dM (bB o (bq T c e))))):=GE.refl.new hacc
  have D1:=D.ge ge1
  exists⟨gd,db,acc,k0,ps.map λc=>bB o (bq T c e),rfl,D1.gui,by rw[ao,cF];rfl,hk1,?_⟩
  have D2:=D1.left (r:=(lF (ps.map λc=>bB o (bq T c e)) k0).2)
  obtain⟨xm,hmx⟩:∃xm,((cz (num+1) ps).map dM)[(lF (ps.map λc=>bB o (bq T c e)) k0).1]? =some xm:=⟨_,ak (by rw[hlP];exact(aj.mp hcm).1)⟩
  obtain⟨j,ej,hj,_⟩:=gq hq hcm hmx
  rw[ej]at hmx
  have ngo:∀b o',G b=some o'->b≠gd->up (up G acc (.lst (ps.map λc=>dM (bB o (bq T c e))))) gd (.ins CB db [("left",.int ((lF (ps.map λc=>bB o (bq T c e)) k0).2:Nat))]) b=some o':=λb o' hb hn=>by
   rw[aK hn];exact ge1 b o' hb
  obtain⟨okv,ho1,ho2⟩:=hon
  have how:ow≠gd:=λz=>by rw[z]at ho1;simp[jm,D.gui]at ho1
  have ho3:jm (up (up G acc (.lst (ps.map λc=>dM (bB o (bq T c e))))) gd (.ins CB db [("left",.int ((lF (ps.map λc=>bB o (bq T c e)) k0).2:Nat))])) ow=some okv:=by
   have h1:=wL ge1 ho1
   unfold jm at h1⊢
   rw[aK how];exact h1
  exists⟨⟨ds,dd,_,rfl,D2.ins,rfl⟩,?_⟩
  exists ib (bX hmx) ?_
  exists⟨ds,cn,gd,dd,db,dx,m,pa,tb,ts,T,p,cm,_,e,j,ow,o,rfl,D2,hj,by have:=nO (ax hcm);ac_nf,he,⟨okv,ho3,λi hi=>ho2 i (pL (ax hcm) hi)⟩,hrm,λt e' r G' hp D3 ch=> ?_⟩
  refine⟨dH,_,GE.refl,?_⟩
  refine q (.pick ((lF (ps.map λc=>bB o (bq T c e)) k0).1:Nat) t) e' r G' ?_ D3 ?_
  ·rw[trP,hpk,hp]
   simp
  ·exact((Ch.refl.new hacc).put (by simp)).trans ch
end
noncomputable def tR:Tr->List Tr
 | .again ts=>ts
 |_=>[]
noncomputable def agS(T:List Nat)(p:Pt)(l:List (Tr×Nat)):List (Tr×Nat):=l.flatMap λt=>(bq T (.again p) t.2).map λu=>(Tr.again (t.1::tR u.1),u.2)
theorem Dp{T:List Nat}{p:Pt}{e:Nat}(hc:gU p=false)(he:e<=T.length):bq T (.again p) e=agS T p (bq T p e)++[(.again [],e)]:=by
 rw[qO hc he]
 rfl
noncomputable def nP(T:List Nat)(r:Pt)(o:Nat->Nat)(e:Nat):Nat:=bB o (bq T (.again r) e)
noncomputable def qE(t:Tr)(u:Tr):Tr:= .again (t::tR u)
theorem tD{T:List Nat}{r:Pt}{e:Nat}(hc:gU r=false)(he:e<=T.length):bq T (.again r) e=((bq T r e).flatMap λt=>(bq T (.again r) t.2).map λu=>(qE t.1 u.1,u.2))++[(.again [],e)]:=Dp hc he
theorem CQ{T:List Nat}{r:Pt}{o:Nat->Nat}{e:Nat}(hc:gU r=false)(he:e<=T.length):nP T r o e=bB (nP T r o) (bq T r e)+o e:=by
 unfold nP
 rw[tD hc he,jL,ij (λj=>bq T (.again r) j) qE (bq T r e),eZ,gj]
 rfl
theorem DX{T:List Nat}{r:Pt}{o:Nat->Nat}{e k:Nat}(hc:gU r=false)(he:e<=T.length)(hk:k<bB (nP T r o) (bq T r e)):
  pk o (bq T (.again r) e) k=(pk (nP T r o) (bq T r e) k).bind λy=>(pk o (bq T (.again r) y.2.1) y.2.2).map λz=>(qE y.1 z.1,z.2):=by
 rw[tD hc he,oQ _ _ _ (by rw[ij (λj=>bq T (.again r) j) qE (bq T r e)];exact hk)]
 exact sA (λj=>bq T (.again r) j) qE (bq T r e) k
theorem DY{T:List Nat}{r:Pt}{o:Nat->Nat}{e k:Nat}(hc:gU r=false)(he:e<=T.length)(hk:¬k<bB (nP T r o) (bq T r e))(hk2:k<nP T r o e):
  pk o (bq T (.again r) e) k=some (.again [],e,k-bB (nP T r o) (bq T r e)):=by
 rw[CQ hc he]at hk2
 rw[tD hc he,mh _ _ _ (by rw[ij (λj=>bq T (.again r) j) qE (bq T r e)];exact Nat.le_of_not_lt hk),ij (λj=>bq T (.again r) j) qE (bq T r e)]
 show pk o [(Tr.again [],e)] (k-bB (nP T r o) (bq T r e))=_
 rw[L3.pk_cons,if_pos (by show k-bB (nP T r o) (bq T r e)<o e;ac_nf)]
noncomputable def vZ(ts:List Tr)(u:Tr):Tr:= .again (ts++tR u)
theorem AV(ts:List Tr)(t u:Tr):vZ ts (qE t u)=vZ (ts++[t]) u:=by
 unfold vZ qE
 show Tr.again (ts++(t::tR u))=_
 rw[eD];rfl
theorem wP{T:List Nat}{r:Pt}(hc:gU r=false):∀(n e0 e e1:Nat),T.length-e0<=n->e0<=T.length->nT T (.again r) e0 e≠0->e<=T.length->nT T r e e1≠0->nT T (.again r) e0 e1≠0:=by
 intro n
 induction n with
 |zero=>
  intro e0 e e1 hn h0 h he h1
  have h2:=BC h
  obtain rfl:e0=e:=by ac_nf
  have h3:e0<e1:=by
   rcases cV e0 e1 with z|z
   ·exact z
   ·exact absurd (jW hc z) h1
  exact absurd (jX h0 (by ac_nf)) h1
 |succ n ih=>
  intro e0 e e1 hn h0 h he h1
  have hlt:e<e1:=by
   rcases cV e e1 with z|z
   ·exact z
   ·exact absurd (jW hc z) h1
  have he1:e1<=T.length:=by
   rcases cV T.length e1 with z|z
   ·exact absurd (jX he z) h1
   ·exact z
  have one:nT T (.again r) e1 e1≠0:=by rw[iq hc he1,if_pos rfl];ac_nf
  have go:∀k,k<=T.length->nT T r e0 k≠0->nT T (.again r) k e1≠0->nT T (.again r) e0 e1≠0:=λk hk a b=>by
   rw[iq hc h0]
   have t:=qR (n:=T.length+1) (f:=λk=>nT T r e0 k*nT T (.again r) k e1) (i:=k) (by ac_nf)
   have:0<nT T r e0 k*nT T (.again r) k e1:=Nat.mul_pos (fz a) (fz b)
   change nT T r e0 k*nT T (.again r) k e1<=_ at t
   ac_nf
  by_cases e2:e0=e
  ·subst e2
   exact go e1 he1 h1 one
  ·rw[iq hc h0,if_neg e2,Nat.zero_add]at h
   obtain⟨k,hk,hz⟩:=pp h
   have a:nT T r e0 k≠0:=λz=>hz (by rw[z,Nat.zero_mul])
   have b:nT T (.again r) k e≠0:=λz=>hz (by rw[z,Nat.mul_zero])
   have hk0:e0<k:=by
    rcases cV e0 k with z|z
    ·exact z
    ·exact absurd (jW hc z) a
   exact go k (by ac_nf) a (ih k e e1 (by ac_nf) (by ac_nf) b he h1)
section
variable{CD CC CB:Addr}
theorem xJ:bn ["self", "number", "onward", "part", "behind", "turns"] ["self", "number", "onward"] (aL lP):=⟨rfl,rfl,rfl,by decide+kernel,rfl,by decide+kernel,by decide+kernel⟩
noncomputable def xC(CD CC CB:Addr)(n:Nat):gP:=λas G Q=>∃(ds cn gd dd db dx m pa tb:Addr) (ts:List Addr) (T:List Nat) (p r:Pt) (k e num:Nat) (ow:Addr) (o:Nat->Nat),as=[.ref ds,.int (num:Int),.ref ow]/\Ds CD CC CB G ds cn gd T p k e dd db dx m pa tb ts/\(makes p)[num]? =some (.again r)/\depth r<=n/\e<=T.length/\On G ow (λj=>nT T (.again r) e j≠0) o/\k<bB o (bq T (.again r) e)/\
 ∀us e' r' G',pk o (bq T (.again r) e) k=some (.again us,e',r')->Ds CD CC CB G' ds cn gd T p r' e' dd db dx m pa tb ts->Ch [ds,gd] G G'->Q (.tup (c8 us)) G'
end
section
variable{CD CC CB:Addr}{G G':Gp}{ds cn gd dd db dx m pa tb:Addr}{T:List Nat}{p:Pt}{k e k' e':Nat}{ts:List Addr}
theorem Ds.ch(h:Ds CD CC CB G ds cn gd T p k e dd db dx m pa tb ts)(c:Ch [ds,gd] G G')(h1:G' ds=some (.ins CD dd (yF cn gd e')))(h2:G' gd=some (.ins CB db [("left",.int (k':Int))])):Ds CD CC CB G' ds cn gd T p k' e' dd db dx m pa tb ts:=by
 have ng:∀{b:Addr} {o:MO},G b=some o->o≠ .ins CD dd (yF cn gd e)->o≠ .ins CB db [("left",.int (k:Int))]->G' b=some o:=fun{b o} hb ho ho2=>by
  refine c b o (λz=> ?_) hb
  rcases aA.mp z with z|z
  ·rw[z,h.ins]at hb;cases hb;exact ho rfl
  ·rw[aC.mp z,h.gui]at hb;cases hb;exact ho2 rfl
 refine⟨h1,h2,⟨ng h.tab.ins (by intro z;cases z) (by intro z;cases z),ng h.tab.mks (by intro z;cases z) (by intro z;cases z),ng h.tab.pts (by intro z;cases z) (by intro z;cases z),ng h.tab.tbl (by intro z;cases z) (by intro z;cases z),h.tab.tl,λi t hi=> ?_⟩,h.cs,h.ar⟩
 obtain⟨kvs,h1,h3⟩:=h.tab.row i t hi
 refine⟨kvs,ng h1 (by intro z;cases z) (by intro z;cases z),λq hq e he hl=> ?_⟩
 obtain⟨d,ws,h4,h5,h6⟩:=h3 q hq e he hl
 exact⟨d,ws,h4,ng h5 (by intro z;cases z) (by intro z;cases z),h6⟩
theorem Jg{a:Addr}{kvs:List (Key×PV)}(h:jm G a=some kvs)(D:Ds CD CC CB G ds cn gd T p k e dd db dx m pa tb ts)(c:Ch [ds,gd] G G'):jm G' a=some kvs:=by
 have n1:a≠ds:=λz=>by rw[z]at h;simp[jm,D.ins]at h
 have n2:a≠gd:=λz=>by rw[z]at h;simp[jm,D.gui]at h
 cases eg:G a with
 |none=>simp[jm,eg]at h
 |some o=>
  have:=c a o (by simp[n1,n2]) eg
  unfold jm at h⊢
  rw[eg]at h;rw[this];exact h
theorem On.ch{ow:Addr}{S:Nat->Prop}{o:Nat->Nat}(h:On G ow S o)(D:Ds CD CC CB G ds cn gd T p k e dd db dx m pa tb ts)(c:Ch [ds,gd] G G'):On G' ow S o:=by
 obtain⟨kvs,h1,h2⟩:=h
 exact⟨kvs,Jg h1 D c,h2⟩
theorem On.mono{ow:Addr}{S S':Nat->Prop}{o:Nat->Nat}(h:On G ow S o)(s:∀j,S' j->S j):On G ow S' o:=by
 obtain⟨kvs,h1,h2⟩:=h
 exact⟨kvs,h1,λj hj=>h2 j (s j hj)⟩
theorem rS{ws:Ws}{n:Nat}{f:Nat->Nat}{j:Nat}(h:Wy ws n f):j∈ws.map (·.1)↔f j≠0:=by
 constructor
 ·intro hj
  obtain⟨w,hw,rfl⟩:=ay.mp hj
  obtain⟨i,hi⟩:=gY.mp hw
  obtain⟨k1,k2,k3⟩:=h.key hi
  ac_nf
 ·intro hj
  by_cases e:j∈ws.map (·.1)
  ·exact e
  ·exact absurd (by rw[<-h.val];exact mn e) hj
end
theorem wj{T:List Nat}{p:Pt}{e j:Nat}{t:Tr}(h:(t,j)∈bq T p e):nT T p e j≠0:=by
 have:0<jz (bq T p e) j:=List.countP_pos_iff.mpr ⟨(t,j),h,by simp⟩
 unfold nT
 ac_nf
theorem C0{T:List Nat}{r:Pt}(hc:gU r=false):∀(n e0 e e1:Nat),T.length-e0<=n->e0<=T.length->nT T (.again r) e0 e≠0->e<=T.length->nT T (.again r) e e1≠0->nT T (.again r) e0 e1≠0:=by
 intro n
 induction n with
 |zero=>
  intro e0 e e1 hn h0 h he h1
  have h2:=BC h
  obtain rfl:e0=e:=by ac_nf
  exact h1
 |succ n ih=>
  intro e0 e e1 hn h0 h he h1
  by_cases e2:e0=e
  ·subst e2;exact h1
  ·rw[iq hc h0,if_neg e2,Nat.zero_add]at h
   obtain⟨k,hk,hz⟩:=pp h
   have a:nT T r e0 k≠0:=λz=>hz (by rw[z,Nat.zero_mul])
   have b:nT T (.again r) k e≠0:=λz=>hz (by rw[z,Nat.mul_zero])
   have hk0:e0<k:=by
    rcases cV e0 k with z|z
    ·exact z
    ·exact absurd (jW hc z) a
   have c:=ih k e e1 (by ac_nf) (by ac_nf) b he h1
   rw[iq hc h0]
   have t:=qR (n:=T.length+1) (f:=λk=>nT T r e0 k*nT T (.again r) k e1) (i:=k) (by ac_nf)
   have:0<nT T r e0 k*nT T (.again r) k e1:=Nat.mul_pos (fz a) (fz c)
   change nT T r e0 k*nT T (.again r) k e1<=_ at t
   ac_nf
section
variable{P:aF}{w:aS}{K:PySem.W.Frag}{mg:Str->Option ae}{base:Heap}{f fi fm fa fp fe CD CC CB:Addr}{fd di dm da dp de:aR}{tTU:Tok}
theorem Bj{n k:Nat}(hk:3<=k)(x0:mg "TURN" =some (.int 0 tTU))(q3:qu K CC "parts")(n1:qu K CD "counts")(n2:qu K CD "guide")(n3:qu K CD "at")(F:Fun K "make_turns" "Descent.make_turns" lP f fd)(B:BN mg)(ME:er P w K mg base CC 1 "ends_of" fe de ["self", "number", "at"] (nh CC))(MS:er P w K mg base CD 2 "size" fa da ["self", "number", "at", "onward"] (kf CD CC CB))(MA:er P w K mg base CD 3 "onward_ahead" fp dp ["self", "number", "places", "onward"] (ma CD CC CB))(MC:er P w K mg base CB 1 "choose" fi di ["self", "sizes"] (jR CB))(MT:er P w K mg base CD k "make_tree" fm dm ["self", "number", "onward"] (l8 CD CC CB n)):ic P w K mg base (k+1) f fd ["self", "number", "onward"] (xC CD CC CB n):=by
 have nd:=xJ.nd
 refine kG F xJ (λvs G Q h=> ?_) (λcdv A outer s H E as G Q hr h=> ?_)
 ·obtain⟨_,_,_,_,_,_,_,_,_,_,_,_,_,_,_,_,_,_,rfl,_⟩:=h
  rfl
 have hU:=en hr
 apply iW
 case a=>symm
 obtain⟨ds,cn,gd,dd,db,dx,m,pa,tb,ts,T,p,r,k0,e,num,ow,o,rfl,D,hq,hdp,he,hon,hk0,q⟩:=h
 have hc:gU r=false:=D.cs.ag r (ax hq)
 obtain⟨j,ej,hj,hnj⟩:=gq (i:=0) (cc:=r) hq rfl rfl
 have hj1:j=num+1:=im.mp (PV.int.inj ej).symm
 have hLT:=D.cs.len
 exists cu D.ins rfl ?_
 exists cu D.tab.ins rfl ?_
 exists cU (a9 D.tab.pts) (bX (fH hq)) ?_
 exists ib (x:= .int (j:Int)) (by rw[hj1];rfl) ?_
 exists⟨⟨ds,dd,_,rfl,D.ins,rfl⟩,?_⟩
 exists cu D.ins rfl ?_
 exists⟨⟨cn,dx,_,rfl,D.tab.ins,rfl⟩,?_⟩
 exists cu D.ins rfl ?_
 exists⟨cn,dx,m,pa,tb,ts,T,p,.again r,num,e,rfl,D.tab,hq,he,λd ws gd' wy=> ?_⟩
 exists yq (mE gd') λpl hpl=> ?_
 rw[i3]
 have ge1:GE G (up G pl (.lst (ws.map λw=>PV.int (w.1:Int)))):=GE.refl.new hpl
 have hwl:=wy.len
 exists⟨ds,cn,gd,dd,db,dx,m,pa,tb,ts,T,p,.again r,k0,e,num,pl,ow,ws.map (·.1),o,rfl,D.ge ge1,hq,by rw[ao,cF];rfl,by rw[aB];ac_nf,λi hi=> ?_,(hon.ge ge1).mono λi ⟨i',h1,h2⟩=> ?_,λbh G2 hbh lz hbo=> ?_⟩
 ·have h1:=(rS wy).mp hi
  rcases cV T.length i with z|z
  ·exact absurd (jX he z) h1
  ·exact z
 ·have h3:=(rS wy).mp h1
  refine C0 hc _ e i' i (aq _) he h3 ?_ h2
  rcases cV T.length i' with z|z
  ·exact absurd (jX he z) h3
  ·exact z
 have ge3:GE G G2:=ge1.trans lz
 have D2:=D.ge ge3
 have hbo2:On G2 bh (λj=>nT T (.again r) e j≠0) (nP T r o):=hbo.mono λj hj=>(rS wy).mpr hj
 have hon2:=hon.ge ge3
 exists⟨aV rfl,λtn htn=> ?_⟩
 left
 have at0:nT T (.again r) e e≠0:=by rw[iq hc he,if_pos rfl];ac_nf
 refine⟨λmm τ G1=>∃(us:List Tr) (k1 e1:Nat),τ=[some (.ref ds),some (.int (num:Int)),some (.ref ow),some (.int (j:Int)),some (.ref bh),some (.ref tn)]/\G1 ds=some (.ins CD dd (yF cn gd e1))/\G1 gd=some (.ins CB db [("left",.int (k1:Int))])/\G1 tn=some (.lst (c8 us))/\Ch [ds,gd] G2 G1/\nT T (.again r) e e1≠0/\k1<nP T r o e1/\us.length+e<=e1/\T.length-e1=mm/\pk o (bq T (.again r) e) k0=(pk o (bq T (.again r) e1) k1).map λz=>(vZ us z.1,z.2),⟨T.length-e,[],k0,e,rfl,by rw[aK (bt D2.ins htn)];exact D2.ins,by rw[aK (bt D2.gui htn)];exact D2.gui,ao,Ch.refl.new htn,at0,hk0,by simp,rfl,?_⟩,?_⟩
 ·obtain⟨a,e',r',h1,h2,_⟩:=oP (o:=o) (bq T (.again r) e) k0 hk0
  obtain⟨x,_,hx⟩:=ay.mp (show(a,e')∈(yL (bq T r) (T.length+1-e) e).map (λs=>(Tr.again s.1,s.2))from by unfold bq at h2;exact h2)
  obtain rfl:Tr.again x.1=a:=congrArg Prod.fst hx
  rw[h1];rfl
 rintro mm τ G1 ⟨us,k1,e1,rfl,g1,g2,g3,ch,hat,hk1,hul,hmm,hpk⟩
 have D3:=D2.ch ch g1 g2
 have hbo3:=hbo2.ch D2 ch
 obtain⟨okv,ho1,ho2⟩:=hon2.ch D2 ch
 have he1:e1<=T.length:=by
  rcases cV T.length e1 with z|z
  ·exact absurd (jX he z) hat
  ·exact z
 have hsum:nP T r o e1=bB (nP T r o) (bq T r e1)+o e1:=CQ hc he1
 exists cu g1 rfl ?_
 exists⟨⟨gd,db,_,rfl,g2,rfl⟩,?_⟩
 exists⟨⟨ds,dd,_,rfl,g1,rfl⟩,?_⟩
 exists cu g1 rfl ?_
 exists⟨ds,cn,gd,dd,db,dx,m,pa,tb,ts,T,p,r,k1,e1,j,e1,bh,nP T r o,rfl,D3,hj,he1,hbo3.mono λi hi=>wP hc _ e e1 i (aq _) he hat he1 hi,?_⟩
 exists⟨pV ho1,?_⟩
 exists cu g1 rfl ?_
 exists sQ ho1 rfl ?_
 rw[ho2 e1 hat]
 exists⟨aV rfl,λsz hsz=> ?_⟩
 left
 have ge4:GE G1 (up G1 sz (.lst [.int (bB (nP T r o) (bq T r e1):Nat),.int (o e1:Nat)])):=GE.refl.new hsz
 refine⟨gd,db,sz,k1,[bB (nP T r o) (bq T r e1),o e1],rfl,ge4 _ _ g2,ao,by rw[hsum]at hk1;simpa using hk1,?_⟩
 have ndg:ds≠gd:=λz=>by rw[z,g2]at g1;cases g1
 have gt1:∀(x:Nat),up (up G1 sz (.lst [.int (bB (nP T r o) (bq T r e1):Nat),.int (o e1:Nat)])) gd (.ins CB db [("left",.int (x:Int))]) ds=some (.ins CD dd (yF cn gd e1)):=λx=>by rw[aK ndg];exact ge4 _ _ g1
 have ntg:tn≠gd:=λz=>by rw[z,g2]at g3;cases g3
 have ntd:tn≠ds:=λz=>by rw[z,g1]at g3;cases g3
 have gt3:∀(x:Nat),up (up G1 sz (.lst [.int (bB (nP T r o) (bq T r e1):Nat),.int (o e1:Nat)])) gd (.ins CB db [("left",.int (x:Int))]) tn=some (.lst (c8 us)):=λx=>by rw[aK ntg];exact ge4 _ _ g3
 have ch4:∀(x:Nat),Ch [ds,gd] G2 (up (up G1 sz (.lst [.int (bB (nP T r o) (bq T r e1):Nat),.int (o e1:Nat)])) gd (.ins CB db [("left",.int (x:Int))])):=λx=>((ch.new hsz).put (by simp))
 by_cases hcs:k1<bB (nP T r o) (bq T r e1)
 ·rw[show lF [bB (nP T r o) (bq T r e1),o e1] k1=(0,k1)from by rw[i6,if_pos hcs]]
  have D4:=D2.ch (ch4 k1) (gt1 k1) ao
  have hbo4:=hbo2.ch D2 (ch4 k1)
  exists⟨rfl,rfl,?_⟩
  exists jD rfl ?_
  exists⟨⟨_,gt3 k1⟩,?_⟩
  exists⟨⟨ds,dd,_,rfl,gt1 k1,rfl⟩,?_⟩
  exists⟨ds,cn,gd,dd,db,dx,m,pa,tb,ts,T,p,r,k1,e1,j,bh,nP T r o,rfl,D4,hj,hdp,he1,hbo4.mono λi hi=>wP hc _ e e1 i (aq _) he hat he1 hi,hcs,λt e' r' G5 hp D5 ch5=> ?_⟩
  have ch6:=(ch4 k1).trans ch5
  have gt5:G5 tn=some (.lst (c8 us)):=ch5 tn _ (by simp[ntg,ntd]) (gt3 k1)
  obtain⟨t',e'',r'',hp2,hm2,hr2⟩:=oP (o:=nP T r o) (bq T r e1) k1 hcs
  rw[hp]at hp2
  cases hp2
  have hgt:e1<e':=lj T r e1 hc _ hm2
  have hle:e'<=T.length:=fX T r e1 he1 _ hm2
  exists i8 gt5 (by rw[dS,aB];ac_nf) ?_
  refine⟨T.length-e',by ac_nf,us++[t],r',e',rfl,by rw[aK (aG ntd)];exact D5.ins,by rw[aK (aG ntg)];exact D5.gui,by rw[ao,gR];rfl,ch6.mod' htn,wP hc _ e e1 e' (aq _) he hat he1 (wj hm2),hr2,by rw[aM];simp only[List.length_singleton];ac_nf,rfl,?_⟩
  rw[hpk,DX hc he1 hcs,hp]
  show Option.map _ (Option.map _ _)=_
  rw[Option.map_map]
  congr 1
  funext z
  show(vZ us (qE t z.1),z.2)=_
  rw[AV]
 ·rw[show lF [bB (nP T r o) (bq T r e1),o e1] k1=(1,k1-bB (nP T r o) (bq T r e1))from by rw[i6,if_neg hcs,i6,if_pos (by rw[hsum]at hk1;ac_nf)]]
  exists⟨rfl,rfl,?_⟩
  exists nZ rfl ?_
  exists rY (a9 (gt3 _)) ?_
  refine⟨_,GE.refl,q us e1 (k1-bB (nP T r o) (bq T r e1)) _ ?_ (D2.ch (ch4 _) (gt1 _) ao) (ge3.ch.trans (ch4 _))⟩
  rw[hpk,DY hc he1 hcs hk1]
  show some (vZ us (Tr.again []),_,_)=_
  unfold vZ
  simp[tR]
end
theorem ny{xs:List PV}{G:Gp}{Q:K2}(q:Q (.int xs.length) G):lv [.tup xs] G Q:=q
noncomputable def vp(T:List Nat):List Pt->Nat->Nat->Prop
 |[],e,j=>e=j
 |p::ps,e,j=>∃i,nT T p e i≠0/\vp T ps i j
theorem tE{T:List Nat}:∀(ps qs:List Pt) (e j:Nat),vp T (ps++qs) e j↔∃i,vp T ps e i/\vp T qs i j
 |[],qs,e,j=>⟨λh=>⟨e,rfl,h⟩,λ⟨i,h1,h2⟩=>by obtain rfl:e=i:=h1;exact h2⟩
 |p::ps,qs,e,j=>by
  constructor
  ·rintro⟨i,h1,h2⟩
   obtain⟨i2,h3,h4⟩:=(tE ps qs i j).mp h2
   exact⟨i2,⟨i,h1,h3⟩,h4⟩
  ·rintro⟨i,⟨i2,h1,h2⟩,h3⟩
   exact⟨i2,h1,(tE ps qs i2 j).mpr ⟨i,h2,h3⟩⟩
theorem mQ{T:List Nat}{ps:List Pt}{c:Pt}{k e j:Nat}(hc:ps[k]? =some c):vp T (ps.take (k+1)) e j↔∃i,vp T (ps.take k) e i/\nT T c i j≠0:=by
 rw[cO,hc]
 show vp T (ps.take k++[c]) e j↔_
 rw[tE]
 constructor
 ·rintro⟨i,h1,i2,h2,h3⟩
  obtain rfl:i2=j:=h3
  exact⟨i,h1,h2⟩
 ·rintro⟨i,h1,h2⟩
  exact⟨i,h1,j,h2,rfl⟩
theorem wk{T:List Nat}{p:Pt}{e j:Nat}:nT T p e j≠0↔∃t,(t,j)∈bq T p e:=by
 constructor
 ·intro h
  obtain⟨x,hx,hp⟩:=List.countP_pos_iff.mp (fz (show(bq T p e).countP (λs=>s.2==j)≠0 from h))
  obtain rfl:x.2=j:=by simpa using hp
  exact⟨x.1,hx⟩
 ·rintro⟨t,h⟩
  exact wj h
theorem qo{T:List Nat}:∀(ps:List Pt) (e j:Nat),(∃u,(u,j)∈fc T ps e)↔vp T ps e j
 |[],e,j=>by
  unfold fc vp
  constructor
  ·rintro⟨u,h⟩
   have:=aC.mp h
   exact(congrArg Prod.snd this).symm
  ·rintro rfl
   exact⟨[],aC.mpr rfl⟩
 |p::ps,e,j=>by
  unfold fc
  constructor
  ·rintro⟨u,h⟩
   obtain⟨t,ht,h2⟩:=bQ.mp h
   obtain⟨v,hv,h3⟩:=ay.mp h2
   obtain rfl:v.2=j:=congrArg Prod.snd h3
   exact⟨t.2,wk.mpr ⟨t.1,ht⟩,(qo ps t.2 v.2).mp ⟨v.1,hv⟩⟩
  ·rintro⟨i,h1,h2⟩
   obtain⟨t,ht⟩:=wk.mp h1
   obtain⟨u,hu⟩:=(qo ps i j).mpr h2
   exact⟨t::u,bQ.mpr ⟨(t,i),ht,ay.mpr ⟨(u,j),hu,rfl⟩⟩⟩
theorem wg{T:List Nat}{ps:List Pt}{e j:Nat}:nT T (.row ps) e j≠0↔vp T ps e j:=by
 rw[wk,<-qo,jN]
 constructor
 ·rintro⟨t,h⟩
  obtain⟨s,hs,h2⟩:=ay.mp h
  obtain rfl:s.2=j:=congrArg Prod.snd h2
  exact⟨s.1,hs⟩
 ·rintro⟨u,h⟩
  exact⟨.row u,ay.mpr ⟨(u,j),h,rfl⟩⟩
theorem nQ{T:List Nat}:∀(ps:List Pt) (e j:Nat),e<=T.length->vp T ps e j->j<=T.length
 |[],e,j,he,h=>by obtain rfl:e=j:=h;exact he
 |p::ps,e,j,he,⟨i,h1,h2⟩=>by
  refine nQ ps i j ?_ h2
  rcases cV T.length i with z|z
  ·exact absurd (jX he z) h1
  ·exact z
noncomputable def zj(ws ms:Ws):Ws:=ms.foldl (λacc w=>iz acc w.1 w.2) ws
theorem ye:∀(ws:Ws) (j c x:Nat),x∈(iz ws j c).map (·.1)↔x=j\/x∈ws.map (·.1)
 |[],j,c,x=>by simp[iz]
 |w::ws,j,c,x=>by
  have ih:=ye ws j c x
  unfold iz
  split
  ·rename_i h
   rw[aD,aD,aA,aA]
   constructor
   ·rintro(h1|h1)
    ·exact .inl h1
    ·exact .inr (.inr h1)
   ·rintro(h1|h1|h1)
    ·exact .inl h1
    ·exact .inl (by rw[h1];first|exact h|exact h.symm)
    ·exact .inr h1
  ·rw[aD,aD,aA,aA,ih]
   constructor
   ·rintro(h1|h1|h1)
    ·exact .inr (.inl h1)
    ·exact .inl h1
    ·exact .inr (.inr h1)
   ·rintro(h1|h1|h1)
    ·exact .inr (.inl h1)
    ·exact .inl h1
    ·exact .inr (.inr h1)
theorem ym:∀(ms ws:Ws) (x:Nat),x∈(zj ws ms).map (·.1)↔x∈ws.map (·.1)\/x∈ms.map (·.1)
 |[],ws,x=>by simp[zj]
 |m::ms,ws,x=>by
  show x∈(zj (iz ws m.1 m.2) ms).map (·.1)↔_
  rw[ym ms,ye,aD,aA]
  constructor
  ·rintro((h|h)|h)
   ·exact .inr (.inl h)
   ·exact .inl h
   ·exact .inr (.inr h)
  ·rintro(h|h|h)
   ·exact .inl (.inr h)
   ·exact .inl (.inl h)
   ·exact .inr h
theorem yl:∀(ms ws:Ws),(ws.map (·.1)).Nodup->((zj ws ms).map (·.1)).Nodup
 |[],ws,h=>h
 |m::ms,ws,h=>yl ms _ (kh h)
theorem uA:∀(ms ws:Ws),(ws.map (·.1)).Nodup->zk (eL ws) (eL ms)=eL (zj ws ms)
 |[],ws,h=>rfl
 |m::ms,ws,h=>by
  show zk (iY (eL ws) (.inl (m.1:Int)) (.int (m.2:Int))) (eL ms)=_
  rw[pE ws m.1 m.2 h]
  exact uA ms _ (kh h)
theorem mX{T:List Nat}{o:Nat->Nat}{p:Pt}{ps:List Pt}{e:Nat}:bB (λj=>bB o (fc T ps j)) (bq T p e)=bB o (fc T (p::ps) e):=by
 conv=>rhs;unfold fc
 exact(ij (λj=>fc T ps j) (fun(t:Tr) (u:List Tr)=>t::u) (bq T p e)).symm
theorem DZ{T:List Nat}{o:Nat->Nat}{p:Pt}{ps:List Pt}{e k:Nat}:pk o (fc T (p::ps) e) k=(pk (λj=>bB o (fc T ps j)) (bq T p e) k).bind λy=>(pk o (fc T ps y.2.1) y.2.2).map λz=>(y.1::z.1,z.2):=by
 conv=>lhs;unfold fc
 exact sA (λj=>fc T ps j) (fun(t:Tr) (u:List Tr)=>t::u) (bq T p e) k
section
variable{P:aF}{w:aS}{K:PySem.W.Frag}{mg:Str->Option ae}{base:Heap}{f fm fp fe CD CC CB:Addr}{fd dm dp de:aR}
theorem xN:bn ["self", "parts", "onward", "begins", "part", "found", "place", "onwards", "k"] ["self", "parts", "onward"] (aL o7):=⟨rfl,rfl,rfl,by decide+kernel,rfl,by decide+kernel,by decide+kernel⟩
noncomputable abbrev kMR:e8:=jo [(".0",.local),("part",.local),("behind",.local),("self",.free)]
theorem Fn:fq (aL o7) ["self", "parts", "onward", "begins", "part", "found", "place", "onwards", "k"] kMR ["part", "behind", "self"] [none,none,some 0] 0 "part" =true:=by decide+kernel
theorem Jh:o4 kMR ["part", "behind", "self"] [none,none,some 0] 1 "behind" :=⟨rfl,by decide+kernel,rfl⟩
theorem AL{n:Nat}:HT.sIx n n (some (-1))=n-1:=by
 show(if(-1:Int)<0 then((-1:Int)+(n:Int)).toNat else min (-1:Int).toNat n)=_
 rw[if_pos (by decide)]
 ac_nf
theorem On.up{G:Gp}{a b:Addr}{S:Nat->Prop}{o:Nat->Nat}{u:MO}(h:On G a S o)(n:a≠b):On (up G b u) a S o:=by
 obtain⟨kvs,h1,h2⟩:=h
 exact⟨kvs,by unfold jm at h1⊢;rw[aK n];exact h1,h2⟩
theorem On.mono'{G:Gp}{a:Addr}{S S':Nat->Prop}{o o':Nat->Nat}(h:On G a S o)(s:∀j,S' j->S j)(e:∀j,o j=o' j):On G a S' o':=by
 obtain⟨kvs,h1,h2⟩:=h
 exact⟨kvs,h1,λj hj=>by rw[<-e j];exact h2 j (s j hj)⟩
noncomputable def Onw(G:Gp)(T:List Nat)(ps:List Pt)(e:Nat)(o:Nat->Nat)(os:List Addr):Prop:=∀(i:Nat) (a:Addr),os[i]? =some a->On G a (λj=>vp T (ps.take (ps.length-i)) e j) (λj=>bB o (fc T (ps.drop (ps.length-i)) j))
noncomputable def Bg(G:Gp)(T:List Nat)(ps:List Pt)(e:Nat)(bg:Addr)(bs:List Addr):Prop:=∀(i:Nat) (b:Addr),bs[i]? =some b->b≠bg/\∃js:List Nat,G b=some (.lst (js.map dM))/\js.length<=10000/\∀j,j∈js↔vp T (ps.take i) e j
noncomputable def xD(CD CC CB:Addr)(n:Nat):gP:=λas G Q=>∃(ds cn gd dd db dx m pa tb:Addr) (ts:List Addr) (T:List Nat) (p:Pt) (ps:List Pt) (k e num:Nat) (ow:Addr) (o:Nat->Nat),as=[.ref ds,.tup ((cz (num+1) ps).map dM),.ref ow]/\Ds CD CC CB G ds cn gd T p k e dd db dx m pa tb ts/\(makes p)[num]? =some (.row ps)/\j9 ps<=n/\e<=T.length/\On G ow (λj=>nT T (.row ps) e j≠0) o/\k<bB o (bq T (.row ps) e)/\
 ∀us e' r G',pk o (fc T ps e) k=some (us,e',r)->Ds CD CC CB G' ds cn gd T p r e' dd db dx m pa tb ts->Ch [ds,gd] G G'->Q (.tup (c8 us)) G'
theorem Bq{n k:Nat}(hk:3<=k)(n1:qu K CD "counts")(n2:qu K CD "guide")(n3:qu K CD "at")(F:Fun K "make_row" "Descent.make_row" o7 f fd)(B:BN mg)(ME:er P w K mg base CC 1 "ends_of" fe de ["self", "number", "at"] (nh CC))(MA:er P w K mg base CD 3 "onward_ahead" fp dp ["self", "number", "places", "onward"] (ma CD CC CB))(MT:er P w K mg base CD k "make_tree" fm dm ["self", "number", "onward"] (l8 CD CC CB n)):ic P w K mg base (k+1) f fd ["self", "parts", "onward"] (xD CD CC CB n):=by
 have nd:=xN.nd
 refine kG F xN (λvs G Q h=> ?_) (λcdv A outer s H E as G Q hr h=> ?_)
 ·obtain⟨_,_,_,_,_,_,_,_,_,_,_,_,_,_,_,_,_,_,rfl,_⟩:=h
  rfl
 have hU:=en hr
 apply iW
 case a=>
  symm
  all_goals try (refine' E5 Fn Jh rfl ?_ λ_ _ _ _=>⟨?_,?_⟩)
  all_goals symm
 obtain⟨ds,cn,gd,dd,db,dx,m,pa,tb,ts,T,p,ps,k0,e,num,ow,o,rfl,D,hq,hdp,he,hon,hk0,q⟩:=h
 have hLT:=D.cs.len
 obtain⟨hp1,hp6⟩:=D.ar _ (ax hq)
 have hlP:((cz (num+1) ps).map dM).length=ps.length:=by rw[aB,dX]
 exists cu D.ins rfl ?_
 exists⟨aV rfl,λb0 hb0=> ?_⟩
 exists⟨aV rfl,λbg hbg=> ?_⟩
 left
 have hbgn:=bT hbg
 have hcut:sY ((cz (num+1) ps).map dM) none (some (-1))=((cz (num+1) ps).map dM).take (ps.length-1):=by
  unfold sY
  rw[hlP,HT.sIx_none]
  show List.take (HT.sIx ps.length ps.length (some (-1))-0) (List.drop 0 _)=_
  rw[List.drop_zero]
  rw[AL]
  rfl
 refine⟨?_,?_⟩
 ·rw[hlP]
  rintro⟨_,h2⟩
  rw[AL]at h2
  ac_nf
 rw[hcut]
 exists⟨λi τ G1=>∃(bs:List Addr) (t4 t5 t6:Option PV),τ=[some (.ref ds),some (.tup ((cz (num+1) ps).map dM)),some (.ref ow),some (.ref bg),t4,t5,t6,none,none]/\G1 bg=some (.lst (bs.map PV.ref))/\bs.length=i+1/\Bg G1 T ps e bg bs/\GE G G1,⟨[b0],none,none,none,rfl,ao,rfl,?_,(GE.refl.new hb0).new hbg⟩,?_,?_,?_⟩
 ·intro i b hi
  cases i with
  |zero=>
   cases hi
   exact⟨aG hbgn.1,[e],by rw[aK (aG hbgn.1),ao];rfl,by simp,λj=>by rw[aC];exact⟨λz=>z.symm,λz=>z.symm⟩⟩
  |succ i=>cases hi
 ·intros;trivial
 ·rintro i x τ G1 hx ⟨bs,t4,t5,t6,rfl,gb,hbl,hB,ge⟩
  rw[List.getElem?_take]at hx
  split at hx
  case isFalse=>cases hx
  rename_i hil
  obtain⟨cc,hcc⟩:∃cc,ps[i]? =some cc:=⟨_,ak (by ac_nf)⟩
  obtain⟨jn,rfl,hj,_⟩:=gq hq hcc hx
  left
  intro fo hfo
  obtain⟨b,hb⟩:∃b,bs[i]? =some b:=⟨_,ak (by ac_nf)⟩
  obtain⟨nbg,js,gjs,hjl,hjs⟩:=hB i b hb
  have hlast:bs=bs.take i++[b]:=by
   have:=gX i bs
   rw[dY (by ac_nf),List.drop_eq_nil_of_le (by ac_nf)]at this
   rw[ak (by ac_nf)]at hb
   cases hb
   exact this.symm
  have nbf:b≠fo:=bt gjs hfo
  have ngf:bg≠fo:=bt gb hfo
  exists cU (x:= .ref b) (a9 (show up G1 fo (.dK []) bg=_ from by rw[aK ngf];exact gb)) (by rw[hlast,bD];exact ql _ _) ?_
  left
  rw[a9 (show up G1 fo (.dK []) b=_ from by rw[aK nbf];exact gjs)]
  exists⟨λi2 τ G2=>∃(ws:Ws) (t6:Option PV),τ=[some (.ref ds),some (.tup ((cz (num+1) ps).map dM)),some (.ref ow),some (.ref bg),some (.int (jn:Int)),some (.ref fo),t6,none,none]/\G2=up G1 fo (.dK (eL ws))/\(ws.map (·.1)).Nodup/\∀x,x∈ws.map (·.1)↔∃j∈js.take i2,nT T cc j x≠0,⟨[],t6,rfl,rfl,by simp,by simp⟩,?_,?_,?_⟩
  ·rintro i2 τ G2 _ ⟨ws,t6,rfl,rfl,_⟩
   exact a9 (by rw[aK nbf];exact gjs)
  ·rintro i2 x τ G2 hx2 ⟨ws,t6,rfl,rfl,hnd,hmem⟩
   rw[aI]at hx2
   cases ej:js[i2]? with
   |none=>rw[ej]at hx2;cases hx2
   |some j=>
    rw[ej]at hx2
    cases hx2
    have hjm:vp T (ps.take i) e j:=(hjs j).mp (ax ej)
    have hjT:=nQ _ _ _ he hjm
    have lz:GE G (up G1 fo (.dK (eL ws))):=ge.new hfo
    have D2:=D.ge lz
    exists⟨pV (i5 ao),?_⟩
    exists cu D2.ins rfl ?_
    exists⟨⟨cn,dx,_,rfl,D2.tab.ins,rfl⟩,?_⟩
    exists⟨cn,dx,m,pa,tb,ts,T,p,cc,jn,j,rfl,D2.tab,hj,hjT,λd ms gd' wy=> ?_⟩
    have nfd:fo≠d:=λz=>by rw[<-z,ao]at gd';cases gd'
    have hm1:∀x∈ws.map (·.1),x<T.length+1:=λx hx=>by
     obtain⟨j',hj',h2⟩:=(hmem x).mp hx
     rcases cV T.length x with z|z
     ·exact absurd (jX (nQ _ _ _ he ((hjs j').mp (lI hj'))) z) h2
     ·ac_nf
    have hl1:=mi _ _ hnd hm1
    have hl2:=wy.len
    exists Gw ao (mE gd') nfd ?_ ?_
    ·unfold eL
     rw[aB]at hl1
     rw[aB,aB];ac_nf
    rw[uA ms ws hnd,ia]
    refine⟨zj ws ms,_,rfl,rfl,yl ms ws hnd,λx=> ?_⟩
    rw[ym,hmem,rS wy,cO,ej]
    constructor
    ·rintro(⟨j',h1,h2⟩|h1)
     ·exact⟨j',bj.mpr (.inl h1),h2⟩
     ·exact⟨j,bj.mpr (.inr (by simp)),h1⟩
    ·rintro⟨j',h1,h2⟩
     rcases bj.mp h1 with h1|h1
     ·exact .inl ⟨j',h1,h2⟩
     ·obtain rfl:j'=j:=by simpa using h1
      exact .inr h2
  ·rintro τ G2 ⟨ws,t6,rfl,rfl,hnd,hmem⟩
   rw[aB,ce]at hmem
   have gb2:up G1 fo (.dK (eL ws)) bg=some (.lst (bs.map PV.ref)):=by rw[aK ngf];exact gb
   exists⟨⟨_,gb2⟩,?_⟩
   exists yq (i5 ao) λnl hnl=> ?_
   rw[i3]
   have nbn:bg≠nl:=bt gb2 hnl
   exists i8 (by rw[aK nbn];exact gb2) (by rw[aB];ac_nf) ?_
   have geS:GE G1 (up (up G1 fo (.dK (eL ws))) nl (.lst (ws.map λw=>PV.int (w.1:Int)))):=(GE.refl.new hfo).new hnl
   have hbg0:G bg=none:=(bT hbg).2
   refine⟨bs++[nl],_,_,_,rfl,by rw[ao,bD];rfl,by rw[aM,hbl];rfl,?_,(ge.trans geS).mod hbg0⟩
   intro i' b' hb'
   by_cases hlt:i'<bs.length
   ·rw[c6 hlt]at hb'
    obtain⟨n1',js',g',l',m'⟩:=hB i' b' hb'
    exact⟨n1',js',by rw[aK n1'];exact geS _ _ g',l',m'⟩
   ·rw[bS (by ac_nf)]at hb'
    have hz:i'-bs.length=0:=by
     rcases Nat.eq_zero_or_pos (i'-bs.length)with z|z
     ·exact z
     ·rw[dU (by simp;ac_nf)]at hb';cases hb'
    obtain rfl:i'=i+1:=by ac_nf
    rw[hz]at hb'
    cases hb'
    have hm1:∀x∈ws.map (·.1),x<T.length+1:=λx hx=>by
     obtain⟨j',hj',h2⟩:=(hmem x).mp hx
     rcases cV T.length x with z|z
     ·exact absurd (jX (nQ _ _ _ he ((hjs j').mp hj')) z) h2
     ·ac_nf
    refine⟨aG nbn,ws.map (·.1),by rw[aK (aG nbn),ao,cF];rfl,by have:=mi _ _ hnd hm1;ac_nf,λj=> ?_⟩
    rw[hmem,mQ hcc]
    exact⟨λ⟨j',h1,h2⟩=>⟨j',(hjs j').mp h1,h2⟩,λ⟨j',h1,h2⟩=>⟨j',(hjs j').mpr h1,h2⟩⟩
 rintro τ G1 ⟨bs,t4,t5,t6,rfl,gb,hbl,hB,ge⟩
 rw[bz,hlP,Nat.min_eq_left (by ac_nf)]at hbl
 exists⟨aV rfl,λon hno=> ?_⟩
 left
 have hng:bg≠on:=bt gb hno
 have ge0:GE G1 (up G1 on (.lst [.ref ow])):=GE.refl.new hno
 refine ny ?_
 left
 rw[hlP]
 refine⟨rfl,⟨by ac_nf,by ac_nf,by ac_nf,by ac_nf⟩,?_⟩
 have hdl:(i4 ((ps.length:Int)-1) (((ps.length:Int)-1)-0).toNat).length=ps.length-1:=by unfold i4;simp
 refine⟨λi τ G2=>∃(os:List Addr) (t8:Option PV),τ=[some (.ref ds),some (.tup ((cz (num+1) ps).map dM)),some (.ref ow),some (.ref bg),t4,t5,t6,some (.ref on),t8]/\G2 on=some (.lst (os.map PV.ref))/\os.length=i+1/\Onw G2 T ps e o os/\GE G1 G2,⟨[ow],none,rfl,ao,rfl,?_,ge0⟩,?_,?_,?_⟩
 ·intro i a hi
  cases i with
  |zero=>
   cases hi
   rw[Nat.sub_zero,ce,List.drop_length]
   refine((hon.ge ge).ge ge0).mono' (λj hj=>wg.mpr hj) λj=> ?_
   show o j=bB o [(([]:List Tr),j)]
   rw[eZ,gj];rfl
  |succ i=>cases hi
 ·intros;trivial
 ·rintro i x τ G2 hx ⟨os,t8,rfl,go,hol,hO,lz⟩
  have hil:=(aj.mp hx).1
  rw[hdl]at hil
  have ex:x= .int ((ps.length-1-i:Nat):Int):=by
   unfold i4 at hx
   rw[aI,eQ (by ac_nf)]at hx
   cases hx
   show PV.int ((ps.length:Int)-1-(i:Int))=PV.int ((ps.length-1-i:Nat):Int)
   rw[show((ps.length-1-i:Nat):Int)=(ps.length:Int)-1-(i:Int)by ac_nf]
  subst ex
  obtain⟨cc,hcc⟩:∃cc,ps[ps.length-1-i]? =some cc:=⟨_,ak (by ac_nf)⟩
  obtain⟨xm,hmx⟩:∃xm,((cz (num+1) ps).map dM)[ps.length-1-i]? =some xm:=⟨_,ak (by rw[hlP];ac_nf)⟩
  obtain⟨jn,ej,hj,_⟩:=gq hq hcc hmx
  rw[ej]at hmx
  obtain⟨b,hb⟩:∃b,bs[ps.length-1-i]? =some b:=⟨_,ak (by ac_nf)⟩
  obtain⟨nbg,js,gjs,hjl,hjs⟩:=hB _ b hb
  obtain⟨a,ha⟩:∃a,os[i]? =some a:=⟨_,ak (by ac_nf)⟩
  have hlast:os=os.take i++[a]:=by
   have:=gX i os
   rw[dY (by ac_nf),List.drop_eq_nil_of_le (by ac_nf)]at this
   rw[ak (by ac_nf)]at ha
   cases ha
   exact this.symm
  have D2:=(D.ge ge).ge lz
  have hOa:=hO i a ha
  exists⟨⟨_,go⟩,?_⟩
  exists⟨⟨ds,dd,_,rfl,D2.ins,rfl⟩,?_⟩
  exists ib (bX hmx) ?_
  exists cU (x:= .ref b) (a9 (lz _ _ gb)) (bX (by rw[aI,hb];rfl)) ?_
  exists cU (x:= .ref a) (a9 go) (by rw[hlast,bD];exact ql _ _) ?_
  left
  have e1:ps.length-i=ps.length-1-i+1:=by ac_nf
  refine⟨ds,cn,gd,dd,db,dx,m,pa,tb,ts,T,p,cc,k0,e,jn,b,a,js,λj=>bB o (fc T (ps.drop (ps.length-i)) j),rfl,D2,hj,lz _ _ gjs,hjl,λj hjm=>nQ _ _ _ he ((hjs j).mp hjm),hOa.mono λx ⟨j,h1,h2⟩=>by rw[e1,mQ hcc];exact⟨j,(hjs j).mp h1,h2⟩,λc G3 hc ge3 hon3=> ?_⟩
  have gno:G3 on=some (.lst (os.map PV.ref)):=ge3 _ _ go
  have nco:c≠on:=λz=>by
   obtain⟨kvs,h1,_⟩:=hon3
   rw[z]at h1
   simp[jm,gno]at h1
  exists i8 gno (by rw[aB];ac_nf) ?_
  refine⟨os++[c],_,rfl,by rw[ao,bD];rfl,by rw[aM,hol];rfl,?_,(lz.trans ge3).mod hno⟩
  intro i' a' ha'
  by_cases hlt:i'<os.length
  ·rw[c6 hlt]at ha'
   refine((hO i' a' ha').ge ge3).up λz=> ?_
   obtain⟨kvs,h1,_⟩:=hO i' a' ha'
   rw[z]at h1
   simp[jm,go]at h1
  ·rw[bS (by ac_nf)]at ha'
   have hz:i'-os.length=0:=by
    rcases Nat.eq_zero_or_pos (i'-os.length)with z|z
    ·exact z
    ·rw[dU (by simp;ac_nf)]at ha';cases ha'
   obtain rfl:i'=i+1:=by ac_nf
   rw[hz]at ha'
   cases ha'
   rw[show ps.length-(i+1)=ps.length-1-i by ac_nf]
   refine(hon3.up nco).mono' (λj hj=>(hjs j).mpr hj) λj=> ?_
   rw[mX,e1]
   congr 2
   rw[dY (i:=ps.length-1-i) (by ac_nf)]
   rw[ak (by ac_nf)]at hcc
   cases hcc
   rfl
 rintro τ G2 ⟨os,t8,rfl,go,hol,hO,lz⟩
 rw[hdl]at hol
 have D2:=(D.ge ge).ge lz
 left
 rw[a9 go]
 left
 intro rv hrv
 exists⟨rv,_,_,rfl,jY,?_⟩
 intro acc hacc
 have hil:(iM ((cz (num+1) ps).map dM) (os.map PV.ref).reverse).length=ps.length:=by rw[ls,hlP,cf,aB];ac_nf
 have ge4:GE G2 (up G2 rv (.lst (os.map PV.ref).reverse)):=GE.refl.new hrv
 have geA:GE G (up G2 rv (.lst (os.map PV.ref).reverse)):=(ge.trans lz).trans ge4
 have D4:=D.ge geA
 have hrvs:up G2 rv (.lst (os.map PV.ref).reverse) rv=some (.lst (os.map PV.ref).reverse):=ao
 have hO4:∀(i:Nat) (a:Addr),os[i]? =some a->On (up G2 rv (.lst (os.map PV.ref).reverse)) a (λj=>vp T (ps.take (ps.length-i)) e j) (λj=>bB o (fc T (ps.drop (ps.length-i)) j)):=λi a ha=>(hO i a ha).ge ge4
 generalize up G2 rv (.lst (os.map PV.ref).reverse)=G4 at*
 have hk0':k0<bB o (fc T ps e):=by
  rw[jN,io Tr.row (fc T ps e)]at hk0
  exact hk0
 refine⟨λi ys Gi=>∃(us:List Tr) (ki ei:Nat),ys=c8 us/\us.length=i/\Gi ds=some (.ins CD dd (yF cn gd ei))/\Gi gd=some (.ins CB db [("left",.int (ki:Int))])/\Ch [ds,gd] G4 Gi/\Gi acc=some (.lst ys)/\vp T (ps.take i) e ei/\ki<bB o (fc T (ps.drop i) ei)/\pk o (fc T ps e) k0=(pk o (fc T (ps.drop i) ei) ki).map λz=>(us++z.1,z.2),?_,?_,?_,?_⟩
 ·refine⟨[],k0,e,rfl,rfl,by rw[aK (bt D4.ins hacc)];exact D4.ins,by rw[aK (bt D4.gui hacc)];exact D4.gui,Ch.refl.new hacc,ao,rfl,hk0',?_⟩
  simp
 ·rintro i ys Gi hi ⟨us,ki,ei,rfl,rfl,g1,g2,ch,ga,_⟩
  refine⟨a9 (ch rv _ ?_ hrvs),ga,?_⟩
  ·have h1:rv≠ds:=λz=>by rw[z,D4.ins]at hrvs;cases hrvs
   have h2:rv≠gd:=λz=>by rw[z,D4.gui]at hrvs;cases hrvs
   simp[h1,h2]
  ·rw[hil]at hi
   rw[dS,aB];ac_nf
 ·rintro i ys Gi x hx ⟨us,ki,ei,rfl,rfl,g1,g2,ch,ga,hR,hki,hpk⟩
  have hil2:=(aj.mp hx).1
  rw[hil]at hil2
  obtain⟨cc,hcc⟩:∃cc,ps[us.length]? =some cc:=⟨_,ak hil2⟩
  obtain⟨xm,hmx⟩:∃xm,((cz (num+1) ps).map dM)[us.length]? =some xm:=⟨_,ak (by rw[hlP];exact hil2)⟩
  obtain⟨jn,ej,hj,_⟩:=gq hq hcc hmx
  rw[ej]at hmx
  obtain⟨a,ha⟩:∃a,os[ps.length-1-us.length]? =some a:=⟨_,ak (by ac_nf)⟩
  have hra:(os.map PV.ref).reverse[us.length]? =some (.ref a):=by
   rw[List.getElem?_reverse (by rw[aB];ac_nf),aB,aI,show os.length-1-us.length=ps.length-1-us.length by ac_nf,ha];rfl
  rw[nr hmx hra]at hx
  cases hx
  refine⟨_,_,rfl,jD rfl ?_⟩
  have D5:=D4.ch ch g1 g2
  have hd:ps.drop us.length=cc::ps.drop (us.length+1):=by
   rw[dY hil2]
   rw[ak hil2]at hcc
   cases hcc
   rfl
  have hO5:=(hO4 _ a ha).ch D4 ch
  rw[show ps.length-(ps.length-1-us.length)=us.length+1 by ac_nf]at hO5
  have hei:=nQ _ _ _ he hR
  rw[hd]at hki hpk
  exists⟨⟨ds,dd,_,rfl,g1,rfl⟩,?_⟩
  exists⟨ds,cn,gd,dd,db,dx,m,pa,tb,ts,T,p,cc,ki,ei,jn,a,λj=>bB o (fc T (ps.drop (us.length+1)) j),rfl,D5,hj,by have:=nO (ax hcc);ac_nf,hei,hO5.mono λj hj=>(mQ hcc).mpr ⟨ei,hR,hj⟩,by rw[mX];exact hki,λt e' r' G6 hp D6 ch6=> ?_⟩
  obtain⟨t',e'',r'',hp2,hm2,hr2⟩:=oP (o:=λj=>bB o (fc T (ps.drop (us.length+1)) j)) (bq T cc ei) ki (by rw[mX];exact hki)
  rw[hp]at hp2
  cases hp2
  have nad:acc≠ds:=λz=>by rw[z,g1]at ga;cases ga
  have nag:acc≠gd:=λz=>by rw[z,g2]at ga;cases ga
  refine⟨ch6 acc _ (by simp[nad,nag]) ga,us++[t],r',e',by rw[gR];rfl,by rw[aM];rfl,by rw[aK (aG nad)];exact D6.ins,by rw[aK (aG nag)];exact D6.gui,(ch.trans ch6).mod' hacc,ao,(mQ hcc).mpr ⟨ei,hR,wj hm2⟩,hr2,?_⟩
  rw[hpk,DZ,hp]
  show Option.map _ (Option.map _ _)=_
  rw[Option.map_map]
  congr 1
  funext z
  show(us++(t::z.1),z.2)=((us++[t])++z.1,z.2)
  rw[eD];rfl
 ·rintro ys Gi ⟨us,ki,ei,rfl,hul,g1,g2,ch,ga,hR,hki,hpk⟩
  rw[hil]at hul
  rw[hil,List.drop_length]at hki hpk
  exists rY (a9 ga) ?_
  refine⟨_,GE.refl,q us ei ki _ ?_ (D4.ch ch g1 g2) (geA.ch.trans ch)⟩
  rw[hpk]
  unfold fc
  rw[L3.pk_cons,if_pos (by change ki<bB o [(([]:List Tr),ei)]at hki;rw[eZ,gj]at hki;exact hki)]
  show some (us++[],_,_)=_
  rw[bI]
end
theorem Jo{C a dx:Addr}{f:Str}{G:Gp}{Q:Gp->Prop}{fs:List (Str×PV)}{i j:Int}{τ:jc}(h:G a=some (.ins C dx fs))(e:fs.lookup f=some (.int i))(hl:fs.length<1000)(hq:Q (up G a (.ins C dx (jU f (.int (i+j)) fs)))):yK C f (.ref a) (eC (.int j)) τ G Q:=by
 unfold yK;simp only[h,e,eC]
 exact⟨trivial,trivial,hl,hq⟩
section
variable{P:aF}{w:aS}{K:PySem.W.Frag}{mg:Str->Option ae}{base:Heap}{f fi fm fa fp fr fe fs' fh CD CC CB:Addr}{fd di dm da dp dr de ds' dh:aR}{tTU:Tok}
theorem FM:bn ["self", "number", "onward", "make", "kind"] ["self", "number", "onward"] (aL Dg):=⟨rfl,rfl,rfl,by decide+kernel,rfl,by decide+kernel,by decide+kernel⟩
theorem uy{n k:Nat}(q1:qu K CC "signs")(q2:qu K CC "makes")(q3:qu K CC "parts")(n1:qu K CD "counts")(n3:qu K CD "at")(F:Fun K "make_tree" "Descent.make_tree" Dg f fd)(B:BN mg)(MR:er P w K mg base CD (k+1) "make_row" fr dr ["self", "parts", "onward"] (xD CD CC CB n))(MP:er P w K mg base CD (k+1) "make_pick" fp dp ["self", "parts", "onward"] (tZ CD CC CB n))(MU:er P w K mg base CD (k+1) "make_turns" fa da ["self", "number", "onward"] (xC CD CC CB n))(MT:er P w K mg base CD k "make_tree" fm dm ["self", "number", "onward"] (l8 CD CC CB n)):ic P w K mg base (k+2) f fd ["self", "number", "onward"] (l8 CD CC CB (n+1)):=by
 have nd:=FM.nd
 refine kG F FM (λvs G Q h=> ?_) (λcdv A outer s H E as G Q hr h=> ?_)
 ·obtain⟨_,_,_,_,_,_,_,_,_,_,_,_,_,_,_,_,_,_,rfl,_⟩:=h
  rfl
 have hU:=en hr
 apply iW
 case a=>symm
 obtain⟨ds,cn,gd,dd,db,dx,m,pa,tb,ts,T,p,qq,k0,e,num,ow,o,rfl,D,hq,hdp,he,hon,hk0,q⟩:=h
 exists cu D.ins rfl ?_
 exists cu D.tab.ins rfl ?_
 exists cU (a9 D.tab.mks) (bX (tu hq)) ?_
 left
 have hLT:=D.cs.len
 have harr:=D.ar _ (ax hq)
 cases qq with
 |none=>
  exact absurd hk0 (by unfold bq;rw[gj];ac_nf)
 |blank=>
  nofun
  ext
  ext
  ext
  ext
  exists⟨dH,?_⟩
  exists Cc rfl rfl ?_
  exists nZ rfl ?_
  exists⟨dH,?_⟩
  refine⟨_,GE.refl,q .blank e k0 _ ?_ D Ch.refl⟩
  have h1:bq T .blank e=[(Tr.blank,e)]:=by unfold bq;rfl
  rw[h1]at hk0⊢
  rw[eZ,gj]at hk0
  rw[L3.pk_cons,if_pos (by ac_nf)]
 |sign z=>
  have h0:∃c,T[e]? =some c/\c∈z.cps.toList:=by
   unfold bq at hk0
   cases ec:T[e]? with
   |none=>rw[ec]at hk0;exact absurd hk0 (iD _)
   |some c=>
    rw[ec]at hk0
    by_cases hc:c∈z.cps.toList
    ·exact⟨c,rfl,hc⟩
    ·simp only[if_neg hc]at hk0;exact absurd hk0 (iD _)
  obtain⟨c,ec,hc⟩:=h0
  have h1:bq T (.sign z) e=[(Tr.sign ⟨#[c]⟩,e+1)]:=by unfold bq;rw[ec];simp only[if_pos hc]
  have hel:=(aj.mp ec).1
  rw[h1]at hk0 q
  rw[eZ,gj]at hk0
  nofun
  exists j6 rfl rfl (jD rfl ?_)
  exists Jo D.ins rfl (aV rfl) ?_
  left
  have ef:jU "at" (.int ((e:Int)+1)) (yF cn gd e)=yF cn gd (e+1):=rfl
  have eG:up G ds (.ins CD dd (jU "at" (.int ((e:Int)+1)) (yF cn gd e)))=up G ds (.ins CD dd (yF cn gd (e+1))):=by rw[ef]
  have ndg:gd≠ds:=λzz=>by have:=D.gui;rw[zz,D.ins]at this;cases this
  have ch1:Ch [ds,gd] G (up G ds (.ins CD dd (yF cn gd (e+1)))):=Ch.refl.put (by simp)
  have D1:=D.ch ch1 (e':=e+1) (k':=k0) ao (by rw[aK ndg];exact D.gui)
  refine cu D1.ins rfl ?_
  exists cu D1.tab.ins rfl ?_
  exists cu D1.ins rfl ?_
  left
  have e9:((e+1:Nat):Int)-1=(e:Int):=by ac_nf
  refine pU (c:=c) (by rw[gM];ac_nf) (by show mW _ (((e+1:Nat):Int)-1)=_;rw[e9];exact bX (by rw[yn];exact ec)) ?_
  refine⟨dH,_,GE.refl,q (.sign ⟨#[c]⟩) (e+1) k0 _ ?_ D1 ch1⟩
  rw[L3.pk_cons,if_pos (by ac_nf)]
 |row ps=>
  nofun
  ext
  exists j6 rfl rfl (jD rfl ?_)
  exists⟨⟨ds,dd,_,rfl,D.ins,rfl⟩,?_⟩
  exists cu D.ins rfl ?_
  exists cu D.tab.ins rfl ?_
  exists cU (a9 D.tab.pts) (bX (fH hq)) ?_
  exists⟨ds,cn,gd,dd,db,dx,m,pa,tb,ts,T,p,ps,k0,e,num,ow,o,rfl,D,hq,by unfold depth at hdp;ac_nf,he,hon,hk0,λus e' r G' hp D' ch=> ?_⟩
  refine⟨dH,_,GE.refl,q (.row us) e' r G' ?_ D' ch⟩
  rw[jN,nk Tr.row (fc T ps e) k0,hp]
  rfl
 |pick ps=>
  nofun
  ext
  ext
  exists j6 rfl rfl (jD rfl ?_)
  exists⟨⟨ds,dd,_,rfl,D.ins,rfl⟩,?_⟩
  exists cu D.ins rfl ?_
  exists cu D.tab.ins rfl ?_
  exists cU (a9 D.tab.pts) (bX (fH hq)) ?_
  exists⟨ds,cn,gd,dd,db,dx,m,pa,tb,ts,T,p,ps,k0,e,num,ow,o,rfl,D,hq,by unfold depth at hdp;ac_nf,harr.2,he,hon,hk0,λt e' r G' hp D' ch=> ?_⟩
  exact⟨_,GE.refl,q t e' r G' hp D' ch⟩
 |again r=>
  nofun
  ext
  ext
  ext
  exists j6 rfl rfl (jD rfl ?_)
  exists⟨⟨ds,dd,_,rfl,D.ins,rfl⟩,?_⟩
  exists⟨ds,cn,gd,dd,db,dx,m,pa,tb,ts,T,p,r,k0,e,num,ow,o,rfl,D,hq,by unfold depth at hdp;ac_nf,he,hon,hk0,λus e' r' G' hp D' ch=> ?_⟩
  exact⟨dH,_,GE.refl,q (.again us) e' r' G' hp D' ch⟩
 |held nm r=>
  obtain⟨j,ej,hj,hnj⟩:=gq (i:=0) (cc:=r) hq rfl rfl
  have hj1:j=num+1:=im.mp (PV.int.inj ej).symm
  have htr:bq T (.held nm r) e=(bq T r e).map λt=>(.held nm t.1,t.2):=by conv=>lhs;unfold bq
  nofun
  ext
  ext
  ext
  ext
  exists⟨dH,?_⟩
  exists Cc rfl rfl ?_
  exists jD rfl ?_
  exists ib (x:= .str nm) rfl ?_
  exists⟨⟨ds,dd,_,rfl,D.ins,rfl⟩,?_⟩
  exists cu D.ins rfl ?_
  exists cu D.tab.ins rfl ?_
  exists cU (a9 D.tab.pts) (bX (fH hq)) ?_
  exists ib (x:= .int (j:Int)) (by rw[hj1];rfl) ?_
  exists⟨ds,cn,gd,dd,db,dx,m,pa,tb,ts,T,p,r,k0,e,j,ow,o,rfl,D,hj,by unfold depth at hdp;ac_nf,he,hon.mono λi hi=>by rw[yk];exact hi,by rw[htr,io (Tr.held nm) (bq T r e)]at hk0;exact hk0,λt e' r' G' hp D' ch=> ?_⟩
  refine⟨dH,_,GE.refl,q (.held nm t) e' r' G' ?_ D' ch⟩
  rw[htr,nk (Tr.held nm) (bq T r e) k0,hp]
  rfl
 |price nm r=>
  obtain⟨j,ej,hj,hnj⟩:=gq (i:=0) (cc:=r) hq rfl rfl
  have hj1:j=num+1:=im.mp (PV.int.inj ej).symm
  have htr:bq T (.price nm r) e=(bq T r e).map λt=>(.price nm t.1,t.2):=by conv=>lhs;unfold bq
  nofun
  ext
  ext
  ext
  ext
  exists⟨dH,?_⟩
  exists Cc rfl rfl ?_
  exists jD rfl ?_
  exists ib (x:= .int nm) rfl ?_
  exists⟨⟨ds,dd,_,rfl,D.ins,rfl⟩,?_⟩
  exists cu D.ins rfl ?_
  exists cu D.tab.ins rfl ?_
  exists cU (a9 D.tab.pts) (bX (fH hq)) ?_
  exists ib (x:= .int (j:Int)) (by rw[hj1];rfl) ?_
  exists⟨ds,cn,gd,dd,db,dx,m,pa,tb,ts,T,p,r,k0,e,j,ow,o,rfl,D,hj,by unfold depth at hdp;ac_nf,he,hon.mono λi hi=>by rw[uz];exact hi,by rw[htr,io (Tr.price nm) (bq T r e)]at hk0;exact hk0,λt e' r' G' hp D' ch=> ?_⟩
  refine⟨dH,_,GE.refl,q (.price nm t) e' r' G' ?_ D' ch⟩
  rw[htr,nk (Tr.price nm) (bq T r e) k0,hp]
  rfl
theorem pH(x0:mg "TURN" =some (.int 0 tTU))(q1:qu K CC "signs")(q2:qu K CC "makes")(q3:qu K CC "parts")(n1:qu K CD "counts")(n2:qu K CD "guide")(n3:qu K CD "at")(B:BN mg)(ME:er P w K mg base CC 1 "ends_of" fe de ["self", "number", "at"] (nh CC))(MS:er P w K mg base CD 2 "size" fs' ds' ["self", "number", "at", "onward"] (kf CD CC CB))(MA:er P w K mg base CD 3 "onward_ahead" fh dh ["self", "number", "places", "onward"] (ma CD CC CB))(MC:er P w K mg base CB 1 "choose" fi di ["self", "sizes"] (jR CB))
  (F:Fun K "make_tree" "Descent.make_tree" Dg f fd) (b:Binds K fd ["self", "number", "onward"] []) (m:ir K CD "make_tree" f)
  (FR:Fun K "make_row" "Descent.make_row" o7 fr dr) (bR:Binds K dr ["self", "parts", "onward"] []) (mR:ir K CD "make_row" fr)
  (FP:Fun K "make_pick" "Descent.make_pick" lQ fp dp) (bP:Binds K dp ["self", "parts", "onward"] []) (mP:ir K CD "make_pick" fp)
  (FU:Fun K "make_turns" "Descent.make_turns" lP fa da) (bU:Binds K da ["self", "number", "onward"] []) (mU:ir K CD "make_turns" fa):
  ∀n:Nat,ic P w K mg base (3+2*n) f fd ["self", "number", "onward"] (l8 CD CC CB n)
 |0=>ml λas G Q h=>by
  obtain⟨_,_,_,_,_,_,_,_,_,_,_,_,qq,_,_,_,_,_,_,_,_,hd,_⟩:=h
  cases qq<;>(unfold depth at hd;ac_nf)
 |n+1=>by
  have ih:=pH x0 q1 q2 q3 n1 n2 n3 B ME MS MA MC F b m FR bR mR FP bP mP FU bU mU n
  have MT:er P w K mg base CD (3+2*n) "make_tree" f fd ["self", "number", "onward"] (l8 CD CC CB n):=⟨ih,b,n1.c,m⟩
  have hk:3<=3+2*n:=by ac_nf
  exact uy (k:=3+2*n) q1 q2 q3 n1 n3 F B ⟨Bq hk n1 n2 n3 FR B ME MA MT,bR,n1.c,mR⟩ ⟨zd (by ac_nf) n1.c n1.n n2.n n3.n FP B MS MC MT,bP,n1.c,mP⟩ ⟨Bj hk x0 q3 n1 n2 n3 FU B ME MS MA MC MT,bU,n1.c,mU⟩ MT
end
theorem wn(p:Pt):(makes p)[0]? =some p:=by cases p<;>first|rfl|(unfold makes;rfl)
theorem Dj{T:List Nat}{p:Pt}{e L:Nat}:bB (dl L) (bq T p e)=nT T p e L:=by
 unfold nT
 generalize bq T p e=l
 induction l with
 |nil=>rfl
 |cons x l ih=>
  rw[eZ,ih]
  unfold jz dl
  rw[List.countP_cons]
  by_cases h:L=x.2
  ·rw[if_pos h,if_pos (by simp[h])];ac_nf
  ·rw[if_neg h,if_neg (by simp;exact λz=>h z.symm)];ac_nf
section
variable{P:aF}{w:aS}{K:PySem.W.Frag}{mg:Str->Option ae}{base:Heap}{f fm CD CC CB D:Addr}{fd dm:aR}
theorem ug:bn ["self"] ["self"] (aL rO):=⟨rfl,rfl,rfl,by decide+kernel,rfl,by decide+kernel,by decide+kernel⟩
noncomputable def GI(CD CC CB:Addr)(n:Nat):gP:=λas G Q=>∃(ds cn gd dd db dx m pa tb:Addr) (ts:List Addr) (T:List Nat) (p:Pt) (k:Nat),as=[.ref ds]/\Ds CD CC CB G ds cn gd T p k 0 dd db dx m pa tb ts/\depth p<=n/\k<nT T p 0 T.length/\
 ∀t e' r G',pk (dl T.length) (bq T p 0) k=some (t,e',r)->Ch [ds,gd] G G'->Q (fI t) G'
theorem y8{n k:Nat}(q1:qu K CC "signs")(n1:qu K CD "counts")(F:Fun K "whole_tree" "Descent.whole_tree" rO f fd)(B:BN mg)(MT:er P w K mg base CD k "make_tree" fm dm ["self", "number", "onward"] (l8 CD CC CB n)):ic P w K mg base (k+1) f fd ["self"] (GI CD CC CB n):=by
 have nd:=ug.nd
 refine kG F ug (λvs G Q h=> ?_) (λcdv A outer s H E as G Q hr h=> ?_)
 ·obtain⟨_,_,_,_,_,_,_,_,_,_,_,_,_,rfl,_⟩:=h
  rfl
 have hU:=en hr
 apply iW
 case a=>symm
 obtain⟨ds,cn,gd,dd,db,dx,m,pa,tb,ts,T,p,k0,rfl,D,hd,hk0,q⟩:=h
 exists⟨⟨ds,dd,_,rfl,D.ins,rfl⟩,?_⟩
 left
 intro od hod
 left
 have ge0:GE G (up G od (.dK [])):=GE.refl.new hod
 have D1:=D.ge ge0
 refine cu D1.ins rfl ?_
 exists cu D1.tab.ins rfl ?_
 left
 have hLT:=D.cs.len
 refine sJ (by rw[gM];ac_nf) ?_
 rw[gM]
 exists sW rfl ao ?_
 rw[ia]
 have ge1:GE G (up G od (.dK [(.inl (T.length:Int),.int 1)])):=GE.refl.new hod
 exists⟨ds,cn,gd,dd,db,dx,m,pa,tb,ts,T,p,p,k0,0,0,od,dl T.length,rfl,D.ge ge1,wn p,hd,cg _,⟨_,i5 ao,λj _=> ?_⟩,by rw[Dj];exact hk0,λt e' r G' hp D' ch=> ?_⟩
 ·rw[eF]
  unfold dl
  by_cases h:T.length=j
  ·subst h;rw[if_pos rfl,if_pos rfl];rfl
  ·rw[if_neg (pR h),if_neg h];rfl
 ·exact⟨_,GE.refl,q t e' r G' hp (ge1.ch.trans ch)⟩
end
noncomputable abbrev oF:Stmt:=top 25
noncomputable def vI(T:List Nat)(p:Pt):List (Tr×Nat):=(bq T p 0).filter λt=>t.2==T.length
theorem Dk(T:List Nat)(p:Pt):(vI T p).length=nT T p 0 T.length:=by
 unfold vI nT jz
 rw[rM]
section
variable{P:aF}{w:aS}{K:PySem.W.Frag}{mg:Str->Option ae}{base:Heap}{f fi fm fa fg fb CD CC CB D:Addr}{fd di dm da dg db':aR}{tML:Tok}
theorem uh:bn ["pattern", "text", "counts"] ["pattern", "text"] (aL oF):=⟨rfl,rfl,rfl,by decide+kernel,rfl,by decide+kernel,by decide+kernel⟩
noncomputable abbrev kTL:e8:=jo [(".0",.local),("k",.local),("Descent",.globalImplicit),("counts",.free),("ByNumber",.globalImplicit)]
theorem Ct:fq (aL oF) ["pattern", "text", "counts"] kTL ["k", "counts"] [none,some 2] 0 "k" =true:=by decide+kernel
noncomputable def GJ(n:Nat):vo:=λas G Q EX=>∃(p:Pt) (T:List Nat),as=[n5 p,.str (qC T)]/\Cs T p/\(∀q∈makes p,NN q)/\depth p<=n/\
 (nT T p 0 T.length<=200->∀c G',G c=none->G' c=some (.lst ((vI T p).map λt=>fI t.1))->GE G G'->Q (.ref c) G')/\(200<nT T p 0 T.length->∀G',GE G G'->EX G')
theorem y9{n k:Nat}(hk:5<=k)(x0:mg "MOST_LISTED" =some (.int 200 tML))(xq:PySem.W.excIn K D rD "ValueError.__new__" =true)(hD:mg "TooMany" =some (.ref D))(F:Fun K "trees" "trees" oF f fd)(B:BN mg)(MC:Mo P w K mg base "Counts" CC fi di 4 ["self", "pattern", "text"] (vS CC))(MB:Mo P w K mg base "ByNumber" CB fb db' 1 ["self", "number"] (xG CB))(MD:Mo P w K mg base "Descent" CD fg dg 1 ["self", "counts", "guide"] (xF CD))(MT:er P w K mg base CC 1 "total" fm dm ["self"] (sj CC))(MW:er P w K mg base CD k "whole_tree" fa da ["self"] (GI CD CC CB n)):FC P w K mg base D (k+1) f fd ["pattern", "text"] (GJ n):=by
 have nd:=uh.nd
 refine LC F uh (λvs G Q EX h=> ?_) (λcdv A outer s H E as G Q EX hr h hX=> ?_)
 ·obtain⟨_,_,rfl,_⟩:=h
  rfl
 have hU:=en hr
 apply iW
 case a=>
  symm
  all_goals try (refine' lx Ct rfl ?_ λ_ _ _ _=>⟨?_,?_⟩)
  all_goals symm
 obtain⟨p,T,rfl,cs,har,hd,q1,q2⟩:=h
 left
 intro x dx hx hdx ndx
 refine⟨x,dx,T,p,rfl,ao,cs,λG1 m pa tb ts ch tb1=>⟨rfl,?_⟩⟩
 have ge1:GE G G1:=λb o hb=>by
  have ne:b≠x:=bt hb hx
  exact ch b o (by simpa using ne) (by rw[aK ne];exact hb)
 exists⟨⟨x,dx,_,rfl,tb1.ins,rfl⟩,?_⟩
 exists⟨x,dx,m,pa,tb,ts,T,p,rfl,cs,tb1,?_⟩
 left
 by_cases h200:200<nT T p 0 T.length
 ·refine jD (decide_eq_true (by show((nT T p 0 T.length:Nat):Int)>200;ac_nf)) ?_
  left
  exact⟨dH,q2 h200 G1 ge1⟩
 refine nZ (decide_eq_false (by show¬((nT T p 0 T.length:Nat):Int)>200;ac_nf)) ?_
 exists⟨⟨x,dx,_,rfl,tb1.ins,rfl⟩,?_⟩
 exists⟨x,dx,m,pa,tb,ts,T,p,rfl,cs,tb1,?_⟩
 exists⟨by ac_nf,by ac_nf,?_⟩
 intro acc hacc
 have hwl:(vI T p).length=nT T p 0 T.length:=Dk T p
 have hil:(nY 0 ((nT T p 0 T.length:Nat):Int).toNat).length=nT T p 0 T.length:=by unfold nY;simp
 refine⟨λi ys Gi=>ys=((vI T p).take i).map (λt=>fI t.1)/\GE G1 Gi/\Gi acc=some (.lst ys),⟨by simp,GE.refl.new hacc,ao⟩,?_,?_,?_⟩
 ·rintro i ys Gi hi ⟨rfl,ge,ga⟩
  refine⟨trivial,ga,?_⟩
  rw[aB,bz];ac_nf
 ·rintro i ys Gi y hy ⟨rfl,ge,ga⟩
  have hi2:=(aj.mp hy).1
  rw[hil]at hi2
  have ey:y= .int (i:Int):=by
   unfold nY at hy
   rw[aI,eQ (by rw[qr];exact hi2)]at hy
   cases hy
   show PV.int (0+(i:Int))=_
   rw[Int.zero_add]
  subst ey
  refine jD rfl ?_
  left
  intro xb dxb hxb hdxb ndb
  refine⟨xb,dxb,(i:Int),rfl,ao,rfl,?_⟩
  rw[ia]
  have lz:GE Gi (up Gi xb (.ins CB dxb [("left",.int (i:Int))])):=GE.refl.new hxb
  left
  intro xd dxd hxd hdxd ndd
  refine⟨xd,dxd,x,xb,rfl,ao,rfl,?_⟩
  rw[ia]
  have ge3:GE Gi (up (up Gi xb (.ins CB dxb [("left",.int (i:Int))])) xd (.ins CD dxd (yF x xb 0))):=lz.new hxd
  have nbd:xb≠xd:=(bt ao hxd)
  have Dn:Ds CD CC CB (up (up Gi xb (.ins CB dxb [("left",.int (i:Int))])) xd (.ins CD dxd (yF x xb 0))) xd x xb T p i 0 dxd dxb dx m pa tb ts:=⟨ao,by rw[aK nbd,ao],(tb1.ge ge).ge ge3,cs,har⟩
  exists⟨⟨xd,dxd,_,rfl,ao,rfl⟩,?_⟩
  exists⟨xd,x,xb,dxd,dxb,dx,m,pa,tb,ts,T,p,i,rfl,Dn,hd,hi2,λt e' r G' hp ch'=> ?_⟩
  rw[pF]at hp
  change ((vI T p)[i]?).map _=_ at hp
  have hxb1:G1 xb=none:=none_of ge hxb
  have hxd1:G1 xd=none:=none_of (ge.trans lz) hxd
  have ge4:GE G1 G':=λb o hb=>ch' b o (by
   have e1:=bt hb hxb1
   have e2:=bt hb hxd1
   simp[e1,e2]) (ge3 _ _ (ge _ _ hb))
  have nab:acc≠xb:=bt ga hxb
  have nad:acc≠xd:=bt (lz _ _ ga) hxd
  have ga4:G' acc=some (.lst (((vI T p).take i).map λt=>fI t.1)):=ch' acc _ (by simp[nab,nad]) (ge3 _ _ ga)
  cases hw:(vI T p)[i]? with
  |none=>rw[hw]at hp;cases hp
  |some tt=>
   rw[hw]at hp
   cases hp
   refine⟨ga4,?_,ge4.mod hacc,ao⟩
   rw[cO,hw,bD]
   rfl
 ·rintro ys Gi ⟨rfl,ge,ga⟩
  rw[hil,<-hwl,ce]at ga
  exact⟨_,GE.refl,q1 (by ac_nf) acc Gi (none_of ge1 hacc) ga (ge1.trans ge)⟩
end
noncomputable abbrev Ab:Stmt:=top 16
noncomputable abbrev rN:Stmt:=top 17
noncomputable abbrev oG:Stmt:=top 18
noncomputable abbrev lN:Stmt:=top 19
noncomputable abbrev rR:Stmt:=top 28
noncomputable abbrev vD:Stmt:=top 29
noncomputable abbrev wZ:Stmt:=top 30
noncomputable abbrev Dh:Stmt:=top 31
noncomputable abbrev Mr:Stmt:=top 32
noncomputable abbrev L9:Stmt:=top 33
noncomputable abbrev Ma:Stmt:=top 34
noncomputable abbrev wX:Stmt:=top 35
noncomputable def yU:gP:=λ_ _ _=>False
@[reducible] noncomputable def cJ:List Str:=["first", "shy", "long", "short", "cheap"]
theorem mw{ts:List Tr}{i:Nat}{t:Tr}(h:ts[i]? =some t):mW (c8 ts) (i:Int)=some (fI t):=by
 refine bX ?_
 rw[dS,aI,h];rfl
@[reducible] noncomputable def Ke:PV->Bool
 | .tup [.str k,_]=>k== "sign"
 |_=>false
@[reducible] noncomputable def MV:PV->PV
 | .tup [_,y]=>y
 |_=> .non
theorem Ay:∀l:List Tr,((c8 l).filter Ke).map MV=(l.filterMap GP).map PV.str
 |[]=>rfl
 |c::l=>by
  have ih:=Ay l
  show((fI c::c8 l).filter Ke).map MV=_
  cases c with
  |sign s=>
   rw[jH (by rfl),aD,ih];rfl
  |_=>rw[jI (by simp only[fI,Ke];decide),ih];rfl
theorem Fj{t u:Tr}(d:qQ t<=40):iP (fI t) (fI u)=true↔t=u:=
 ⟨ku t u,λh=>by subst h;exact u0 100 (fI t) (gu t 100 (by ac_nf))⟩
theorem LF{t u:Tr}{G:Gp}{Q:K2}(d1:qQ t<=40)(d2:qQ u<=40)(q:Q (.bl (iP (fI t) (fI u))) G):LG (fI t) (fI u) G Q:=by
 have h1:=gu t 100 (by ac_nf)
 have h2:=gu u 100 (by ac_nf)
 obtain⟨xs,e1⟩:=kq t
 obtain⟨ys,e2⟩:=kq u
 rw[e1]at h1 q⊢
 rw[e2]at h2 q⊢
 exact⟨h1,h2,q⟩
theorem KO{t u:Tr}{G:Gp}{Q:K2}(d1:qQ t<=40)(d2:qQ u<=40)(q:Q (.bl (!iP (fI t) (fI u))) G):Jz (fI t) (fI u) G Q:=by
 have h1:=gu t 100 (by ac_nf)
 have h2:=gu u 100 (by ac_nf)
 obtain⟨xs,e1⟩:=kq t
 obtain⟨ys,e2⟩:=kq u
 rw[e1]at h1 q⊢
 rw[e2]at h2 q⊢
 exact⟨h1,h2,q⟩
@[reducible] noncomputable def Kp:PV->Bool
 | .tup [.str k,_,_]=>k== "price"
 |_=>false
@[reducible] noncomputable def Nk:PV->PV
 | .tup [_,y,_]=>y
 |_=> .non
theorem A0:∀l:List Tr,((c8 l).filter Kp).map Nk=(l.filterMap FV).map PV.int
 |[]=>rfl
 |c::l=>by
  have ih:=A0 l
  show((fI c::c8 l).filter Kp).map Nk=_
  cases c with
  |price n t=>
   rw[jH (by rfl),aD,ih];rfl
  |_=>rw[jI (by simp only[fI,Kp];decide),ih];rfl
section
variable{P:aF}{w:aS}{K:PySem.W.Frag}{mg:Str->Option ae}{base:Heap}{f fi:Addr}{fd dn di:aR}
theorem AF:bn ["tree", "kind"] ["tree"] (aL Ab):=⟨rfl,rfl,rfl,by decide+kernel,rfl,by decide+kernel,by decide+kernel⟩
noncomputable def vR:gP:=λps G Q=>∃t,ps=[fI t]/\Q (.tup (c8 (lp t))) G
theorem Er(F:Fun K "inner_trees" "inner_trees" Ab f fd)(B:BN mg):ic P w K mg base 1 f fd ["tree"] vR:=by
 have nd:=AF.nd
 refine kG F AF (λvs G Q h=> ?_) (λcdv A outer s H E as G Q hr h=> ?_)
 ·obtain⟨p,rfl,_⟩:=h
  rfl
 have hU:=en hr
 apply iW
 case a=>symm
 obtain⟨t,rfl,q⟩:=h
 cases t with
 |blank=>exact⟨dH,rfl,rfl,dH,rfl,rfl,dH,G,GE.refl,q⟩
 |sign s=>exact⟨dH,rfl,rfl,dH,rfl,rfl,dH,G,GE.refl,q⟩
 |row ps=>exact⟨dH,rfl,rfl,G,GE.refl,q⟩
 |again ps=>exact⟨dH,rfl,rfl,G,GE.refl,q⟩
 |pick k p=>exact⟨dH,rfl,rfl,dH,rfl,rfl,dH,G,GE.refl,q⟩
 |held n p=>exact⟨dH,rfl,rfl,dH,rfl,rfl,dH,G,GE.refl,q⟩
 |price n p=>exact⟨dH,rfl,rfl,dH,rfl,rfl,dH,G,GE.refl,q⟩
theorem uf:bn ["tree", "found", "waiting", "inner"] ["tree"] (aL rN):=⟨rfl,rfl,rfl,by decide+kernel,rfl,by decide+kernel,by decide+kernel⟩
noncomputable def l6:gP:=λps G Q=>∃t,ps=[fI t]/\r9 t<=900000/\∀c,G c=none->Q (.ref c) (up G c (.lst (c8 (qt t))))
theorem Ak(ts:List Tr):(fG ts).length=gn ts:=by
 induction ts with
 |nil=>rfl
 |cons a l ih=>simp only[fG,aM,gn];rw[lY _ a (aq _),ih]
theorem y7(F:Fun K "trees_within" "trees_within" rN f fd)(B:BN mg)(C:cE P w K mg base 1 "inner_trees" fi di ["tree"] vR):ic P w K mg base 2 f fd ["tree"] l6:=by
 have nd:=uf.nd
 refine kG F uf (λvs G Q h=> ?_) (λcdv A outer s H E as G Q hr h=> ?_)
 ·obtain⟨p,rfl,_⟩:=h
  rfl
 have hU:=en hr
 apply iW
 case a=>symm
 obtain⟨p,rfl,hz,q⟩:=h
 refine⟨dH,λm hm=>⟨dH,λv hv=> ?_⟩⟩
 obtain⟨hvm,hv⟩:=bT hv
 refine⟨λk τ G'=>∃(dn st:List Tr) (z:Option PV),τ=[some (fI p),some (.ref m),some (.ref v),z]/\G' m=some (.lst (c8 dn))/\G' v=some (.lst (c8 st.reverse))/\GE G G'/\dn++fG st=qt p/\k=gn st,
  ⟨_,[],[p],.none,rfl,by rw[aK (aG hvm),ao];rfl,by rw[ao];rfl,(GE.refl.new hm).mod hv,by simp[fG],rfl⟩,?_⟩
 rintro k τ G' ⟨dn,st,z,rfl,gm,gv,ge,he,rfl⟩
 have hl:dn.length+gn st=r9 p:=by
  have:=congrArg lJ he
  rwa [aM,Ak,lY _ p (aq _)]at this
 refine uF (a9 gv) ?_
 cases st with
 |nil=>
  have hd:dn=qt p:=by simpa [fG]using he
  subst hd
  exact⟨_,ge.at gm,q m hm⟩
 |cons x st=>
  have ln:(c8 (x::st).reverse).length=st.length+1:=by rw[eO,cf];rfl
  have hs:gn (x::st)=r9 x+gn st:=rfl
  have hx:=oH x
  have hi:=pe (lp x)
  have hst:=pe st
  rw[show c8 (x::st).reverse=c8 st.reverse++[fI x]by rw[fJ,gR];rfl]at gv ln⊢
  refine jD ?_ ?_
  ·refine decide_eq_true ?_
   rw[ln];ac_nf
  refine⟨⟨_,gv⟩,FW gv ?_⟩
  refine⟨⟨c8 dn,by rw[aK (aG hvm)];exact gm⟩,i8 (by rw[aK (aG hvm)];exact gm) (by rw[eO];ac_nf) ?_⟩
  refine⟨⟨_,by rw[aK hvm,ao]⟩,x,rfl,Cm (by rw[aK hvm,ao]) ?_ ?_⟩
  ·rw[cf,eO,eO,cf];ac_nf
  refine⟨gn (lp x++st),?_,dn++[x],lp x++st,_,rfl,?_,?_,((ge.mod hv).mod hm).mod hv,?_,rfl⟩
  ·rw[tN];ac_nf
  ·rw[aK (aG hvm),ao,gR];rfl
  ·rw[ao,List.reverse_append,gR,sS (lp x)]
  ·rw[tT]
   rw[<-he]
   simp[fG,lZ x]
theorem ui:bn ["tree"] ["tree"] (aL oG):=⟨rfl,rfl,rfl,by decide+kernel,rfl,by decide+kernel,by decide+kernel⟩
theorem Cu:fq (aL oG) ["tree"] (jo [(".0",.local),("inner",.local)]) ["inner"] [none] 0 "inner" =true:=by decide+kernel
noncomputable def l7:gP:=λps G Q=>∃t,ps=[fI t]/\wt t/\r9 t<=900000/\Q (.str (tx t)) G
theorem GO{l:List Tr}(h:∀c∈l,Mb c):((l.filterMap GP).map (·.length)).sum<=l.length:=by
 have:=xx h
 unfold gG at this
 rw[List.length_flatten,cF]at this
 refine aZ (Nat.le_of_eq ?_) this
 congr 1
theorem za(F:Fun K "text_of" "text_of" oG f fd)(B:BN mg)(C:cE P w K mg base 2 "trees_within" fi di ["tree"] l6):ic P w K mg base 3 f fd ["tree"] l7:=by
 have nd:=ui.nd
 refine kG F ui (λvs G Q h=> ?_) (λcdv A outer s H E as G Q hr h=> ?_)
 ·obtain⟨p,rfl,_⟩:=h
  rfl
 have hU:=en hr
 apply iW
 case a=>
  symm
  all_goals try (refine' lx Cu rfl ?_ λ_ _ _ _=>⟨?_,?_⟩)
  all_goals symm
 obtain⟨t,rfl,hw,hz,q⟩:=h
 exists⟨t,rfl,hz,λl hl=> ?_⟩
 left
 rw[jY]
 left
 intro acc hacc
 have nla:=bt (G:=up G l (.lst (c8 (qt t)))) ao hacc
 have hln:=lY _ t (aq _)
 refine i7 Ke MV (by rw[eO];ac_nf) (λys=>a9 (by rw[aK nla,ao])) (λx ys R hx r=> ?_) (λx ys R hx hs r=> ?_) ?_
 ·rw[dS]at hx
  obtain⟨c,_,rfl⟩:=ay.mp hx
  cases c<;>exact⟨rfl,rfl,r⟩
 ·rw[dS]at hx
  obtain⟨c,_,rfl⟩:=ay.mp hx
  cases c with
  |sign s=>exact r
  |_=>exact absurd hs (by simp only[fI,Ke];decide)
 exists EM (zs:=(qt t).filterMap GP) (a9 (by rw[ao,Ay])) ?_ ?_
 ·have:=GO hw
  have e:(aY "").length=0:=rfl
  rw[e,Nat.mul_zero]
  ac_nf
 rw[BX]
 exact⟨G,(GE.refl.new hl).new hacc,q⟩
theorem xR:bn ["ones", "others", "at"] ["ones", "others"] (aL vD):=⟨rfl,rfl,rfl,by decide+kernel,rfl,by decide+kernel,by decide+kernel⟩
noncomputable def oM:gP:=λps G Q=>∃c s r:List Tr,ps=[.tup (c8 (c++s)),.tup (c8 (c++r))]/\(∀a b s' r',s=a::s'->r=b::r'->a≠b)/\(∀t,t∈c++s\/t∈c++r->qQ t<=40)/\Q (.int (c.length:Nat)) G
theorem Bu(F:Fun K "first_unlike" "first_unlike" vD f fd)(B:BN mg):ic P w K mg base 1 f fd ["ones", "others"] oM:=by
 have nd:=xR.nd
 have hUE:=kI.mk
 refine kG F xR (λvs G Q h=> ?_) (λcdv A outer s H E as G Q hr h=> ?_)
 ·obtain⟨_,_,_,rfl,_⟩:=h
  rfl
 have hU:=en hr
 apply iW
 case a=>symm
 obtain⟨c,s',r,rfl,hne,hdp,q⟩:=h
 exists⟨λm τ G'=>∃i:Nat,τ=[some (.tup (c8 (c++s'))),some (.tup (c8 (c++r))),some (.int (i:Nat))]/\G'=G/\i<=c.length/\m=c.length-i,⟨c.length,0,rfl,rfl,cg _,rfl⟩,?_⟩
 rintro m τ G' ⟨i,rfl,rfl,hi,rfl⟩
 have l1:(c8 (c++s')).length=c.length+s'.length:=by rw[eO,aM]
 have l2:(c8 (c++r)).length=c.length+r.length:=by rw[eO,aM]
 have fin:∃G0,GE G0 G'/\(i=c.length->Q (.int (i:Nat)) G0):=⟨G',GE.refl,λe=>by rw[e];exact q⟩
 have ret:i=c.length->∃G0,GE G0 G'/\Q (.int (i:Nat)) G0:=λe=>⟨G',GE.refl,by rw[e];exact q⟩
 exists ny ?_
 rw[l1]
 exists Mh (λh1=> ?_) (λh1=> ?_)
 ·have h1':=of_decide_eq_true h1
  exists ny ?_
  rw[l2]
  exists Mh (λh2=> ?_) (λh2=> ?_)
  ·have h2':=of_decide_eq_true h2
   have b1:i<(c++s').length:=by rw[aM];ac_nf
   have b2:i<(c++r).length:=by rw[aM];ac_nf
   exists ib (mw (ak b1)) ?_
   exists ib (mw (ak b2)) ?_
   exists LF (hdp _ (.inl (jF b1))) (hdp _ (.inr (jF b2))) ?_
   left
   by_cases hc:i<c.length
   ·refine jD ?_ ?_
    ·rw[Fj (hdp _ (.inl (jF b1))),vq hc,vq hc]
    ·left
     exact⟨c.length-(i+1),by ac_nf,i+1,rfl,rfl,by ac_nf,rfl⟩
   ·have e:i=c.length:=by ac_nf
    refine nZ ?_ ?_
    ·refine yD ?_
     rw[vh (by ac_nf),vh (by ac_nf)]
     cases s' with
     |nil=>exact absurd h1' (by simp only[iw];ac_nf)
     |cons a s2=>
      cases r with
      |nil=>exact absurd h2' (by simp only[iw];ac_nf)
      |cons b r2=>
       have:=hne a b s2 r2 rfl rfl
       simp only[e,Nat.sub_self,List.getElem_cons_zero]
       exact this
    ·exact ret e
  ·have h2':=of_decide_eq_false h2
   left
   exact ret (by ac_nf)
 ·have h1':=of_decide_eq_false h1
  left
  exact ret (by ac_nf)
theorem qV:bn ["tree"] ["tree"] (aL lN):=⟨rfl,rfl,rfl,by decide+kernel,rfl,by decide+kernel,by decide+kernel⟩
theorem zM:fq (aL lN) ["tree"] (jo [(".0",.local),("inner",.local)]) ["inner"] [none] 0 "inner" =true:=by decide+kernel
noncomputable def kg:gP:=λps G Q=>∃t,ps=[fI t]/\r9 t<=900000/\Q (.int (zL t)) G
theorem wd(F:Fun K "price_of" "price_of" lN f fd)(B:BN mg)(C:cE P w K mg base 2 "trees_within" fi di ["tree"] l6):ic P w K mg base 3 f fd ["tree"] kg:=by
 have nd:=qV.nd
 refine kG F qV (λvs G Q h=> ?_) (λcdv A outer s H E as G Q hr h=> ?_)
 ·obtain⟨p,rfl,_⟩:=h
  rfl
 have hU:=en hr
 apply iW
 case a=>
  symm
  all_goals try (refine' lx zM rfl ?_ λ_ _ _ _=>⟨?_,?_⟩)
  all_goals symm
 obtain⟨t,rfl,hz,q⟩:=h
 exists⟨t,rfl,hz,λl hl=> ?_⟩
 left
 rw[jY]
 left
 intro acc hacc
 have nla:=bt (G:=up G l (.lst (c8 (qt t)))) ao hacc
 have hln:=lY _ t (aq _)
 refine i7 Kp Nk (by rw[eO];ac_nf) (λys=>a9 (by rw[aK nla,ao])) (λx ys R hx r=> ?_) (λx ys R hx hs r=> ?_) ?_
 ·rw[dS]at hx
  obtain⟨c,_,rfl⟩:=ay.mp hx
  cases c<;>exact⟨rfl,rfl,r⟩
 ·rw[dS]at hx
  obtain⟨c,_,rfl⟩:=ay.mp hx
  cases c with
  |price n s=>exact r
  |_=>exact absurd hs (by simp only[fI,Kp];decide)
 exists At (ns:=(qt t).filterMap FV) (a9 (by rw[ao,A0])) ?_
 rw[yH _ t (aq _)]
 exact⟨G,(GE.refl.new hl).new hacc,q⟩
end
noncomputable def iB(x:Int×Nat):Tr:= .pick x.1 (.sign ⟨#[x.2]⟩)
noncomputable def DH(l:List (Int×Nat)):Tr:= .row (l.map iB)
theorem v8(x:Int×Nat):wt (iB x):=Ae trivial λc hc=>by
 obtain rfl:c= .sign ⟨#[x.2]⟩:=aC.mp hc
 exact Ae rfl λc hc=>nomatch hc
theorem AN(l:List (Int×Nat)):wt (DH l):=Ae trivial λc hc=>by
 obtain⟨x,_,rfl⟩:=ay.mp (show c∈l.map iB from hc)
 exact v8 x
theorem v9(x:Int×Nat):qQ (iB x)<=40:=by
 have h:qQ (iB x)=2:=rfl
 ac_nf
theorem xX:∀l:List (Int×Nat),gn (l.map iB)=2*l.length
 |[]=>rfl
 |x::l=>by
  show r9 (iB x)+gn (l.map iB)=_
  rw[xX l,aX]
  show 2+2*l.length=_
  ac_nf
theorem AO(l:List (Int×Nat)):r9 (DH l)=1+2*l.length:=by
 show 1+gn (l.map iB)=_
 rw[xX]
theorem xW:∀l:List (Int×Nat),(gG (fG (l.map iB))).length=l.length
 |[]=>rfl
 |x::l=>by
  show(gG (qt (iB x)++fG (l.map iB))).length=_
  unfold gG
  have ih:=xW l
  unfold gG at ih
  rw[gZ,bD,List.flatten_append,aM,ih]
  show 1+l.length=_
  rw[aX]
  ac_nf
theorem sy(l:List (Int×Nat)):(tx (DH l)).length=l.length:=by
 have:(tx (DH l)).length=(tH (DH l)).length:=by unfold tx;simp[Str.length]
 rw[this]
 exact xW l
theorem sB(x:Int×Nat):(tx (iB x)).length=1:=by
 have:(tx (iB x)).length=(tH (iB x)).length:=by unfold tx;simp[Str.length]
 rw[this]
 rfl
theorem uo:∀l:List (Int×Nat),sZ (l.map iB)=0
 |[]=>rfl
 |x::l=>by
  show zL (iB x)+sZ (l.map iB)=0
  rw[uo l]
  rfl
theorem xY(l:List (Int×Nat)):zL (DH l)=0:=uo l
inductive Rl:Str->Tr->Tr->Bool->Nat->Prop
 |pick (z:Str) (x y:Int×Nat):x.1≠y.1->Rl z (iB x) (iB y) (decide (x.1<y.1)) (if z= "cheap" then 2 else 1)
 |row (z:Str) (c s r:List (Int×Nat)) (x y:Int×Nat):x.1≠y.1->s.length=r.length->(c++x::s).length<=100->Rl z (DH (c++x::s)) (DH (c++y::r)) (decide (x.1<y.1)) (if z= "cheap" then 4 else 3)
structure RlF(t u:Tr):Prop where
 w1:wt t
 w2:wt u
 z1:r9 t<=900000
 z2:r9 u<=900000
 l1:(tx t).length=(tx u).length
 l2:(tx t).length<=1000
 c1:zL t=0
 c2:zL u=0
theorem Rl.facts{z:Str}{t u:Tr}{b:Bool}{m:Nat}(h:Rl z t u b m):RlF t u:=by
 cases h with
 |pick x y hn=>exact⟨v8 x,v8 y,by show 2<=900000;ac_nf,by show 2<=900000;ac_nf,by rw[sB,sB],by rw[sB];ac_nf,rfl,rfl⟩
 |row c s r x y hn hl hm=>
  have e:(c++x::s).length=(c++y::r).length:=by simp[hl]
  exact⟨AN _,AN _,by rw[AO];ac_nf,by rw[AO];ac_nf,by rw[sy,sy,e],by rw[sy];ac_nf,xY _,xY _⟩
section
variable{P:aF}{w:aS}{K:PySem.W.Frag}{mg:Str->Option ae}{base:Heap}{f fn fi ft fa fs fp fl:Addr}{fd dn di dt da ds dp dl:aR}
noncomputable def ot(n:Nat):gP:=λps G Q=>∃(z:Str) (t u:Tr) (b:Bool) (m:Nat),ps=[.str z,fI t,fI u]/\z∈cJ/\Rl z t u b m/\m<=n/\Q (.bl b) G
noncomputable def vT(n:Nat):gP:=λps G Q=>∃(z:Str) (c s r:List (Int×Nat)) (x y:Int×Nat),ps=[.str z,.tup (c8 ((c++x::s).map iB)),.tup (c8 ((c++y::r).map iB))]/\z∈cJ/\z≠ "cheap" /\x.1≠y.1/\1<=n/\Q (.bl (decide (x.1<y.1))) G
theorem AH:bn ["taste", "ones", "others", "at"] ["taste", "ones", "others"] (aL wZ):=⟨rfl,rfl,rfl,by decide+kernel,rfl,by decide+kernel,by decide+kernel⟩
theorem BH{c s:List Tr}{a:Tr}:(c++a::s)[c.length]? =some a:=by simp
theorem A4{x y:Int×Nat}(h:x.1≠y.1):iB x≠iB y:=λz=>by unfold iB at z;injection z with z;exact h z
theorem Ep{n k:Nat}(hk:1<=k)(F:Fun K "is_row_ahead" "is_row_ahead" wZ f fd)(B:BN mg)(C1:cE P w K mg base 1 "first_unlike" fi di ["ones", "others"] oM)(C:cE P w K mg base k "is_unlike_ahead" fa da ["taste", "one", "other"] (ot n)):ic P w K mg base (k+1) f fd ["taste", "ones", "others"] (vT n):=by
 have nd:=AH.nd
 have hUE:=kI.mk
 refine kG F AH (λvs G Q h=> ?_) (λcdv A outer s H E as G Q hr h=> ?_)
 ·obtain⟨_,_,_,_,_,_,rfl,_⟩:=h
  rfl
 have hU:=en hr
 apply iW
 case a=>symm
 obtain⟨z,c,s',r,x,y,rfl,hz,hzc,hxy,h1,q⟩:=h
 have e1:(c++x::s').map iB=c.map iB++iB x::s'.map iB:=by simp
 have e2:(c++y::r).map iB=c.map iB++iB y::r.map iB:=by simp
 rw[e1,e2]
 exists⟨c.map iB,iB x::s'.map iB,iB y::r.map iB,rfl,λ_ _ _ _ e1 e2=>by cases e1;cases e2;exact A4 hxy,λt ht=> ?_,?_⟩
 ·rw[<-e1,<-e2]at ht
  rcases ht with ht|ht
  all_goals
   obtain⟨x,_,rfl⟩:=ay.mp ht
   exact v9 x
 exists ib (mw BH) ?_
 exists ib (mw BH) ?_
 refine⟨z,iB x,iB y,_,_,rfl,hz,.pick z x y hxy,by rw[if_neg hzc];exact h1,?_⟩
 exact⟨_,GE.refl,q⟩
noncomputable abbrev nUn:List Str:=["taste", "one", "other", "lengths", "prices", "kind"]
theorem Kf:bn nUn ["taste", "one", "other"] (aL L9):=⟨rfl,rfl,rfl,by decide+kernel,rfl,by decide+kernel,by decide+kernel⟩
theorem nng{a:Int}:(!(a==a))=false:=by simp
theorem Ky{n k:Nat}(hk:3<=k)(F:Fun K "is_unlike_ahead" "is_unlike_ahead" L9 f fd)(B:BN mg)(CT:cE P w K mg base 3 "text_of" ft dt ["tree"] l7)(CP:cE P w K mg base 3 "price_of" fp dp ["tree"] kg)(CL:cE P w K mg base 1 "is_length_ahead" fl dl ["taste", "one", "other"] yU)
  (CR:cE P w K mg base k "is_row_ahead" fi di ["taste", "ones", "others"] (vT n)) (CA:cE P w K mg base 1 "is_again_ahead" fn dn ["taste", "ones", "others"] yU) (C:cE P w K mg base k "is_unlike_ahead" fa da ["taste", "one", "other"] (ot n)):ic P w K mg base (k+1) f fd ["taste", "one", "other"] (ot (n+1)):=by
 have nd:=Kf.nd
 have hUE:=kI.mk
 have h1k:1<=k:=by ac_nf
 refine kG F Kf (λvs G Q h=> ?_) (λcdv A outer s H E as G Q hr h=> ?_)
 ·obtain⟨_,_,_,_,_,rfl,_⟩:=h
  rfl
 have hU:=en hr
 apply iW
 case a=>symm
 obtain⟨z,t,u,b,m,rfl,hz,rl,hm,q⟩:=h
 have fx:=rl.facts
 have hz':=hz
 simp only[cJ,aA,aP,or_false]at hz'
 rcases hz' with rfl|rfl|rfl|rfl|rfl
 iterate 2
  ·cases rl with
   |row c s' r x y hn hl hmm=>
    have hm:3<=n+1:=hm
    refine⟨dH,rfl,rfl,rfl,rfl,rfl,rfl,?_⟩
    refine jD rfl ?_
    refine⟨_,c,s',r,x,y,rfl,hz,by decide,hn,by ac_nf,?_⟩
    exact⟨_,GE.refl,q⟩
   |pick x y hn=>
    refine⟨dH,rfl,rfl,rfl,rfl,rfl,rfl,rfl,rfl,rfl,rfl,?_⟩
    refine jD rfl ?_
    refine⟨rfl,rfl,?_⟩
    refine jD (by show(!(x.1==y.1))=true;simp only[gQ,beq_eq_false_iff_ne];exact hn) ?_
    exact⟨_,GE.refl,q⟩
 iterate 2
  ·left
   refine⟨dH,?_⟩
   refine⟨rfl,rfl,?_⟩
   refine jD (by decide) ?_
   exists⟨t,rfl,fx.w1,fx.z1,?_⟩
   refine⟨by have:=fx.l2;ac_nf,?_⟩
   exists⟨u,rfl,fx.w2,fx.z2,?_⟩
   refine⟨by have:=fx.l2;have:=fx.l1;ac_nf,?_⟩
   rw[fx.l1]
   refine⟨dH,?_⟩
   exists⟨rfl,rfl,?_⟩
   refine nZ nng ?_
   cases rl with
   |row c s' r x y hn hl hmm=>
    have hm:3<=n+1:=hm
    refine⟨rfl,rfl,rfl,rfl,?_⟩
    refine jD rfl ?_
    refine⟨_,c,s',r,x,y,rfl,hz,by decide,hn,by ac_nf,?_⟩
    exact⟨_,GE.refl,q⟩
   |pick x y hn=>
    refine⟨rfl,rfl,rfl,rfl,rfl,rfl,rfl,rfl,?_⟩
    refine jD rfl ?_
    refine⟨rfl,rfl,?_⟩
    refine jD (by show(!(x.1==y.1))=true;simp only[gQ,beq_eq_false_iff_ne];exact hn) ?_
    exact⟨_,GE.refl,q⟩
 ·refine⟨dH,rfl,rfl,rfl,rfl,?_⟩
  refine jD rfl ?_
  exists⟨t,rfl,fx.z1,?_⟩
  refine⟨u,rfl,fx.z2,?_⟩
  rw[fx.c1,fx.c2]
  refine⟨dH,?_⟩
  refine⟨rfl,rfl,?_⟩
  refine nZ rfl ?_
  left
  cases rl with
  |row c s' r x y hn hl hmm=>
   have hm:4<=n+1:=hm
   refine⟨"first",_,_,_,3,rfl,by decide,.row "first" c s' r x y hn hl hmm,by ac_nf,?_⟩
   exact⟨_,GE.refl,q⟩
  |pick x y hn=>
   have hm:2<=n+1:=hm
   refine⟨"first",_,_,_,1,rfl,by decide,.pick "first" x y hn,by ac_nf,?_⟩
   exact⟨_,GE.refl,q⟩
theorem rc(F:Fun K "is_unlike_ahead" "is_unlike_ahead" L9 fa da)(FR:Fun K "is_row_ahead" "is_row_ahead" wZ fi di)(B:BN mg)(bU:Binds K da ["taste", "one", "other"] [])(kU:PySem.W.keepIn K (.ref fa)=true)(mU:mg "is_unlike_ahead" =some (.ref fa))(bR:Binds K di ["taste", "ones", "others"] [])(kR:PySem.W.keepIn K (.ref fi)=true)(mR:mg "is_row_ahead" =some (.ref fi))
  (C1:cE P w K mg base 1 "first_unlike" fs ds ["ones", "others"] oM) (CT:cE P w K mg base 3 "text_of" ft dt ["tree"] l7) (CP:cE P w K mg base 3 "price_of" fp dp ["tree"] kg) (CL:cE P w K mg base 1 "is_length_ahead" fl dl ["taste", "one", "other"] yU) (CA:cE P w K mg base 1 "is_again_ahead" fn dn ["taste", "ones", "others"] yU):∀n,ic P w K mg base (3+2*n) fa da ["taste", "one", "other"] (ot n)
 |0=>ml λas G Q h=>by
  obtain⟨z,t,u,b,m,_,_,rl,hm,_⟩:=h
  cases rl<;>split at hm<;>ac_nf
 |n+1=>by
  have ih:=rc F FR B bU kU mU bR kR mR C1 CT CP CL CA n
  have CU:cE P w K mg base (3+2*n) "is_unlike_ahead" fa da ["taste", "one", "other"] (ot n):=⟨ih,bU,kU,mU⟩
  have CR:cE P w K mg base (3+2*n+1) "is_row_ahead" fi di ["taste", "ones", "others"] (vT n):=⟨Ep (by ac_nf) FR B C1 CU,bR,kR,mR⟩
  have CU':cE P w K mg base (3+2*n+1) "is_unlike_ahead" fa da ["taste", "one", "other"] (ot n):=⟨ih.mono (by ac_nf),bU,kU,mU⟩
  have h3:3<=3+2*n+1:=by ac_nf
  exact Ky h3 F B CT CP CL CR CA CU'
theorem DE:bn ["taste", "one", "other"] ["taste", "one", "other"] (aL Ma):=⟨rfl,rfl,rfl,by decide+kernel,rfl,by decide+kernel,by decide+kernel⟩
end
@[reducible] noncomputable def DA:List Str:=["a", "ab", "az", "xyz"]
@[reducible] noncomputable def Ar:List (List Nat):=[[2,2],[2,3],[2,2,2],[3,2],[6,2],[3,3,2],[5,5,2,4],[6,6,6]]
noncomputable def q9(s:Str)(ns:List Nat):Pt:= .row (ns.map λn=> .pick (aE n (.sign s)))
noncomputable def re(s:Str):Nat:=s.cps.toList.getLastD 0
noncomputable def iK(s:Str)(ns:List Nat):List Nat:=aE ns.length (re s)
noncomputable def JC(c m:Nat):Tr->Bool
 | .row ts=>ts.length==m&&ts.all λt=>match t with
  | .pick _ (.sign s)=>s.cps.toList==[c]
  |_=>false
 |_=>false
noncomputable def arB:Pt->Bool
 | .row ps=>decide (1<=ps.length/\ps.length<=6)
 | .pick ps=>decide (1<=ps.length/\ps.length<=6)
 | .again _=>false
 |_=>true
noncomputable def chk(s:Str)(ns:List Nat):Bool:=
 decide ((iK s ns).length<=900)&&decide (size (q9 s ns)<=10000)&&decide (depth (q9 s ns)<=5)&&(makes (q9 s ns)).all arB&&
 ((makes (q9 s ns)).all λq=>(dC ((iK s ns).length+1)).all λe=>decide ((bq (iK s ns) q e).length<2^64))&&
 ((vI (iK s ns) (q9 s ns)).all λt=>JC (re s) ns.length t.1)&&
 (decide (200<nT (iK s ns) (q9 s ns) 0 (iK s ns).length)==decide (35<ns.getD 0 0*ns.getD 1 0))
theorem Fp:DA.all (λs=>Ar.all λns=>chk s ns)=true:=by decide+kernel
structure PtF(s:Str)(ns:List Nat):Prop where
 cs:Cs (iK s ns) (q9 s ns)
 ar:∀q∈makes (q9 s ns),NN q
 dp:depth (q9 s ns)<=5
 fm:∀t∈vI (iK s ns) (q9 s ns),JC (re s) ns.length t.1=true
 nt:decide (200<nT (iK s ns) (q9 s ns) 0 (iK s ns).length)=decide (35<ns.getD 0 0*ns.getD 1 0)
theorem uu{s:Str}{ns:List Nat}(hs:s∈DA)(hn:ns∈Ar):PtF s ns:=by
 have h:=bv.mp (bv.mp Fp s hs) ns hn
 unfold chk at h
 simp only[av]at h
 obtain⟨⟨⟨⟨⟨⟨h1,h2⟩,h3⟩,h4⟩,h5⟩,h6⟩,h7⟩:=h
 have h4':=bv.mp h4
 refine⟨⟨of_decide_eq_true h1,of_decide_eq_true h2,λq hq e he j=> ?_,λq hq=> ?_⟩,λq hq=> ?_,of_decide_eq_true h3,λt ht=>bv.mp h6 t ht,eq_of_beq h7⟩
 ·have:=of_decide_eq_true (bv.mp (bv.mp h5 q hq) e (lH.mpr (by ac_nf)))
  exact ja (List.countP_le_length) this
 ·have:=h4' _ hq
  cases this
 ·have:=h4' q hq
  cases q with
  |row ps=>exact of_decide_eq_true (p:=1<=ps.length/\ps.length<=6) this
  |pick ps=>exact of_decide_eq_true (p:=1<=ps.length/\ps.length<=6) this
  |_=>trivial
theorem yc(x:PV):∀n,(aE n [x]).flatten=aE n x
 |0=>rfl
 |n+1=>by rw[bF,cP,yc x n];rfl
theorem rq(q:Pt):∀n,eI (aE n q)=aE n (n5 q)
 |0=>rfl
 |n+1=>by rw[bF,bF,<-rq q n];rfl
noncomputable def FX(s:Str)(x:PV):PV:=match x with
 | .int n=> .tup [.str "pick",.tup (aE n.toNat [PV.tup [.str "sign",.str s]]).flatten]
 |_=> .non
theorem yE(s:Str):∀ns:List Nat,(ns.map dM).map (FX s)=eI (ns.map λn=> .pick (aE n (.sign s)))
 |[]=>rfl
 |n::ns=>by
  show FX s (dM n)::(ns.map dM).map (FX s)=n5 (.pick (aE n (.sign s)))::eI (ns.map _)
  rw[yE s ns]
  congr 1
  show PV.tup [.str "pick",.tup (aE n [PV.tup [.str "sign",.str s]]).flatten]= .tup [.str "pick",.tup (eI (aE n (.sign s)))]
  rw[yc,rq]
  rfl
theorem Ei(s:Str)(ns:List Nat):PV.tup [.str "row",.tup ((ns.map dM).map (FX s))]=n5 (q9 s ns):=by
 rw[yE]
 rfl
structure SgF(s:Str):Prop where
 len:s.length<=3
 la:mW s.cps.toList (-1)=some (re s)
 fi:∃c,mW s.cps.toList 0=some c
theorem Az{s:Str}(h:s∈DA):SgF s:=by
 simp only[DA,aA,aP,or_false]at h
 rcases h with rfl|rfl|rfl|rfl
 all_goals exact⟨by decide,rfl,_,rfl⟩
theorem Do:DA.all (λs=>Ar.all λns=>decide (AS ⟨#[re s]⟩ (ns.length:Int)=qC (iK s ns)))=true:=by decide+kernel
theorem Gx{s:Str}{ns:List Nat}(hs:s∈DA)(hn:ns∈Ar):AS ⟨#[re s]⟩ (ns.length:Int)=qC (iK s ns):=of_decide_eq_true (bv.mp (bv.mp Do s hs) ns hn)
structure SzF(ns:List Nat):Prop where
 len:ns.length<=4
 a0:mW (ns.map dM) 0=some (.int (ns.getD 0 0:Nat))
 a1:mW (ns.map dM) 1=some (.int (ns.getD 1 0:Nat))
 b0:ns.getD 0 0<=6
 b1:ns.getD 1 0<=6
 all:∀n∈ns,1<=n/\n<=6
theorem As{ns:List Nat}(h:ns∈Ar):SzF ns:=by
 simp only[Ar,aA,aP,or_false]at h
 rcases h with rfl|rfl|rfl|rfl|rfl|rfl|rfl|rfl
 all_goals exact⟨by decide,rfl,rfl,by decide,by decide,by decide⟩
noncomputable abbrev z8:Stmt:=top 37
noncomputable abbrev Aa:Stmt:=top 38
noncomputable abbrev vB:Stmt:=top 39
theorem ig{G:Gp}{a l:Addr}(p:Pool G a)(h:G l=none):l≠a:=λe=>by
 obtain⟨o,z⟩:=p.some
 subst e;rw[h]at z;cases z
section
variable{P:aF}{w:aS}{K:PySem.W.Frag}{mg:Str->Option ae}{base:Heap}{f fn:Addr}{fd dn:aR}
theorem AC:bn ["cell"] ["cell"] (aL z8):=⟨rfl,rfl,rfl,by decide+kernel,rfl,by decide+kernel,by decide+kernel⟩
theorem Em(F:Fun K "_law_pool" "_law_pool" z8 f fd)(B:BN mg):ic P w K mg base 1 f fd ["cell"] vQ:=by
 have nd:=AC.nd
 refine kG F AC (λvs G Q h=> ?_) (λcdv A outer s H E as G Q hr h=> ?_)
 ·obtain⟨p,rfl,_⟩:=h
  rfl
 have hU:=en hr
 apply iW
 case a=>symm
 obtain⟨c,rfl,q⟩:=h
 have cp:Jx 10 18:=⟨by decide,by decide,by decide⟩
 refine⟨cp,cp,(by decide:(0:Int)<10^18),dH,λa ha=>⟨_,GE.refl,q a _ ha ⟨_,_,0,ao,?_⟩ (Ch.refl.put (by simp))⟩⟩
 show(0:Int)<=if c-10^18>0 then c-10^18 else 0
 split<;>ac_nf
theorem AE:bn ["pool", "base", "digit", "near"] ["pool", "base"] (aL Aa):=⟨rfl,rfl,rfl,by decide+kernel,rfl,by decide+kernel,by decide+kernel⟩
theorem Eo(F:Fun K "_law_next" "_law_next" Aa f fd)(B:BN mg):ic P w K mg base 1 f fd ["pool", "base"] pB:=by
 have nd:=AE.nd
 refine kG F AE (λvs G Q h=> ?_) (λcdv A outer s H E as G Q hr h=> ?_)
 ·obtain⟨a,b,rfl,_⟩:=h
  rfl
 have hU:=en hr
 apply iW
 case a=>symm
 obtain⟨a,b,rfl,⟨x,y,z,ga,hx⟩,b1,b2,q⟩:=h
 exists cU (a9 ga) rfl ?_
 refine Mh (λhp=> ?_) (λhp=> ?_)
 ·left
  refine cU (i:=0) (a9 ga) rfl ?_
  refine⟨by ac_nf,?_⟩
  exists cU (i:=0) (a9 ga) rfl ?_
  refine⟨⟨by ac_nf,Int.le_trans b2 (by decide)⟩,?_⟩
  exists sv (k:=0) ga rfl ?_
  exact⟨_,GE.refl,q _ _ (lg _ (by ac_nf)) (jb _ (by ac_nf)) ⟨x/b,y,z,ao,Int.ediv_nonneg hx (by ac_nf)⟩ (Ch.refl.put (by simp))⟩
 ·left
  refine cU (i:=2) (a9 ga) rfl ?_
  exists sv (k:=2) ga rfl ?_
  exists cU (i:=1) (a9 ao) rfl ?_
  exists cU (i:=2) (a9 ao) rfl ?_
  refine⟨.inl ⟨by decide,by decide⟩,(by decide:(0:Int)<1000000007),?_⟩
  have n0:0<=(y+7919*(z+1))%1000000007:=lg _ (by decide)
  have n1:(y+7919*(z+1))%1000000007<1000000007:=jb _ (by decide)
  refine⟨.inl ⟨?_,?_⟩,(by decide:(0:Int)<998244353),?_⟩
  ·show-(2^64)<(y+7919*(z+1))%1000000007+11
   ac_nf
  ·show(y+7919*(z+1))%1000000007+11<2^64
   ac_nf
  generalize ((y+7919*(z+1))%1000000007+11)*((y+7919*(z+1))%1000000007+48271)=k
  have s0:0<=k%998244353:=lg _ (by decide)
  have s1:k%998244353<998244353:=jb _ (by decide)
  refine⟨.inl ⟨?_,?_⟩,(by decide:(0:Int)<2147483647),⟨by decide,by decide⟩,(by ac_nf:0<b),?_⟩
  ·show-(2^64)<k%998244353
   ac_nf
  ·show k%998244353<2^64
   ac_nf
  exact⟨_,GE.refl,q _ _ (lg _ (by ac_nf)) (jb _ (by ac_nf)) ⟨x,y,z+1,ao,hx⟩ (Ch.refl.put (by simp))⟩
theorem xP:bn ["pool", "some"] ["pool", "some"] (aL vB):=⟨rfl,rfl,rfl,by decide+kernel,rfl,by decide+kernel,by decide+kernel⟩
noncomputable def oJ:gP:=λps G Q=>∃(a:Addr) (y:PV),ps=[.ref a,y]/\Pool G a/\
 ((∃(l:Addr) (xs:List PV),y= .ref l/\l≠a/\G l=some (.lst xs)/\1<=xs.length/\xs.length<=1000/\∀x G',x∈xs->Pool G' a->Ch [a] G G'->Q x G')\/
  (∃z:Str,y= .str z/\1<=z.length/\z.length<=1000/\∀c G',c∈z.cps.toList->Pool G' a->Ch [a] G G'->Q (.str (Nl c)) G'))
theorem Bs(F:Fun K "_law_pick" "_law_pick" vB f fd)(B:BN mg)(C:cE P w K mg base 1 "_law_next" fn dn ["pool", "base"] pB):ic P w K mg base 2 f fd ["pool", "some"] oJ:=by
 have nd:=xP.nd
 refine kG F xP (λvs G Q h=> ?_) (λcdv A outer s H E as G Q hr h=> ?_)
 ·obtain⟨_,_,rfl,_⟩:=h
  rfl
 have hU:=en hr
 apply iW
 case a=>symm
 obtain⟨a,y,rfl,hp,⟨l,xs,rfl,nla,gl,h1,h2,q⟩|⟨z,rfl,h1,h2,q⟩⟩:=h
 ·left
  refine uF (a9 gl) ?_
  exists⟨a,xs.length,rfl,hp,by ac_nf,by ac_nf,λm G1 m0 m1 p1 c1=> ?_⟩
  obtain⟨x,ex,mx⟩:=wO (xs:=xs) m0 m1
  exists cU (a9 (c1 l _ (by simpa using nla) gl)) ex ?_
  exact⟨_,GE.refl,q x G1 mx p1 c1⟩
 ·left
  refine⟨by ac_nf,?_⟩
  refine⟨a,z.length,rfl,hp,by ac_nf,by ac_nf,λm G1 m0 m1 p1 c1=> ?_⟩
  obtain⟨c,ec,mc⟩:=wO (xs:=z.cps.toList) m0 (by rw[cS];exact m1)
  exists pU (by ac_nf) ec ?_
  exact⟨_,GE.refl,q c G1 mc p1 c1⟩
end
noncomputable def vf(x:PV)(G:Gp):Prop:=match x with
 | .ref a=>(∃xs,G a=some (.lst xs))\/(∃kvs,G a=some (.dK kvs))
 |x=>dj 100 x=true/\((cJ.map PV.str).any λy=>iP y x)=false
theorem tM:(cJ.map PV.str).all (λy=>match y with| .str _=>true|_=>false)=true:=rfl
theorem Ez{x:PV}{G:Gp}{Q:K2}(h:vf x G)(q:Q (.bl true) G):EA x (.tup (cJ.map PV.str)) G Q:=by
 refine⟨tM,?_⟩
 cases x with
 |ref a=>
  rcases h with⟨xs,h⟩|⟨xs,h⟩
  ·simp only[h];exact q
  ·simp only[h];exact q
 |_=>
  refine⟨h.1,?_⟩
  have e:=h.2
  rw[show(!(cJ.map PV.str).any λy=>iP y _)=true by rw[e];rfl]
  exact q
theorem BA{z:Str}{G:Gp}{Q:K2}(h:z∈cJ)(q:Q (.bl false) G):EA (.str z) (.tup (cJ.map PV.str)) G Q:=by
 refine⟨tM,?_⟩
 simp only[cJ,aA,aP,or_false]at h
 rcases h with rfl|rfl|rfl|rfl|rfl
 all_goals exact⟨rfl,q⟩
section
variable{P:aF}{w:aS}{K:PySem.W.Frag}{mg:Str->Option ae}{base:Heap}{f fi fa fs D:Addr}{fd di da ds:aR}
theorem oO:bn ["thing"] ["thing"] (aL rR):=⟨rfl,rfl,rfl,by decide+kernel,rfl,by decide+kernel,by decide+kernel⟩
noncomputable def oN:gP:=λps G Q=>∃z:Str,ps=[.str z]/\z∈cJ/\Q .non G
noncomputable def l9:vo:=λps G Q EX=>∃x:PV,ps=[x]/\vf x G/\∀G',GE G G'->EX G'
theorem zg(T:Fz K mg "TASTES" cJ)(xq:PySem.W.excIn K D rD "ValueError.__new__" =true)(hD:mg "NoTaste" =some (.ref D))(F:Fun K "check_taste" "check_taste" rR f fd)(B:BN mg):FC P w K mg base D 1 f fd ["thing"] l9:=by
 have nd:=oO.nd
 have hUE:=kI.mk
 refine LC F oO (λvs G Q EX h=> ?_) (λcdv A outer s H E as G Q EX hr h hX=> ?_)
 ·obtain⟨_,rfl,_⟩:=h
  rfl
 have hU:=en hr
 apply iW
 case a=>symm
 obtain⟨x,rfl,hb,q⟩:=h
 exists Ez hb ?_
 refine jD rfl ?_
 left
 exact⟨dH,q G GE.refl⟩
theorem Bw(T:Fz K mg "TASTES" cJ)(F:Fun K "check_taste" "check_taste" rR f fd)(B:BN mg):ic P w K mg base 1 f fd ["thing"] oN:=by
 have nd:=oO.nd
 have hUE:=kI.mk
 refine kG F oO (λvs G Q h=> ?_) (λcdv A outer s H E as G Q hr h=> ?_)
 ·obtain⟨_,rfl,_⟩:=h
  rfl
 have hU:=en hr
 apply iW
 case a=>
  symm
  any_goals exact K8
 obtain⟨z,rfl,hz,q⟩:=h
 exists BA hz ?_
 refine nZ rfl ?_
 exact⟨_,GE.refl,q⟩
noncomputable def GK:gP:=λps G Q=>∃(z:Str) (x y:Int×Nat),ps=[.str z,fI (iB x),fI (iB y)]/\z∈cJ/\x.1≠y.1/\Q (.bl (decide (x.1<y.1))) G
theorem KA{k:Nat}(hk:1<=k)(F:Fun K "is_ahead" "is_ahead" Ma f fd)(B:BN mg)(CC:cE P w K mg base 1 "check_taste" fi di ["thing"] oN)(C:cE P w K mg base k "is_unlike_ahead" fa da ["taste", "one", "other"] (ot 4)):ic P w K mg base (k+1) f fd ["taste", "one", "other"] GK:=by
 have nd:=DE.nd
 have hUE:=kI.mk
 refine kG F DE (λvs G Q h=> ?_) (λcdv A outer s H E as G Q hr h=> ?_)
 ·obtain⟨_,_,_,rfl,_⟩:=h
  rfl
 have hU:=en hr
 apply iW
 case a=>symm
 obtain⟨z,x,y,rfl,hz,hn,q⟩:=h
 exists⟨_,rfl,hz,?_⟩
 exists KO (v9 x) (v9 y) ?_
 refine jD (by rw[yD (A4 hn)];rfl) ?_
 exists⟨z,_,_,_,_,rfl,hz,.pick z x y hn,by split<;>ac_nf,?_⟩
 exact⟨_,GE.refl,q⟩
noncomputable def Aw:vo:=λps G Q EX=>∃x y z:PV,ps=[x,y,z]/\vf x G/\∀G',GE G G'->EX G'
theorem HH{k:Nat}(hk:1<=k)(F:Fun K "is_ahead" "is_ahead" Ma f fd)(B:BN mg)(CC:jC P w K mg base D 1 "check_taste" fi di ["thing"] l9)(C:cE P w K mg base k "is_unlike_ahead" fa da ["taste", "one", "other"] (ot 4)):FC P w K mg base D (k+1) f fd ["taste", "one", "other"] Aw:=by
 have nd:=DE.nd
 have hUE:=kI.mk
 refine LC F DE (λvs G Q EX h=> ?_) (λcdv A outer s H E as G Q EX hr h hX=> ?_)
 ·obtain⟨_,_,_,rfl,_⟩:=h
  rfl
 have hU:=en hr
 apply iW
 case a=>symm
 obtain⟨x,y,z,rfl,hb,q⟩:=h
 left
 exact⟨x,rfl,hb,q⟩
theorem sx:bn ["pattern", "taste", "text", "best", "tree"] ["pattern", "taste", "text"] (aL wX):=⟨rfl,rfl,rfl,by decide+kernel,rfl,by decide+kernel,by decide+kernel⟩
noncomputable def so:vo:=λps G Q EX=>∃x y z:PV,ps=[y,x,z]/\vf x G/\∀G',GE G G'->EX G'
theorem Bm{k:Nat}(hk:1<=k)(F:Fun K "told" "told" wX f fd)(B:BN mg)(CC:jC P w K mg base D 1 "check_taste" fi di ["thing"] l9)(CL:jC P w K mg base D 1 "trees" fs ds ["pattern", "text"] ub)(C:cE P w K mg base k "is_unlike_ahead" fa da ["taste", "one", "other"] (ot 4)):FC P w K mg base D (k+1) f fd ["pattern", "taste", "text"] so:=by
 have nd:=sx.nd
 have hUE:=kI.mk
 refine LC F sx (λvs G Q EX h=> ?_) (λcdv A outer s H E as G Q EX hr h hX=> ?_)
 ·obtain⟨_,_,_,rfl,_⟩:=h
  rfl
 have hU:=en hr
 apply iW
 case a=>symm
 obtain⟨x,y,z,rfl,hb,q⟩:=h
 left
 exact⟨x,rfl,hb,q⟩
end
theorem Dl{T:List Nat}{p:Pt}{i j:Nat}{x y:Tr×Nat}(hi:(vI T p)[i]? =some x)(hj:(vI T p)[j]? =some y)(h:i<j):x.1≠y.1:=λz=>by
 have nd:(vI T p).Nodup:=(mY p 0 (cg _)).filter _
 have mx:=(gy.mp (ax hi)).1
 have my:=(gy.mp (ax hj)).1
 have e:=sd (cg _) mx my z
 rw[e]at hi
 have hil:=(aj.mp hi)
 have hjl:=(aj.mp hj)
 have:=(List.getElem_inj nd).mp (hil.2.trans hjl.2.symm)
 ac_nf
theorem Dx{s:Str}{c:Nat}(h:(s.cps.toList==[c])=true):s=⟨#[c]⟩:=by
 have:=eq_of_beq h
 obtain⟨a⟩:=s
 obtain⟨l⟩:=a
 simp at this
 rw[this]
theorem Ck{c:Nat}:∀{ts:List Tr},(ts.all λt=>match t with| .pick _ (.sign s)=>s.cps.toList==[c]|_=>false)=true->∃is:List Int,ts=(is.map λi=>(i,c)).map iB
 |[],_=>⟨[],rfl⟩
 |t::ts,h=>by
  rw[eK,av]at h
  obtain⟨is,e⟩:=Ck h.2
  have h1:=h.1
  split at h1
  ·rename_i i s
   refine⟨i::is,?_⟩
   rw[Dx h1,e]
   rfl
  ·cases h1
theorem wF{c m:Nat}{t:Tr}(h:JC c m t=true):∃is:List Int,t=DH (is.map λi=>(i,c))/\is.length=m:=by
 unfold JC at h
 split at h
 ·rw[av]at h
  obtain⟨is,e⟩:=Ck h.2
  refine⟨is,by rw[e];rfl,?_⟩
  have:=eq_of_beq h.1
  rw[e]at this
  simpa using this
 ·cases h
theorem lX:∀(is js:List Int),is.length=js.length->is≠js->∃c x y s r,is=c++x::s/\js=c++y::r/\x≠y/\s.length=r.length
 |[],[],_,h=>absurd rfl h
 |[],_::_,h,_=>by cases h
 |_::_,[],h,_=>by cases h
 |x::s,y::r,hl,hn=>by
  by_cases e:x=y
  ·subst e
   obtain⟨c,x',y',s',r',rfl,rfl,h1,h2⟩:=lX s r (by simpa using hl) (λz=>hn (by rw[z]))
   exact⟨x::c,x',y',s',r',rfl,rfl,h1,h2⟩
  ·exact⟨[],x,y,s,r,rfl,rfl,e,by simpa using hl⟩
theorem Ki{c m:Nat}{t u:Tr}(z:Str)(ht:JC c m t=true)(hu:JC c m u=true)(hm:m<=50)(hn:t≠u):∃b k,Rl z t u b k/\k<=4:=by
 obtain⟨is,rfl,l1⟩:=wF ht
 obtain⟨js,rfl,l2⟩:=wF hu
 obtain⟨cc,x,y,s,r,rfl,rfl,h1,h2⟩:=lX is js (by ac_nf) (λz=>hn (by rw[z]))
 have e1:(cc++x::s).map (λi=>(i,c))=cc.map (λi=>(i,c))++(x,c)::s.map (λi=>(i,c)):=by simp
 have e2:(cc++y::r).map (λi=>(i,c))=cc.map (λi=>(i,c))++(y,c)::r.map (λi=>(i,c)):=by simp
 rw[e1,e2]
 refine⟨_,_,.row z (cc.map λi=>(i,c)) (s.map λi=>(i,c)) (r.map λi=>(i,c)) (x,c) (y,c) h1 (by simp[h2]) ?_,by split<;>ac_nf⟩
 rw[<-e1,aB]
 ac_nf
theorem Dr{ns:List Nat}(h:ns∈Ar):ns.length<=50:=by
 simp only[Ar,aA,aP,or_false]at h
 rcases h with rfl|rfl|rfl|rfl|rfl|rfl|rfl|rfl
 all_goals decide
section
variable{P:aF}{w:aS}{K:PySem.W.Frag}{mg:Str->Option ae}{base:Heap}{f fi fa fs D:Addr}{fd di da ds dp:aR}
noncomputable abbrev KP(s:Str)(ns:List Nat):Nat:=nT (iK s ns) (q9 s ns) 0 (iK s ns).length
noncomputable def sk:vo:=λps G Q EX=>∃(s:Str) (ns:List Nat) (z:Str),ps=[n5 (q9 s ns),.str z,.str (qC (iK s ns))]/\s∈DA/\ns∈Ar/\z∈cJ/\(KP s ns<=200->∀x,Q x G)/\(200<KP s ns->∀G',GE G G'->EX G')
theorem Bl{k:Nat}(hk:1<=k)(F:Fun K "told" "told" wX f fd)(B:BN mg)(CC:cE P w K mg base 1 "check_taste" fi di ["thing"] oN)(CL:jC P w K mg base D k "trees" fs ds ["pattern", "text"] (GJ 5))(C:cE P w K mg base k "is_unlike_ahead" fa da ["taste", "one", "other"] (ot 4)):FC P w K mg base D (k+1) f fd ["pattern", "taste", "text"] sk:=by
 have nd:=sx.nd
 have hUE:=kI.mk
 refine LC F sx (λvs G Q EX h=> ?_) (λcdv A outer s H E as G Q EX hr h hX=> ?_)
 ·obtain⟨_,_,_,rfl,_⟩:=h
  rfl
 have hU:=en hr
 apply iW
 case a=>symm
 obtain⟨sg,ns,z,rfl,hs,hns,hz,q1,q2⟩:=h
 have pf:=uu hs hns
 exists⟨z,rfl,hz,?_⟩
 exists⟨q9 sg ns,iK sg ns,rfl,pf.cs,pf.ar,pf.dp,λh200 c G1 hc gc ge=> ?_,q2⟩
 have q1:=q1 h200
 left
 rw[a9 gc]
 exists⟨λi τ G2=>∃(b:PV) (t4:Option PV),τ=[some (n5 (q9 sg ns)),some (.str z),some (.str (qC (iK sg ns))),some b,t4]/\GE G1 G2/\((b= .non)\/∃(j:Nat) (y:Tr×Nat),(vI (iK sg ns) (q9 sg ns))[j]? =some y/\j<i/\b=fI y.1),⟨_,_,rfl,GE.refl,.inl rfl⟩,?_,?_,?_⟩
 ·rintro i τ G2 _ ⟨b,t4,rfl,lz,hb⟩
  exact a9 (lz _ _ gc)
 ·rintro i x τ G2 hx ⟨b,t4,rfl,lz,hb⟩
  rw[aI]at hx
  cases hw:(vI (iK sg ns) (q9 sg ns))[i]? with
  |none=>rw[hw]at hx;cases hx
  |some y=>
   rw[hw]at hx
   obtain rfl:fI y.1=x:=by simpa using hx
   left
   rcases hb with rfl|⟨j,y',hj,hji,rfl⟩
   ·left
    refine jD rfl ?_
    exact⟨_,_,rfl,lz,.inr ⟨i,y,hw,by ac_nf,rfl⟩⟩
   ·have f1:=pf.fm _ (ax hw)
    have f2:=pf.fm _ (ax hj)
    have hne:y.1≠y'.1:=λe=>Dl hj hw hji e.symm
    obtain⟨bb,kk,rl,hkk⟩:=Ki z f1 f2 (Dr hns) hne
    obtain⟨t,e⟩:=y
    obtain⟨t',e'⟩:=y'
    obtain⟨js,ejs,_⟩:=wF f2
    dsimp only at ejs
    subst ejs
    refine nZ rfl ?_
    exists⟨z,t,_,bb,kk,rfl,hz,rl,hkk,?_⟩
    cases bb with
    |true=>
     refine jD rfl ?_
     exact⟨_,_,rfl,lz,.inr ⟨i,_,hw,by ac_nf,rfl⟩⟩
    |false=>
     refine nZ rfl ?_
     exact⟨_,_,rfl,lz,.inr ⟨j,_,hj,by ac_nf,rfl⟩⟩
 ·rintro τ G2 ⟨b,t4,rfl,lz,hb⟩
  exact⟨G,ge.trans lz,q1 _⟩
end
noncomputable abbrev wW:Stmt:=top 41
section
variable{P:aF}{w:aS}{K:PySem.W.Frag}{mg:Str->Option ae}{base:Heap}{f fi ft D GE' cT cX cN cR cA cM:Addr}{fd di dt:aR}
theorem sw:bn ["asked", "caught", "e"] ["asked"] (aL wW):=⟨rfl,rfl,rfl,by decide+kernel,rfl,by decide+kernel,by decide+kernel⟩
theorem nH{b:Bool}{n:Int}{G:Gp}{Q:K2}(e:(if b then 1 else 0)=n)(q:Q (.int n) G):uS [.bl b] G Q:=by subst e;exact q
theorem yz{x c:Addr}{b:Bool}{G:Gp}{Q:K2}(h:G x=some (.exc D))(xk:qK K D)(k:PySem.W.kitOne K (.ref D) (.ref c)=some b)(q:Q (.bl b) G):wB K [.ref x,.ref c] G Q:=⟨D,b,h,xk,k,q⟩
theorem B7{x:Addr}{T:String}{b:Bool}{G:Gp}{Q:K2}(h:G x=some (.exc D))(xk:qK K D)(k:PySem.W.kitOne K (.ref D) (.type T)=some b)(q:Q (.bl b) G):wB K [.ref x,.ty T] G Q:=⟨D,b,h,xk,k,q⟩
theorem B8{x:Addr}{az:List Addr}{b:Bool}{G:Gp}{Q:K2}(h:G x=some (.exc D))(xk:qK K D)(k:PySem.W.kitAny K (.ref D) (az.map au)=some b)(q:Q (.bl b) G):wB K [.ref x,.tup (az.map PV.ref)] G Q:=⟨D,az,b,rfl,h,xk,k,q⟩
structure Jw(K:PySem.W.Frag)(mg:Str->Option ae)(D GE' cT cX cN cR cA cM:Addr)(bA bM:Bool):Prop where
 xk:qK K D
 kV:PySem.W.kitOne K (.ref D) (.type "ValueError")=some true
 kN:PySem.W.kitAny K (.ref D) ([cT,cX,cN,cR].map au)=some false
 kA:PySem.W.kitOne K (.ref D) (.ref cA)=some bA
 kM:PySem.W.kitOne K (.ref D) (.ref cM)=some bM
noncomputable def xB:gP:=λps G Q=>(∃x y z:PV,ps=[.tup [y,x,z]]/\vf x G/\Q (.str "taste") G)\/(∃x p y z:PV,ps=[.tup [p,x,y,z]]/\vf x G/\Q (.str "taste") G)
theorem Bi{k:Nat}(hk:1<=k)(hG:mg "GroveError" =some (.ref GE'))(hT:mg "NoTree" =some (.ref cT))(hX':mg "NoText" =some (.ref cX))(hN':mg "NoName" =some (.ref cN))(hR:mg "NoRow" =some (.ref cR))(hA:mg "NoTaste" =some (.ref cA))(hM:mg "TooMany" =some (.ref cM))(hV:mg "ValueError" =none)
  (xq:PySem.W.excIn K D rD "ValueError.__new__" =true) (xg:PySem.W.excIn K GE' rD "ValueError.__new__" =true) (xu:jj K D GE'=true) (cl:Jw K mg D GE' cT cX cN cR cA cM true false)
  (F:Fun K "_law_word" "_law_word" wW f fd) (B:BN mg) (CI:jC P w K mg base D k "is_ahead" fi di ["taste", "one", "other"] Aw) (CT:jC P w K mg base D k "told" ft dt ["pattern", "taste", "text"] so):ic P w K mg base (k+1) f fd ["asked"] xB:=by
 have nd:=sw.nd
 have hUE:=kI.mk
 refine kG F sw (λvs G Q h=> ?_) (λcdv A outer s H E as G Q hr h=> ?_)
 ·obtain⟨_,_,_,rfl,_⟩|⟨_,_,_,_,rfl,_⟩:=h<;>rfl
 have hU:=en hr
 apply iW
 case a=>symm
 rcases h with⟨x,y,z,rfl,hb,q⟩|⟨x,p,y,z,rfl,hb,q⟩
 all_goals
  exists ny ?_
  exists j6 rfl rfl ?_
  first
  |(refine nZ rfl ?_
    exists⟨x,_,_,rfl,hb,λG2 ge a ha=> ?_⟩)
  |(refine jD rfl ?_
    exists⟨x,_,_,rfl,hb,λG2 ge a ha=> ?_⟩)
  have x5:up G2 a (.exc D) a=some (.exc D):=ao
  exists nZ rfl ?_
  exists B7 (K:=K) x5 cl.xk cl.kV ?_
  exists nZ rfl ?_
  exists⟨dH,?_⟩
  exists B8 (K:=K) (az:=[cT,cX,cN,cR]) x5 cl.xk cl.kN ?_
  exists nZ rfl ?_
  exists⟨dH,λl hl=> ?_⟩
  have x6:up (up G2 a (.exc D)) l (.lst [.str "none",.str "taste",.str "many",.str "both"]) a=some (.exc D):=by rw[aK (bt x5 hl)];exact x5
  exists yz (K:=K) x6 cl.xk cl.kA ?_
  exists nH (n:=1) rfl ?_
  exists yz (K:=K) x6 cl.xk cl.kM ?_
  exists nH (n:=0) rfl ?_
  exists⟨.inl ⟨by decide,by decide⟩,?_⟩
  refine oZ ?_
  exists cU (x:= .str "taste") jY rfl ?_
  exact⟨G,(ge.new ha).new hl,q⟩
noncomputable def xA:gP:=λps G Q=>∃(s:Str) (ns:List Nat) (z:Str),ps=[.tup [n5 (q9 s ns),.str z,.str (qC (iK s ns))]]/\s∈DA/\ns∈Ar/\z∈cJ/\Q (.str (if 200<KP s ns then "many" else "told")) G
theorem Bh{k:Nat}(hk:1<=k)(hG:mg "GroveError" =some (.ref GE'))(hT:mg "NoTree" =some (.ref cT))(hX':mg "NoText" =some (.ref cX))(hN':mg "NoName" =some (.ref cN))(hR:mg "NoRow" =some (.ref cR))(hA:mg "NoTaste" =some (.ref cA))(hM:mg "TooMany" =some (.ref cM))(hV:mg "ValueError" =none)
  (xq:PySem.W.excIn K D rD "ValueError.__new__" =true) (xg:PySem.W.excIn K GE' rD "ValueError.__new__" =true) (xu:jj K D GE'=true) (cl:Jw K mg D GE' cT cX cN cR cA cM false true)
  (F:Fun K "_law_word" "_law_word" wW f fd) (B:BN mg) (CI:jC P w K mg base D 1 "is_ahead" fi di ["taste", "one", "other"] ub) (CT:jC P w K mg base D k "told" ft dt ["pattern", "taste", "text"] sk):ic P w K mg base (k+1) f fd ["asked"] xA:=by
 have nd:=sw.nd
 have hUE:=kI.mk
 refine kG F sw (λvs G Q h=> ?_) (λcdv A outer s H E as G Q hr h=> ?_)
 ·obtain⟨_,_,_,rfl,_⟩:=h
  rfl
 have hU:=en hr
 apply iW
 case a=>symm
 obtain⟨sg,ns,z,rfl,hs,hns,hz,q⟩:=h
 exists ny ?_
 exists j6 rfl rfl ?_
 refine nZ rfl ?_
 exists⟨sg,ns,z,rfl,hs,hns,hz,λh200 x=> ?_,λh200 G2 ge a ha=> ?_⟩
 ·rw[if_neg (by ac_nf)]at q
  exists jD rfl ?_
  exact⟨G,GE.refl,q⟩
 ·rw[if_pos h200]at q
  have x5:up G2 a (.exc D) a=some (.exc D):=ao
  exists nZ rfl ?_
  exists B7 (K:=K) x5 cl.xk cl.kV ?_
  exists nZ rfl ?_
  exists⟨dH,?_⟩
  exists B8 (K:=K) (az:=[cT,cX,cN,cR]) x5 cl.xk cl.kN ?_
  exists nZ rfl ?_
  exists⟨dH,λl hl=> ?_⟩
  have x6:up (up G2 a (.exc D)) l (.lst [.str "none",.str "taste",.str "many",.str "both"]) a=some (.exc D):=by rw[aK (bt x5 hl)];exact x5
  exists yz (K:=K) x6 cl.xk cl.kA ?_
  exists nH (n:=0) rfl ?_
  exists yz (K:=K) x6 cl.xk cl.kM ?_
  exists nH (n:=1) rfl ?_
  exists⟨.inl ⟨by decide,by decide⟩,?_⟩
  refine oZ ?_
  exists cU (x:= .str "many") jY rfl ?_
  exact⟨G,(ge.new ha).new hl,q⟩
end
noncomputable abbrev vy:Stmt:=top 40
theorem nV(x y:Str):(x++y).length=x.length+y.length:=by
 show(x.cps++y.cps).size=_
 rw[oE]
 rfl
noncomputable def oy(s:Str):Bool:= !(cJ.any λy=>y==s)
theorem iR{s:Str}(h:oy s=true)(G:Gp):vf (.str s) G:=by
 refine⟨rfl,?_⟩
 unfold oy at h
 rw[gQ]at h
 exact h
theorem Jn{z:Str}(hz:z∈cJ):(Txt.upper z).length<=1000/\oy (Txt.upper z)=true:=by
 simp only[cJ,aA,aP,or_false]at hz
 rcases hz with rfl|rfl|rfl|rfl|rfl
 all_goals exact⟨by decide+kernel,by decide+kernel⟩
structure NU(z:Str)(n c:Nat):Prop where
 a:oy (fD z none (some (n:Int))++fD z (some ((n:Int)+1)) none)=true
 b:oy (z++⟨#[c]⟩)=true
 c:oy (z++ " ")=true
 d:oy ((fD z none (some (n:Int))++ "z")++fD z (some ((n:Int)+1)) none)=true
noncomputable def LX(z:Str)(n:Nat):Bool:=oy (fD z none (some (n:Int))++fD z (some ((n:Int)+1)) none)&&oy (z++ " ")&&oy ((fD z none (some (n:Int))++ "z")++fD z (some ((n:Int)+1)) none)
theorem Fv:cJ.all (λz=>(dC z.length).all λn=>LX z n)=true:=by decide+kernel
theorem CS{z:Str}{c:Nat}(hz:z∈cJ):oy (z++⟨#[c]⟩)=true:=by
 unfold oy
 rw[gQ,List.any_eq_false]
 intro y hy h
 have e:=eq_of_beq h
 have e2:=congrArg Str.length e
 rw[nV,show(⟨#[c]⟩:Str).length=1 from rfl]at e2
 simp only[cJ,aA,aP,or_false]at hz hy
 have e3:y.cps.toList.take z.length=z.cps.toList:=by
  rw[e]
  show(z.cps++ #[c]).toList.take z.cps.size=_
  rw[mT,<-cS,List.take_left]
 rcases hz with rfl|rfl|rfl|rfl|rfl<;>rcases hy with rfl|rfl|rfl|rfl|rfl<;>first|(exact absurd e2 (by decide))|(exact absurd e3 (by decide))
theorem Fw{z:Str}{n c:Nat}(hz:z∈cJ)(hn:(n:Int)<z.length)(hc:mW z.cps.toList (n:Int)=some c):NU z n c:=by
 have h:=bv.mp (bv.mp Fv z hz) n (lH.mpr (by ac_nf))
 unfold LX at h
 simp only[av]at h
 exact⟨h.1.1,CS hz,h.1.2,h.2⟩
theorem Fq{G G':Gp}{a l:Addr}(h:Ch [a] G G')(p:Pool G' a)(hl:G' l=none):G l=none:=by
 cases e:G l with
 |none=>rfl
 |some o=>
  have:=h l o (by simpa using ig p hl) e
  rw[hl]at this
  cases this
section
variable{P:aF}{w:aS}{K:PySem.W.Frag}{mg:Str->Option ae}{base:Heap}{f fn fi:Addr}{fd dn di:aR}
theorem xL:bn ["pool", "taste", "at", "some"] ["pool"] (aL vy):=⟨rfl,rfl,rfl,by decide+kernel,rfl,by decide+kernel,by decide+kernel⟩
noncomputable def sr:gP:=λps G Q=>∃a:Addr,ps=[.ref a]/\Pool G a/\∀x G',vf x G'->Pool G' a->Ch [a] G G'->Q x G'
theorem Bn(F:Fun K "_law_thing" "_law_thing" vy f fd)(B:BN mg)(CN:cE P w K mg base 1 "_law_next" fn dn ["pool", "base"] pB)(CP:cE P w K mg base 2 "_law_pick" fi di ["pool", "some"] oJ):ic P w K mg base 3 f fd ["pool"] sr:=by
 have nd:=xL.nd
 have hUE:=kI.mk
 refine kG F xL (λvs G Q h=> ?_) (λcdv A outer s H E as G Q hr h=> ?_)
 ·obtain⟨_,rfl,_⟩:=h
  rfl
 have hU:=en hr
 apply iW
 case a=>symm
 obtain⟨a,rfl,hp,q⟩:=h
 exists⟨dH,λl0 hl0=> ?_⟩
 exists⟨a,_,rfl,hp.new hl0,.inl ⟨l0,_,rfl,ig hp hl0,ao,by decide,by decide,λx G1 hx p1 ch1=> ?_⟩⟩
 obtain⟨z,rfl,hz⟩:∃z,x= .str z/\z∈cJ:=by
  simp only[aA,aP,or_false]at hx
  rcases hx with rfl|rfl|rfl|rfl|rfl
  all_goals exact⟨_,rfl,by decide⟩
 have hzl:3<=z.length/\z.length<=5:=by
  simp only[cJ,aA,aP,or_false]at hz
  rcases hz with rfl|rfl|rfl|rfl|rfl
  all_goals exact⟨by decide,by decide⟩
 exists⟨by ac_nf,?_⟩
 exists⟨a,z.length,rfl,p1,by ac_nf,by ac_nf,λm G2 m0 m1 p2 ch2=> ?_⟩
 obtain⟨n,rfl⟩:∃n:Nat,m=(n:Int):=⟨m.toNat,by ac_nf⟩
 have hsl:=λlo hi=>aZ (Txt.slice_le z lo hi) hzl.2
 have hup:=Jn hz
 obtain⟨c,hc,hcm⟩:=wO (xs:=z.cps.toList) m0 (by rw[cS];exact m1)
 have bd:=Fw hz m1 hc
 exists⟨by ac_nf,?_⟩
 exists oZ ?_
 exists⟨by ac_nf,?_⟩
 refine mO (by have:=hsl none (some (n:Int));have:=hsl (some ((n:Int)+1)) none;ac_nf) ?_
 exists pU (by ac_nf) hc ?_
 refine mO (by show z.length+1<=_;ac_nf) ?_
 exists⟨hup.1,?_⟩
 exists mO (by show z.length+1<=_;ac_nf) ?_
 exists⟨dH,λl1 hl1=> ?_⟩
 exists⟨⟨_,ao⟩,?_⟩
 exists⟨dH,λl2 hl2=> ?_⟩
 exists⟨dH,?_⟩
 exists λl3 hl3=> ?_
 exists⟨by ac_nf,?_⟩
 refine mO (by have:=hsl none (some (n:Int));show _+1<=_;ac_nf) ?_
 exists oZ ?_
 exists⟨by ac_nf,?_⟩
 refine mO (by have:=hsl none (some (n:Int));have:=hsl (some ((n:Int)+1)) none;rw[nV];show _+1+_<=_;ac_nf) ?_
 exists⟨dH,λl4 hl4=> ?_⟩
 have n21:l1≠l2:=bt (G:=up G2 l1 _) ao hl2
 left
 have hl2':=(bT hl2).2
 have hl3':=(bT (bT hl3).2).2
 have hl4':=(bT (bT (bT hl4).2).2).2
 have e31:l3≠l2:=(bT hl3).1
 have e41:l4≠l3:=(bT hl4).1
 have e32:l3≠l1:=(bT (bT hl3).2).1
 have e42:l4≠l2:=(bT (bT hl4).2).1
 have e43:l4≠l1:=(bT (bT (bT hl4).2).2).1
 refine Ja (by rw[aK (aG e43),aK (aG e32),aK n21,ao]) ao (by show 18<=16000000;ac_nf) ?_
 have na1:l1≠a:=ig p2 hl1
 have na2:l2≠a:=ig p2 hl2'
 have na3:l3≠a:=ig p2 hl3'
 have c2:Ch [a] G G2:=((Ch.refl.new hl0).trans ch1).trans ch2
 have hl1G:G l1=none:=Fq c2 p2 hl1
 generalize hxs:(_++_:List PV)=xs
 exists⟨a,_,rfl,((((p2.new hl1).new hl2).new hl3).new hl4).ne na1,.inl ⟨l1,xs,rfl,na1,ao,by rw[<-hxs];show 1<=18;ac_nf,by rw[<-hxs];show 18<=1000;ac_nf,λx G6 hx p6 ch6=> ?_⟩⟩
 refine⟨_,GE.refl,q x G6 ?_ p6 (Ch.trans (((((c2.new hl1).new hl2).new hl3).new hl4).mod' hl1G) ch6)⟩
 have g2:G6 l2=some (.lst [.str z]):=ch6 l2 _ (by simpa using na2) (by rw[aK (aG n21),aK (aG e42),aK (aG e31),ao])
 have g3:G6 l3=some (.dK []):=ch6 l3 _ (by simpa using na3) (by rw[aK e32,aK (aG e41),ao])
 rw[<-hxs]at hx
 simp only[jJ,kO,aA,aP,or_false]at hx
 rcases hx with rfl|rfl|rfl|rfl|rfl|rfl|rfl|rfl|rfl|rfl|rfl|rfl|rfl|rfl|rfl|rfl|rfl|rfl
 ·exact iR bd.a _
 ·exact iR bd.b _
 ·exact iR hup.2 _
 ·exact iR bd.c _
 ·exact iR rfl _
 ·exact iR rfl _
 ·exact iR rfl _
 ·exact iR rfl _
 ·exact⟨rfl,rfl⟩
 ·exact⟨rfl,rfl⟩
 ·exact⟨rfl,rfl⟩
 ·exact⟨rfl,rfl⟩
 ·exact⟨rfl,rfl⟩
 ·exact .inl ⟨_,g2⟩
 ·exact⟨rfl,rfl⟩
 ·exact .inr ⟨_,g3⟩
 ·exact iR bd.d _
 ·exact iR rfl _
end
noncomputable abbrev vA:Stmt:=top 42
noncomputable abbrev KQ:List Str:=["script", "cell", "pool", "sign", "sizes", "pattern", "text", "one", "other", "thing", "tastes", "taste"]
section
variable{P:aF}{w:aS}{K:PySem.W.Frag}{mg:Str->Option ae}{base:Heap}{f fn fi ft fa fs fw:Addr}{fd dn di dt da ds dw:aR}
theorem FN:bn KQ ["script"] (aL vA):=⟨rfl,rfl,rfl,by decide+kernel,rfl,by decide+kernel,by decide+kernel⟩
theorem LR:fq (aL vA) KQ (jo [(".0",.local),("size",.local),("sign",.free)]) ["size", "sign"] [none,some 3] 0 "size" =true:=by decide+kernel
noncomputable def xE:gP:=λps G Q=>∃ns:List Int,ps=[.ro (ns.map PV.int)]/\ns.length<=63/\∀G',Q (.bl true) G'
noncomputable def Av:gP:=λps G Q=>xB ps G Q\/xA ps G Q
theorem Gy{b:Bool}{l:Addr}{N:Nat}{G:Gp}{Q:K2}(g:lk G l=some [.str "told",.str "many"])(e:b=decide (200<N))(q:Q (.str (if 200<N then "many" else "told")) G):uS [.bl b] G λy G2=>De (.ref l) y G2 Q:=by
 subst e
 by_cases h:200<N
 ·rw[decide_eq_true h]
  rw[if_pos h]at q
  exact nH (n:=1) rfl (cU (x:= .str "many") g rfl q)
 ·rw[decide_eq_false h]
  rw[if_neg h]at q
  exact nH (n:=0) rfl (cU (x:= .str "told") g rfl q)
theorem HG{k:Nat}(hk:10<=k)(F:Fun K "law" "law" vA f fd)(B:BN mg)(CO:cE P w K mg base 1 "_law_pool" fs ds ["cell"] vQ)(CN:cE P w K mg base 1 "_law_next" fn dn ["pool", "base"] pB)(CP:cE P w K mg base 2 "_law_pick" fi di ["pool", "some"] oJ)(CT:cE P w K mg base 3 "_law_thing" ft dt ["pool"] sr)(CW:cE P w K mg base k "_law_word" fw dw ["asked"] Av)(CI:cE P w K mg base k "is_ahead" fa da ["taste", "one", "other"] GK):ic P w K mg base (k+1) f fd ["script"] xE:=by
 have nd:=FN.nd
 have hUE:=kI.mk
 refine kG F FN (λvs G Q h=> ?_) (λcdv A outer s H E as G Q hr h=> ?_)
 ·obtain⟨_,rfl,_⟩:=h
  rfl
 have hU:=en hr
 apply iW
 case a=>
  symm
  all_goals try (refine' lx LR rfl ?_ λ_ _ _ _=>⟨?_,?_⟩)
  all_goals symm
 obtain⟨ns,rfl,h63,q⟩:=h
 exists⟨dH,λl0 hl0=> ?_⟩
 exists Fy jY (by simp;ac_nf) λsc hsc=> ?_
 left
 rw[jY]
 left
 have g0:up (up G l0 (.lst [PV.int 0,PV.int 1])) sc (.lst (ns.map PV.int++[PV.int 0,PV.int 1])) sc=some (.lst (ns.map PV.int++[PV.int 0,PV.int 1])):=ao
 generalize up (up G l0 (.lst [PV.int 0,PV.int 1])) sc (.lst (ns.map PV.int++[PV.int 0,PV.int 1]))=G0 at g0
 refine⟨λi τ G2=>∃t1 t2 t3 t4 t5 t6 t7 t8 t9 t10 t11:Option PV,τ=[some (.ro (ns.map PV.int)),t1,t2,t3,t4,t5,t6,t7,t8,t9,t10,t11]/\G2 sc=some (.lst (ns.map PV.int++[PV.int 0,PV.int 1])),⟨_,_,_,_,_,_,_,_,_,_,_,rfl,g0⟩,?_,?_,?_⟩
 ·rintro i τ G2 _ ⟨_,_,_,_,_,_,_,_,_,_,_,rfl,h⟩
  exact a9 h
 ·rintro i x τ G2 hx ⟨_,_,_,_,_,_,_,_,_,_,t11,rfl,g2⟩
  obtain⟨c,rfl⟩:∃c:Int,x= .int c:=by
   have hm:=ax hx
   rcases bj.mp hm with h|h
   ·obtain⟨y,_,rfl⟩:=ay.mp h
    exact⟨y,rfl⟩
   ·simp only[aA,aP,or_false]at h
    rcases h with rfl|rfl
    ·exact⟨0,rfl⟩
    ·exact⟨1,rfl⟩
  exists⟨c,rfl,λa G3 ha p3 ch3=> ?_⟩
  have nsa:sc≠a:=bt g2 ha
  have g3:G3 sc=some (.lst (ns.map PV.int++[PV.int 0,PV.int 1])):=ch3 sc _ (by simpa using nsa) g2
  exists⟨dH,λl1 hl1=> ?_⟩
  exists⟨a,_,rfl,p3.new hl1,.inl ⟨l1,_,rfl,ig p3 hl1,ao,by show 1<=4;ac_nf,by show 4<=1000;ac_nf,λx G4 hx p4 ch4=> ?_⟩⟩
  obtain⟨sg,rfl,hsg⟩:∃z,x= .str z/\z∈DA:=by
   simp only[aA,aP,or_false]at hx
   rcases hx with rfl|rfl|rfl|rfl
   all_goals exact⟨_,rfl,by decide⟩
  have g4:G4 sc=some (.lst (ns.map PV.int++[PV.int 0,PV.int 1])):=ch4 sc _ (by simpa using nsa) (by rw[aK (bt g3 hl1)];exact g3)
  have sf:=Az hsg
  exists⟨dH,?_⟩
  exists⟨dH,dH,dH,dH,dH,dH,dH,dH,dH,λl2 hl2=> ?_⟩
  exists⟨a,_,rfl,p4.new hl2,.inl ⟨l2,_,rfl,ig p4 hl2,ao,by show 1<=8;ac_nf,by show 8<=1000;ac_nf,λx G5 hx p5 ch5=> ?_⟩⟩
  obtain⟨zs,rfl,hzs⟩:∃zs:List Nat,x= .tup (zs.map dM)/\zs∈Ar:=by
   simp only[aA,aP,or_false]at hx
   rcases hx with rfl|rfl|rfl|rfl|rfl|rfl|rfl|rfl
   ·exact⟨[2,2],rfl,by decide⟩
   ·exact⟨[2,3],rfl,by decide⟩
   ·exact⟨[2,2,2],rfl,by decide⟩
   ·exact⟨[3,2],rfl,by decide⟩
   ·exact⟨[6,2],rfl,by decide⟩
   ·exact⟨[3,3,2],rfl,by decide⟩
   ·exact⟨[5,5,2,4],rfl,by decide⟩
   ·exact⟨[6,6,6],rfl,by decide⟩
  have g5:G5 sc=some (.lst (ns.map PV.int++[PV.int 0,PV.int 1])):=ch5 sc _ (by simpa using nsa) (by rw[aK (bt g4 hl2)];exact g4)
  have zf:=As hzs
  have pf:=uu hsg hzs
  left
  intro acc hacc
  refine i7 (λ_=>true) (FX sg) (by rw[aB];have:=zf.len;ac_nf) (λys=>trivial) (λx ys R hx r=>r) (λx ys R hx hs r=> ?_) ?_
  ·obtain⟨n,hn,rfl⟩:=ay.mp hx
   have:=zf.all n hn
   exists⟨dH,?_⟩
   refine⟨by simp,by show(1:Int)<=n;ac_nf,by show 1*n<=_;ac_nf,by show(n:Int)<=_;ac_nf,?_⟩
   refine⟨dH,?_⟩
   exact r
  rw[show(zs.map dM).filter (λ_=>true)=zs.map dM from iE.mpr λ_ _=>rfl]
  exists rY jY ?_
  refine⟨dH,?_⟩
  rw[Ei]
  nofun
  exists pU (by have:=sf.len;ac_nf) sf.la ?_
  exists ny ?_
  rw[aB]
  exists⟨by ac_nf,by have:=zf.len;ac_nf,by show 1<=10000;ac_nf,?_⟩
  rw[Gx hsg hzs]
  obtain⟨c0,hc0⟩:=sf.fi
  have p6:=p5.new (o:= .lst ((zs.map dM).map (FX sg))) hacc
  have g6:up G5 acc (.lst ((zs.map dM).map (FX sg))) sc=some (.lst (ns.map PV.int++[PV.int 0,PV.int 1])):=by rw[aK (bt g5 hacc)];exact g5
  generalize up G5 acc (.lst ((zs.map dM).map (FX sg)))=G6 at p6 g6⊢
  nofun
  exists pU (by have:=sf.len;ac_nf) hc0 ?_
  refine⟨dH,dH,?_⟩
  nofun
  exists pU (by have:=sf.len;ac_nf) hc0 ?_
  refine⟨dH,dH,?_⟩
  exists⟨a,rfl,p6,λx G7 bx p7 ch7=> ?_⟩
  have g7:G7 sc=some (.lst (ns.map PV.int++[PV.int 0,PV.int 1])):=ch7 sc _ (by simpa using nsa) g6
  exists⟨dH,?_⟩
  exists .inl (.inl ⟨x,_,_,rfl,bx,?_⟩)
  exists BB rfl rfl ?_
  refine nZ rfl ?_
  exists⟨dH,?_⟩
  exists .inl (.inr ⟨x,_,_,_,rfl,bx,?_⟩)
  exists BB rfl rfl ?_
  refine nZ rfl ?_
  exists⟨dH,λl3 hl3=> ?_⟩
  exists⟨a,_,rfl,p7.new hl3,.inl ⟨l3,_,rfl,ig p7 hl3,ao,by show 1<=5;ac_nf,by show 5<=1000;ac_nf,λy G8 hy p8 ch8=> ?_⟩⟩
  have nl3:l3≠a:=ig p7 hl3
  have g8:G8 sc=some (.lst (ns.map PV.int++[PV.int 0,PV.int 1])):=ch8 sc _ (by simpa using nsa) (by rw[aK (bt g7 hl3)];exact g7)
  have g8l:G8 l3=some (.lst [.str "first",.str "shy",.str "long",.str "short",.str "cheap"]):=ch8 l3 _ (by simpa using nl3) ao
  have tsm:∀y:PV,y∈[PV.str "first",.str "shy",.str "long",.str "short",.str "cheap"]->∃z,y= .str z/\z∈cJ:=λy hy=>by
   simp only[aA,aP,or_false]at hy
   rcases hy with rfl|rfl|rfl|rfl|rfl
   all_goals exact⟨_,rfl,by decide⟩
  obtain⟨z,rfl,hz⟩:=tsm y hy
  exists⟨dH,?_⟩
  exists .inr ⟨sg,zs,z,rfl,hsg,hzs,hz,?_⟩
  exists⟨dH,λl4 hl4=> ?_⟩
  have g9:up G8 l4 (.lst [.str "told",.str "many"]) sc=some (.lst (ns.map PV.int++[PV.int 0,PV.int 1])):=by rw[aK (bt g8 hl4)];exact g8
  have g9l:up G8 l4 (.lst [.str "told",.str "many"]) l3=some (.lst [.str "first",.str "shy",.str "long",.str "short",.str "cheap"]):=by rw[aK (bt g8l hl4)];exact g8l
  have g9m:lk (up G8 l4 (.lst [.str "told",.str "many"])) l4=some [.str "told",.str "many"]:=jY
  generalize up G8 l4 (.lst [.str "told",.str "many"])=G9 at g9 g9l g9m⊢
  exists ib zf.a0 ?_
  exists ib zf.a1 ?_
  have b0:=zf.b0
  have b1:=zf.b1
  refine⟨.inl ⟨by ac_nf,by ac_nf⟩,?_⟩
  left
  have h35:decide (((zs.getD 0 0:Nat):Int)*((zs.getD 1 0:Nat):Int)>35)=decide (200<KP sg zs):=by
   rw[show decide (200<KP sg zs)=_ from pf.nt,decide_eq_decide,<-Int.natCast_mul]
   ac_nf
  refine Gy g9m h35 ?_
  exists BB rfl rfl ?_
  refine nZ (by simp[iP]) ?_
  left
  rw[a9 g9l]
  exists⟨λi τ G'=>∃t11:Option PV,τ=[some (.ro (ns.map PV.int)),some (.int c),some (.ref a),some (.tup [.str "sign",.str sg]),some (.tup (zs.map dM)),some (n5 (q9 sg zs)),some (.str (qC (iK sg zs))),some (fI (iB (0,c0))),some (fI (iB (1,c0))),some x,some (.ref l3),t11]/\G'=G9,⟨_,rfl,rfl⟩,?_,?_,?_⟩
  ·rintro i τ G' _ ⟨t11,rfl,rfl⟩
   exact a9 g9l
  ·rintro i y τ G' hy ⟨t11,rfl,rfl⟩
   obtain⟨z',rfl,hz'⟩:=tsm y (ax hy)
   exists⟨z',(0,c0),(1,c0),rfl,hz',(show(0:Int)≠1 by decide),?_⟩
   exists nZ rfl ?_
   exists⟨z',(1,c0),(0,c0),rfl,hz',(show(1:Int)≠0 by decide),?_⟩
   exists nZ rfl ?_
   exact⟨_,rfl,rfl⟩
  ·rintro τ G' ⟨t11,rfl,rfl⟩
   exact⟨_,_,_,_,_,_,_,_,_,_,_,rfl,g9⟩
 ·rintro τ G2 ⟨_,_,_,_,_,_,_,_,_,_,_,rfl,g2⟩
  exact⟨_,GE.refl,q _⟩
end
noncomputable def Cy(K:PySem.W.Frag)(C:Addr)(ns:List Str)(fs:List Addr):Bool:=
 (PySem.W.plainGet K C Str.empty&&PySem.W.hasDictIn K C&&PySem.W.plainOver K C&&(PySem.W.findIn K (.ref C) "__setattr__" ==some (some (.builtin "object.__setattr__"))))&&ns.all (λn=>PySem.W.findIn K (.ref C) n==some none)
  &&(PySem.W.makesIn K C&&PySem.W.keepIn K (.ref C))&&fs.all (λf=>PySem.W.isFn K (.ref f))
theorem wM{K:PySem.W.Frag}{C:Addr}{ns:List Str}{fs:List Addr}(h:Cy K C ns fs=true):Cls K C/\(∀n∈ns,NoAttr K C n)/\(PySem.W.makesIn K C=true/\PySem.W.keepIn K (.ref C)=true)/\∀f∈fs,PySem.W.isFn K (.ref f)=true:=by
 unfold Cy at h
 simp only[av,bv,beq_iff_eq]at h
 obtain⟨⟨⟨⟨⟨⟨h1,h2⟩,h3⟩,h4⟩,hn⟩,hm⟩,hf⟩:=h
 exact⟨⟨h1,h2,h3,h4⟩,λn hn'=>hn n hn',hm,hf⟩
noncomputable def iF:List ae->List Str->Bool
 |[],[]=>true
 | .str z _::vs,y::ys=>z==y&&iF vs ys
 |_,_=>false
theorem pr:∀{vs:List ae} {ys:List Str},iF vs ys=true->Vals (ys.map V.str) vs
 |[],[],_=> .nil
 | .str z t::vs,y::ys,h=>by
  have h':(z==y&&iF vs ys)=true:=h
  rw[av]at h'
  obtain rfl:=beq_iff_eq.mp h'.1
  exact .cons ⟨t,rfl⟩ (pr h'.2)
 |[],_::_,h=>by cases h
 | .str _ _::_,[],h=>by cases h
 | .none::_,_,h=>by simp[iF]at h
 | .ellipsis::_,_,h=>by simp[iF]at h
 | .notImplemented::_,_,h=>by simp[iF]at h
 | .bool _::_,_,h=>by simp[iF]at h
 | .int _ _::_,_,h=>by simp[iF]at h
 | .float _ _::_,_,h=>by simp[iF]at h
 | .bytes _ _::_,_,h=>by simp[iF]at h
 | .ref _::_,_,h=>by simp[iF]at h
 | .type _::_,_,h=>by simp[iF]at h
 | .builtin _::_,_,h=>by simp[iF]at h
noncomputable def JR(o:Obj)(ys:List Str):Bool:=match o.cls,o.data with
 | .type n,.seq its _=>n== "tuple" &&decide (its.size<=100)&&iF its.toList ys
 |_,_=>false
noncomputable def GA(K:PySem.W.Frag):Bool:=match PySem.W.nsIn K ba "TASTES" with
 |some (some (.ref a))=>match K.lookup a with
  |some o=>JR o cJ
  |none=>false
 |_=>false
theorem Gz{K:PySem.W.Frag}{h:Heap}{mg:Str->Option ae}(X:K.In h)(G:h.Ns ba mg)(z:GA K=true):Fz K mg "TASTES" cJ:=by
 unfold GA at z
 split at z
 ·rename_i a e
  split at z
  ·rename_i o eo
   refine⟨a,PySem.W.mg_of X G e,λH=> .inr ?_⟩
   unfold JR at z
   split at z
   ·rename_i n its k ec ed
    rw[av,av]at z
    obtain⟨⟨z1,z2⟩,z3⟩:=z
    have hn:=beq_iff_eq.mp z1
    subst hn
    exact⟨o,its,k,eo,ec,ed,aZ (of_decide_eq_true z2) (by decide),pr z3⟩
   ·cases z
  ·cases z
 ·cases z
noncomputable def Fg(K:PySem.W.Frag)(D G cT cX cN cR cA cM:Addr)(bA bM:Bool):Bool:=
 PySem.W.excIn K D rD "ValueError.__new__" &&PySem.W.excIn K G rD "ValueError.__new__" &&jj K D G&&(PySem.W.findIn K (.ref D) "__getattribute__" ==some (some (.builtin "BaseException.__getattribute__")))&&(PySem.W.findIn K (.ref D) "__getattr__" ==some none)&&(PySem.W.mroIn K D (.type "BaseException")==some true)&&(PySem.W.clsIn K D).isSome&&(PySem.W.findIn K (.ref D) "__class__" ==some (some (.builtin "object.__class__")))&&(PySem.W.specialIn K (.builtin "object.__class__") "__get__" ==some (some (.builtin "getset_descriptor.__get__")))&&(PySem.W.takesIn K (.builtin "object.__class__")==some true)&&(PySem.W.mroIn K D (.type "object")==some true)
  &&(PySem.W.kitOne K (.ref D) (.type "ValueError")==some true)&&(PySem.W.kitAny K (.ref D) ([cT,cX,cN,cR].map au)==some false)&&(PySem.W.kitOne K (.ref D) (.ref cA)==some bA)&&(PySem.W.kitOne K (.ref D) (.ref cM)==some bM)
theorem Cn{K:PySem.W.Frag}{mg:Str->Option ae}{D G cT cX cN cR cA cM:Addr}{bA bM:Bool}(h:Fg K D G cT cX cN cR cA cM bA bM=true):PySem.W.excIn K D rD "ValueError.__new__" =true/\PySem.W.excIn K G rD "ValueError.__new__" =true/\jj K D G=true/\Jw K mg D G cT cX cN cR cA cM bA bM:=by
 unfold Fg at h
 simp only[av,beq_iff_eq]at h
 obtain⟨⟨⟨⟨⟨⟨⟨⟨⟨⟨⟨⟨⟨⟨h1,hg⟩,h2⟩,h3⟩,h4⟩,h5⟩,h6⟩,h7⟩,h8⟩,h9⟩,h10⟩,h11⟩,h12⟩,h13⟩,h14⟩:=h
 exact⟨h1,hg,h2,⟨h3,h4,h5,h6,h7,h8,h9,h10⟩,h11,h12,h13,h14⟩
noncomputable def NM(K:PySem.W.Frag):Bool:=CJ.all λx=>PySem.W.nsIn K ba x==some none
theorem LW{K:PySem.W.Frag}{h:Heap}{mg:Str->Option ae}(X:K.In h)(G:h.Ns ba mg)(z:NM K=true):BN mg:=λx hx=>by
 unfold NM at z
 rw[bv]at z
 have:=z x (by simpa using hx)
 exact PySem.W.mg_none_of X G (beq_iff_eq.mp this)
theorem mo{us:List ae}(h:us.length=1):∃a,us=[a]:=by
 cases us with
 |nil=>cases h
 |cons a l=>cases l with
  |nil=>exact⟨a,rfl⟩
  |cons b l=>cases h
theorem lv{us:List ae}(h:us.length=2):∃a0 a1,us=[a0,a1]:=by
 cases us with
 |nil=>cases h
 |cons a l=>
  obtain⟨a1,rfl⟩:=mo (us:=l) (by simpa using h)
  exact⟨a,a1,rfl⟩
theorem jh{us:List ae}(h:us.length=3):∃a0 a1 a2,us=[a0,a1,a2]:=by
 cases us with
 |nil=>cases h
 |cons a l=>
  obtain⟨a1,a2,rfl⟩:=lv (us:=l) (by simpa using h)
  exact⟨a,a1,a2,rfl⟩
theorem KY{us:List ae}(h:us.length=4):∃a0 a1 a2 a3,us=[a0,a1,a2,a3]:=by
 cases us with
 |nil=>cases h
 |cons a l=>
  obtain⟨a1,a2,a3,rfl⟩:=jh (us:=l) (by simpa using h)
  exact⟨a,a1,a2,a3,rfl⟩
noncomputable def FnB(K:PySem.W.Frag)(x qual:Str)(st:Stmt)(f:Addr):Prop:=∃oc od kV dc pm an cd ct sl,K.lookup f=some ⟨oc,od,.func (PySem.W.fnOf x qual (kx st) (gO st) (aL st) .none kV dc pm an cd ct),sl⟩/\PySem.W.codeIn K cd qual=true/\PySem.W.keepIn K (.ref f)=true
noncomputable def iu(K:PySem.W.Frag)(x:Str)(st:Stmt)(f:Addr):Prop:=PySem.W.nsIn K ba x=some (some (.ref f))/\FnB K x x st f
noncomputable def kd(K:PySem.W.Frag)(C:Addr)(x q:Str)(st:Stmt)(f:Addr):Prop:=PySem.W.findIn K (.ref C) x=some (some (.ref f))/\FnB K x q st f
theorem FnB.get{K:PySem.W.Frag}{x q:Str}{st:Stmt}{f:Addr}(u:FnB K x q st f):∃fd,Fun K x q st f fd:=by
 obtain⟨_,_,_,_,_,_,_,_,_,l,c,k⟩:=u
 exact⟨_,Ci l c k⟩
theorem all_mk{l:PySem.W.OpenLaw}{w:aS}{K:PySem.W.Frag}{h:Heap}{mg:Str->Option ae}{fa f1 f2 f3 f4 f5 f6 f7 f8 f9 f10 f11 f12 f13 f14 f15 f16 f17 f18 f19 f20 f21 f22 f23 f24 f25 f26 f27 f28 f29 f30 f31 f32 f33 f34 f35 f36 f37 f38 f39 f40:Addr}{cC cB cD cG cT cX cN cR cA cM:Addr}{tTU:Tok}{tML:Tok}(X:K.In h)(G:h.Ns ba mg)(hfa:mg "law" =some (.ref fa))
  (zv:PySem.W.nsIn K ba "ValueError" =some none) (u1:iu K "inner_patterns" vC f1) (u2:iu K "makes_of" vz f2) (u3:iu K "parts_of" lO f3) (u4:iu K "add_ways" Gs f4) (u5:kd K cC "__init__" "Counts.__init__" wY f5) (u6:kd K cC "total" "Counts.total" vx f6) (u7:kd K cC "count_from" "Counts.count_from" Ac f7) (u8:kd K cC "count_row" "Counts.count_row" Gr f8) (u9:kd K cC "count_pick" "Counts.count_pick" z9 f9) (u10:kd K cC "count_again" "Counts.count_again" vH f10) (u11:kd K cC "ends_of" "Counts.ends_of" Ad f11) (u12:kd K cB "__init__" "ByNumber.__init__" vF f12) (u13:kd K cB "choose" "ByNumber.choose" rQ f13) (u14:kd K cD "__init__" "Descent.__init__" vE f14) (u15:kd K cD "whole_tree" "Descent.whole_tree" rO f15) (u16:kd K cD "size" "Descent.size" rP f16) (u17:kd K cD "onward_ahead" "Descent.onward_ahead" vG f17) (u18:kd K cD "make_tree" "Descent.make_tree" Dg f18) (u19:kd K cD "make_row" "Descent.make_row" o7 f19) (u20:kd K cD "make_pick" "Descent.make_pick" lQ f20) (u21:kd K cD "make_turns" "Descent.make_turns" lP f21) (u22:iu K "inner_trees" Ab f22) (u23:iu K "trees_within" rN f23) (u24:iu K "text_of" oG f24) (u25:iu K "price_of" lN f25) (u26:iu K "trees" oF f26) (u27:iu K "check_taste" rR f27) (u28:iu K "first_unlike" vD f28) (u29:iu K "is_row_ahead" wZ f29) (u30:iu K "is_again_ahead" Dh f30) (u31:iu K "is_length_ahead" Mr f31) (u32:iu K "is_unlike_ahead" L9 f32) (u33:iu K "is_ahead" Ma f33) (u34:iu K "told" wX f34) (u35:iu K "_law_pool" z8 f35) (u36:iu K "_law_next" Aa f36) (u37:iu K "_law_pick" vB f37) (u38:iu K "_law_thing" vy f38) (u39:iu K "_law_word" wW f39) (u40:iu K "law" vA f40) (m0:PySem.W.nsIn K ba "TURN" =some (some (.int 0 tTU))) (m1:PySem.W.nsIn K ba "MOST_LISTED" =some (some (.int 200 tML))) (m2:PySem.W.nsIn K ba "GroveError" =some (some (.ref cG))) (m3:PySem.W.nsIn K ba "NoTree" =some (some (.ref cT))) (m4:PySem.W.nsIn K ba "NoText" =some (some (.ref cX))) (m5:PySem.W.nsIn K ba "NoName" =some (some (.ref cN))) (m6:PySem.W.nsIn K ba "NoRow" =some (some (.ref cR))) (m7:PySem.W.nsIn K ba "NoTaste" =some (some (.ref cA))) (m8:PySem.W.nsIn K ba "TooMany" =some (some (.ref cM))) (m9:PySem.W.nsIn K ba "Counts" =some (some (.ref cC))) (m10:PySem.W.nsIn K ba "ByNumber" =some (some (.ref cB))) (m11:PySem.W.nsIn K ba "Descent" =some (some (.ref cD))) (zc:Cy K cC ["signs", "makes", "parts", "table"] [f5,f6,f7,f8,f9,f10,f11]=true) (zcB:Cy K cB ["left"] [f12,f13]=true) (zcD:Cy K cD ["counts", "guide", "at"] [f14,f15,f16,f17,f18,f19,f20,f21]=true) (zeA:Fg K cA cG cT cX cN cR cA cM true false=true) (zeM:Fg K cM cG cT cX cN cR cA cM false true=true) (zt:GA K=true) (zb:NM K=true):
  ∃fd:aR,(∀(s:af) (v:ae),BindsTo s fd ⟨[v],[]⟩ [("script",v)])/\∀base:Heap,K.In base->base.Ns ba mg->FnOk l.prog w K mg base FD 18 fa fd ["script"] (FJ K xE):=by
 have e:=hfa.symm.trans (PySem.W.mg_of X G u40.1)
 cases e
 have B:=LW X G zb
 obtain⟨d1,F1⟩:=u1.2.get
 have k1:=F1.kp
 have b1:=F1.binds (ps:=["pattern"]) λ_ _ _ _ _ _ us hl=>by obtain⟨_,rfl⟩:=mo hl;rfl
 have g1:=PySem.W.mg_of X G u1.1
 obtain⟨d2,F2⟩:=u2.2.get
 have k2:=F2.kp
 have b2:=F2.binds (ps:=["pattern"]) λ_ _ _ _ _ _ us hl=>by obtain⟨_,rfl⟩:=mo hl;rfl
 have g2:=PySem.W.mg_of X G u2.1
 obtain⟨d3,F3⟩:=u3.2.get
 have k3:=F3.kp
 have b3:=F3.binds (ps:=["pattern"]) λ_ _ _ _ _ _ us hl=>by obtain⟨_,rfl⟩:=mo hl;rfl
 have g3:=PySem.W.mg_of X G u3.1
 obtain⟨d4,F4⟩:=u4.2.get
 have k4:=F4.kp
 have b4:=F4.binds (ps:=["ways", "more", "times"]) λ_ _ _ _ _ _ us hl=>by obtain⟨_,_,_,rfl⟩:=jh hl;rfl
 have g4:=PySem.W.mg_of X G u4.1
 obtain⟨d5,F5⟩:=u5.2.get
 have k5:=F5.kp
 have b5:=F5.binds (ps:=["self", "pattern", "text"]) λ_ _ _ _ _ _ us hl=>by obtain⟨_,_,_,rfl⟩:=jh hl;rfl
 obtain⟨d6,F6⟩:=u6.2.get
 have k6:=F6.kp
 have b6:=F6.binds (ps:=["self"]) λ_ _ _ _ _ _ us hl=>by obtain⟨_,rfl⟩:=mo hl;rfl
 obtain⟨d7,F7⟩:=u7.2.get
 have k7:=F7.kp
 have b7:=F7.binds (ps:=["self", "number", "at"]) λ_ _ _ _ _ _ us hl=>by obtain⟨_,_,_,rfl⟩:=jh hl;rfl
 obtain⟨d8,F8⟩:=u8.2.get
 have k8:=F8.kp
 have b8:=F8.binds (ps:=["self", "number", "at"]) λ_ _ _ _ _ _ us hl=>by obtain⟨_,_,_,rfl⟩:=jh hl;rfl
 obtain⟨d9,F9⟩:=u9.2.get
 have k9:=F9.kp
 have b9:=F9.binds (ps:=["self", "number", "at"]) λ_ _ _ _ _ _ us hl=>by obtain⟨_,_,_,rfl⟩:=jh hl;rfl
 obtain⟨d10,F10⟩:=u10.2.get
 have k10:=F10.kp
 have b10:=F10.binds (ps:=["self", "number", "at"]) λ_ _ _ _ _ _ us hl=>by obtain⟨_,_,_,rfl⟩:=jh hl;rfl
 obtain⟨d11,F11⟩:=u11.2.get
 have k11:=F11.kp
 have b11:=F11.binds (ps:=["self", "number", "at"]) λ_ _ _ _ _ _ us hl=>by obtain⟨_,_,_,rfl⟩:=jh hl;rfl
 obtain⟨d12,F12⟩:=u12.2.get
 have k12:=F12.kp
 have b12:=F12.binds (ps:=["self", "number"]) λ_ _ _ _ _ _ us hl=>by obtain⟨_,_,rfl⟩:=lv hl;rfl
 obtain⟨d13,F13⟩:=u13.2.get
 have k13:=F13.kp
 have b13:=F13.binds (ps:=["self", "sizes"]) λ_ _ _ _ _ _ us hl=>by obtain⟨_,_,rfl⟩:=lv hl;rfl
 obtain⟨d14,F14⟩:=u14.2.get
 have k14:=F14.kp
 have b14:=F14.binds (ps:=["self", "counts", "guide"]) λ_ _ _ _ _ _ us hl=>by obtain⟨_,_,_,rfl⟩:=jh hl;rfl
 obtain⟨d15,F15⟩:=u15.2.get
 have k15:=F15.kp
 have b15:=F15.binds (ps:=["self"]) λ_ _ _ _ _ _ us hl=>by obtain⟨_,rfl⟩:=mo hl;rfl
 obtain⟨d16,F16⟩:=u16.2.get
 have k16:=F16.kp
 have b16:=F16.binds (ps:=["self", "number", "at", "onward"]) λ_ _ _ _ _ _ us hl=>by obtain⟨_,_,_,_,rfl⟩:=KY hl;rfl
 obtain⟨d17,F17⟩:=u17.2.get
 have k17:=F17.kp
 have b17:=F17.binds (ps:=["self", "number", "places", "onward"]) λ_ _ _ _ _ _ us hl=>by obtain⟨_,_,_,_,rfl⟩:=KY hl;rfl
 obtain⟨d18,F18⟩:=u18.2.get
 have k18:=F18.kp
 have b18:=F18.binds (ps:=["self", "number", "onward"]) λ_ _ _ _ _ _ us hl=>by obtain⟨_,_,_,rfl⟩:=jh hl;rfl
 obtain⟨d19,F19⟩:=u19.2.get
 have k19:=F19.kp
 have b19:=F19.binds (ps:=["self", "parts", "onward"]) λ_ _ _ _ _ _ us hl=>by obtain⟨_,_,_,rfl⟩:=jh hl;rfl
 obtain⟨d20,F20⟩:=u20.2.get
 have k20:=F20.kp
 have b20:=F20.binds (ps:=["self", "parts", "onward"]) λ_ _ _ _ _ _ us hl=>by obtain⟨_,_,_,rfl⟩:=jh hl;rfl
 obtain⟨d21,F21⟩:=u21.2.get
 have k21:=F21.kp
 have b21:=F21.binds (ps:=["self", "number", "onward"]) λ_ _ _ _ _ _ us hl=>by obtain⟨_,_,_,rfl⟩:=jh hl;rfl
 obtain⟨d22,F22⟩:=u22.2.get
 have k22:=F22.kp
 have b22:=F22.binds (ps:=["tree"]) λ_ _ _ _ _ _ us hl=>by obtain⟨_,rfl⟩:=mo hl;rfl
 have g22:=PySem.W.mg_of X G u22.1
 obtain⟨d23,F23⟩:=u23.2.get
 have k23:=F23.kp
 have b23:=F23.binds (ps:=["tree"]) λ_ _ _ _ _ _ us hl=>by obtain⟨_,rfl⟩:=mo hl;rfl
 have g23:=PySem.W.mg_of X G u23.1
 obtain⟨d24,F24⟩:=u24.2.get
 have k24:=F24.kp
 have b24:=F24.binds (ps:=["tree"]) λ_ _ _ _ _ _ us hl=>by obtain⟨_,rfl⟩:=mo hl;rfl
 have g24:=PySem.W.mg_of X G u24.1
 obtain⟨d25,F25⟩:=u25.2.get
 have k25:=F25.kp
 have b25:=F25.binds (ps:=["tree"]) λ_ _ _ _ _ _ us hl=>by obtain⟨_,rfl⟩:=mo hl;rfl
 have g25:=PySem.W.mg_of X G u25.1
 obtain⟨d26,F26⟩:=u26.2.get
 have k26:=F26.kp
 have b26:=F26.binds (ps:=["pattern", "text"]) λ_ _ _ _ _ _ us hl=>by obtain⟨_,_,rfl⟩:=lv hl;rfl
 have g26:=PySem.W.mg_of X G u26.1
 obtain⟨d27,F27⟩:=u27.2.get
 have k27:=F27.kp
 have b27:=F27.binds (ps:=["thing"]) λ_ _ _ _ _ _ us hl=>by obtain⟨_,rfl⟩:=mo hl;rfl
 have g27:=PySem.W.mg_of X G u27.1
 obtain⟨d28,F28⟩:=u28.2.get
 have k28:=F28.kp
 have b28:=F28.binds (ps:=["ones", "others"]) λ_ _ _ _ _ _ us hl=>by obtain⟨_,_,rfl⟩:=lv hl;rfl
 have g28:=PySem.W.mg_of X G u28.1
 obtain⟨d29,F29⟩:=u29.2.get
 have k29:=F29.kp
 have b29:=F29.binds (ps:=["taste", "ones", "others"]) λ_ _ _ _ _ _ us hl=>by obtain⟨_,_,_,rfl⟩:=jh hl;rfl
 have g29:=PySem.W.mg_of X G u29.1
 obtain⟨d30,F30⟩:=u30.2.get
 have k30:=F30.kp
 have b30:=F30.binds (ps:=["taste", "ones", "others"]) λ_ _ _ _ _ _ us hl=>by obtain⟨_,_,_,rfl⟩:=jh hl;rfl
 have g30:=PySem.W.mg_of X G u30.1
 obtain⟨d31,F31⟩:=u31.2.get
 have k31:=F31.kp
 have b31:=F31.binds (ps:=["taste", "one", "other"]) λ_ _ _ _ _ _ us hl=>by obtain⟨_,_,_,rfl⟩:=jh hl;rfl
 have g31:=PySem.W.mg_of X G u31.1
 obtain⟨d32,F32⟩:=u32.2.get
 have k32:=F32.kp
 have b32:=F32.binds (ps:=["taste", "one", "other"]) λ_ _ _ _ _ _ us hl=>by obtain⟨_,_,_,rfl⟩:=jh hl;rfl
 have g32:=PySem.W.mg_of X G u32.1
 obtain⟨d33,F33⟩:=u33.2.get
 have k33:=F33.kp
 have b33:=F33.binds (ps:=["taste", "one", "other"]) λ_ _ _ _ _ _ us hl=>by obtain⟨_,_,_,rfl⟩:=jh hl;rfl
 have g33:=PySem.W.mg_of X G u33.1
 obtain⟨d34,F34⟩:=u34.2.get
 have k34:=F34.kp
 have b34:=F34.binds (ps:=["pattern", "taste", "text"]) λ_ _ _ _ _ _ us hl=>by obtain⟨_,_,_,rfl⟩:=jh hl;rfl
 have g34:=PySem.W.mg_of X G u34.1
 obtain⟨d35,F35⟩:=u35.2.get
 have k35:=F35.kp
 have b35:=F35.binds (ps:=["cell"]) λ_ _ _ _ _ _ us hl=>by obtain⟨_,rfl⟩:=mo hl;rfl
 have g35:=PySem.W.mg_of X G u35.1
 obtain⟨d36,F36⟩:=u36.2.get
 have k36:=F36.kp
 have b36:=F36.binds (ps:=["pool", "base"]) λ_ _ _ _ _ _ us hl=>by obtain⟨_,_,rfl⟩:=lv hl;rfl
 have g36:=PySem.W.mg_of X G u36.1
 obtain⟨d37,F37⟩:=u37.2.get
 have k37:=F37.kp
 have b37:=F37.binds (ps:=["pool", "some"]) λ_ _ _ _ _ _ us hl=>by obtain⟨_,_,rfl⟩:=lv hl;rfl
 have g37:=PySem.W.mg_of X G u37.1
 obtain⟨d38,F38⟩:=u38.2.get
 have k38:=F38.kp
 have b38:=F38.binds (ps:=["pool"]) λ_ _ _ _ _ _ us hl=>by obtain⟨_,rfl⟩:=mo hl;rfl
 have g38:=PySem.W.mg_of X G u38.1
 obtain⟨d39,F39⟩:=u39.2.get
 have k39:=F39.kp
 have b39:=F39.binds (ps:=["asked"]) λ_ _ _ _ _ _ us hl=>by obtain⟨_,rfl⟩:=mo hl;rfl
 have g39:=PySem.W.mg_of X G u39.1
 have x0:=PySem.W.mg_of X G m0
 have x1:=PySem.W.mg_of X G m1
 have x2:=PySem.W.mg_of X G m2
 have x3:=PySem.W.mg_of X G m3
 have x4:=PySem.W.mg_of X G m4
 have x5:=PySem.W.mg_of X G m5
 have x6:=PySem.W.mg_of X G m6
 have x7:=PySem.W.mg_of X G m7
 have x8:=PySem.W.mg_of X G m8
 have x9:=PySem.W.mg_of X G m9
 have x10:=PySem.W.mg_of X G m10
 have x11:=PySem.W.mg_of X G m11
 obtain⟨_,_,kV,dc,pm,an,cd,ct,_,lL,qL,kL⟩:=u40.2
 have F40:=Ci lL qL kL
 refine⟨PySem.W.fnOf "law" "law" (kx vA) (gO vA) (aL vA) .none kV dc pm an cd ct,λs v=> .of_eq rfl,λbase _ _=> ?_⟩
 obtain⟨cl,nC,hmk,hfn⟩:=wM zc
 have n1:=nC "signs" (by simp)
 have n2:=nC "makes" (by simp)
 have n3:=nC "parts" (by simp)
 have n4:=nC "table" (by simp)
 obtain⟨clB,nB,hmkB,hfnB⟩:=wM zcB
 have nl:=nB "left" (by simp)
 obtain⟨clD,nD,hmkD,hfnD⟩:=wM zcD
 have nd1:=nD "counts" (by simp)
 have nd2:=nD "guide" (by simp)
 have nd3:=nD "at" (by simp)
 obtain⟨xqA,xg,xuA,clA⟩:=Cn (mg:=mg) zeA
 obtain⟨xqM,_,xuM,clM⟩:=Cn (mg:=mg) zeM
 have hV:=PySem.W.mg_none_of X G zv
 have tas:=Gz X G zt
 have mk:Mk K cC f5:=⟨hmk.1,u5.1,hfn f5 (by simp),hmk.2⟩
 have mkB:Mk K cB f12:=⟨hmkB.1,u12.1,hfnB f12 (by simp),hmkB.2⟩
 have mkD:Mk K cD f14:=⟨hmkD.1,u14.1,hfnD f14 (by simp),hmkD.2⟩
 have m6:ir K cC "total" f6:=⟨u6.1,hfn f6 (by simp),k6⟩
 have m7:ir K cC "count_from" f7:=⟨u7.1,hfn f7 (by simp),k7⟩
 have m8:ir K cC "count_row" f8:=⟨u8.1,hfn f8 (by simp),k8⟩
 have m9:ir K cC "count_pick" f9:=⟨u9.1,hfn f9 (by simp),k9⟩
 have m10:ir K cC "count_again" f10:=⟨u10.1,hfn f10 (by simp),k10⟩
 have m11:ir K cC "ends_of" f11:=⟨u11.1,hfn f11 (by simp),k11⟩
 have m13:ir K cB "choose" f13:=⟨u13.1,hfnB f13 (by simp),k13⟩
 have m15:ir K cD "whole_tree" f15:=⟨u15.1,hfnD f15 (by simp),k15⟩
 have m16:ir K cD "size" f16:=⟨u16.1,hfnD f16 (by simp),k16⟩
 have m17:ir K cD "onward_ahead" f17:=⟨u17.1,hfnD f17 (by simp),k17⟩
 have m18:ir K cD "make_tree" f18:=⟨u18.1,hfnD f18 (by simp),k18⟩
 have m19:ir K cD "make_row" f19:=⟨u19.1,hfnD f19 (by simp),k19⟩
 have m20:ir K cD "make_pick" f20:=⟨u20.1,hfnD f20 (by simp),k20⟩
 have m21:ir K cD "make_turns" f21:=⟨u21.1,hfnD f21 (by simp),k21⟩
 have C1:cE l.prog w K mg base 1 "inner_patterns" f1 _ ["pattern"] oK:=⟨Bt F1 B,b1,k1,g1⟩
 have C2:cE l.prog w K mg base 2 "makes_of" f2 _ ["pattern"] oI:=⟨Br F2 B C1,b2,k2,g2⟩
 have C3:cE l.prog w K mg base 3 "parts_of" f3 _ ["pattern"] nc:=⟨we F3 B C1 C2,b3,k3,g3⟩
 have C4:cE l.prog w K mg base 1 "add_ways" f4 _ ["ways", "more", "times"] ua:=⟨HI F4 B,b4,k4,g4⟩
 have M8:er l.prog w K mg base cC 2 "count_row" f8 _ ["self", "number", "at"] (zU cC Gu λ_=>true):=⟨HF cl n1 n2 n3 n4 F8 B C4,b8,cl,m8⟩
 have M9:er l.prog w K mg base cC 2 "count_pick" f9 _ ["self", "number", "at"] (zU cC Ah λ_=>true):=⟨En cl n1 n2 n3 n4 F9 B C4,b9,cl,m9⟩
 have M10:er l.prog w K mg base cC 2 "count_again" f10 _ ["self", "number", "at"] (zU cC yO IT):=⟨Bz cl n1 n2 n3 n4 F10 B C4,b10,cl,m10⟩
 have M7:er l.prog w K mg base cC 3 "count_from" f7 _ ["self", "number", "at"] (zU cC yO λ_=>true):=⟨Et cl n1 n2 n3 n4 F7 B M9 M10 M8,b7,cl,m7⟩
 have oki:ic l.prog w K mg base 4 f5 _ ["self", "pattern", "text"] (vS cC):=Es cl n1 n2 n3 n4 F5 B C2 C3 M7
 have M6:er l.prog w K mg base cC 1 "total" f6 _ ["self"] (sj cC):=⟨Bk cl n1 n4 F6 B,b6,cl,m6⟩
 have M11:er l.prog w K mg base cC 1 "ends_of" f11 _ ["self", "number", "at"] (nh cC):=⟨Eu cl n4 F11 B,b11,cl,m11⟩
 have M13:er l.prog w K mg base cB 1 "choose" f13 _ ["self", "sizes"] (jR cB):=⟨ze clB nl F13 B,b13,clB,m13⟩
 have M16:er l.prog w K mg base cD 2 "size" f16 _ ["self", "number", "at", "onward"] (kf cD cC cB):=⟨Bo clD nd1 F16 B M11,b16,clD,m16⟩
 have M17:er l.prog w K mg base cD 3 "onward_ahead" f17 _ ["self", "number", "places", "onward"] (ma cD cC cB):=⟨By clD nd1 F17 B M16,b17,clD,m17⟩
 have oT:=pH (P:=l.prog) (w:=w) (base:=base) x0 ⟨cl,n1⟩ ⟨cl,n2⟩ ⟨cl,n3⟩ ⟨clD,nd1⟩ ⟨clD,nd2⟩ ⟨clD,nd3⟩ B M11 M16 M17 M13 F18 b18 m18 F19 b19 m19 F20 b20 m20 F21 b21 m21 5
 have M18:er l.prog w K mg base cD 13 "make_tree" f18 _ ["self", "number", "onward"] (l8 cD cC cB 5):=⟨oT,b18,clD,m18⟩
 have M15:er l.prog w K mg base cD 14 "whole_tree" f15 _ ["self"] (GI cD cC cB 5):=⟨y8 ⟨cl,n1⟩ ⟨clD,nd1⟩ F15 B M18,b15,clD,m15⟩
 have CTL:jC l.prog w K mg base cM 15 "trees" f26 _ ["pattern", "text"] (GJ 5):=⟨y9 (by decide) x1 xqM x8 F26 B ⟨mk,oki,b5,x9⟩ ⟨mkB,Bx clB nl F12 B,b12,x10⟩ ⟨mkD,Bv clD nd1 nd2 nd3 F14 B,b14,x11⟩ M6 M15,b26,k26,g26⟩
 have CTA:jC l.prog w K mg base cA 1 "trees" f26 _ ["pattern", "text"] ub:=⟨Bp,b26,k26,g26⟩
 have CIT:cE l.prog w K mg base 1 "inner_trees" f22 _ ["tree"] vR:=⟨Er F22 B,b22,k22,g22⟩
 have CWn:cE l.prog w K mg base 2 "trees_within" f23 _ ["tree"] l6:=⟨y7 F23 B CIT,b23,k23,g23⟩
 have CTO:cE l.prog w K mg base 3 "text_of" f24 _ ["tree"] l7:=⟨za F24 B CWn,b24,k24,g24⟩
 have CPO:cE l.prog w K mg base 3 "price_of" f25 _ ["tree"] kg:=⟨wd F25 B CWn,b25,k25,g25⟩
 have CCh:cE l.prog w K mg base 1 "check_taste" f27 _ ["thing"] oN:=⟨Bw tas F27 B,b27,k27,g27⟩
 have CCB:jC l.prog w K mg base cA 1 "check_taste" f27 _ ["thing"] l9:=⟨zg tas xqA x7 F27 B,b27,k27,g27⟩
 have CF:cE l.prog w K mg base 1 "first_unlike" f28 _ ["ones", "others"] oM:=⟨Bu F28 B,b28,k28,g28⟩
 have CAg:cE l.prog w K mg base 1 "is_again_ahead" f30 _ ["taste", "ones", "others"] yU:=⟨ml λ_ _ _ h=>h,b30,k30,g30⟩
 have CLn:cE l.prog w K mg base 1 "is_length_ahead" f31 _ ["taste", "one", "other"] yU:=⟨ml λ_ _ _ h=>h,b31,k31,g31⟩
 have oU:=rc (P:=l.prog) (w:=w) (base:=base) F32 F29 B b32 k32 g32 b29 k29 g29 CF CTO CPO CLn CAg 4
 have CU:cE l.prog w K mg base 11 "is_unlike_ahead" f32 _ ["taste", "one", "other"] (ot 4):=⟨oU,b32,k32,g32⟩
 have CU2:cE l.prog w K mg base 15 "is_unlike_ahead" f32 _ ["taste", "one", "other"] (ot 4):=⟨oU.mono (by decide),b32,k32,g32⟩
 have CIs:cE l.prog w K mg base 17 "is_ahead" f33 _ ["taste", "one", "other"] GK:=⟨(KA (k:=11) (by decide) F33 B CCh CU).mono (by decide),b33,k33,g33⟩
 have CIB:jC l.prog w K mg base cA 12 "is_ahead" f33 _ ["taste", "one", "other"] Aw:=⟨HH (k:=11) (by decide) F33 B CCB CU,b33,k33,g33⟩
 have CIM:jC l.prog w K mg base cM 1 "is_ahead" f33 _ ["taste", "one", "other"] ub:=⟨Bp,b33,k33,g33⟩
 have CTB:jC l.prog w K mg base cA 12 "told" f34 _ ["pattern", "taste", "text"] so:=⟨Bm (k:=11) (by decide) F34 B CCB CTA CU,b34,k34,g34⟩
 have CTG:jC l.prog w K mg base cM 16 "told" f34 _ ["pattern", "taste", "text"] sk:=⟨Bl (k:=15) (by decide) F34 B CCh CTL CU2,b34,k34,g34⟩
 have CWd:cE l.prog w K mg base 17 "_law_word" f39 _ ["asked"] Av:=⟨Kz ((Bi (k:=12) (by decide) x2 x3 x4 x5 x6 x7 x8 hV xqA xg xuA clA F39 B CIB CTB).mono (by decide)) (Bh (k:=16) (by decide) x2 x3 x4 x5 x6 x7 x8 hV xqM xg xuM clM F39 B CIM CTG),b39,k39,g39⟩
 have CPl:cE l.prog w K mg base 1 "_law_pool" f35 _ ["cell"] vQ:=⟨Em F35 B,b35,k35,g35⟩
 have CNx:cE l.prog w K mg base 1 "_law_next" f36 _ ["pool", "base"] pB:=⟨Eo F36 B,b36,k36,g36⟩
 have CPk:cE l.prog w K mg base 2 "_law_pick" f37 _ ["pool", "some"] oJ:=⟨Bs F37 B CNx,b37,k37,g37⟩
 have CTh:cE l.prog w K mg base 3 "_law_thing" f38 _ ["pool"] sr:=⟨Bn F38 B CNx CPk,b38,k38,g38⟩
 exact HG (k:=17) (by decide) F40 B CPl CNx CPk CTh CWd CIs
theorem LB{K:PySem.W.Frag}{H:Hp}{a:Addr}{xs:List V}(h:SqL K H a xs)(o:FB H):FzL K H a xs:=by
 rcases h with(h|⟨ob,h⟩)|h
 ·rcases o a with e|⟨ob,ys,e⟩<;>(rw[e]at h;cases h)
 ·exact .inl ⟨ob,h⟩
 ·exact .inr h
theorem walk{l:PySem.W.OpenLaw}{q:aF}{loose:List Str}{XP:(Str->Option ae)->Heap->Prop}{YP:aS->Heap->Prop}{d:DefRec}{K:Params->PySem.W.Frag}(hn:l.most=some 63)(hdf:d.params.defaults=[])
  (hY:∀(w:aS) (h:Heap),YP w h->(K w.params).In h)
  (F:∀(w:aS) (mg:Str->Option ae) (fa:Addr) (h:Heap),(K w.params).In h->h.Ns ba mg->mg d.name=some (.ref fa)->
   ∃fd:aR,(∀(s:af) (u:ae),BindsTo s fd ⟨[u],[]⟩ [("script",u)])/\∀base:Heap,(K w.params).In base->base.Ns ba mg->FnOk l.prog w (K w.params) mg base FD 18 fa fd ["script"] (FJ (K w.params) xE)):
  PySem.W.WalkO q loose XP YP l.row.toRowW d [] (λf vs=>PySem.call f vs):=
 L2.walk_of (n:=63) (k:=18) (x:= "script") (CX:=λ_=>FD) (sp:=λw=>FJ (K w.params) xE) hn (by decide) hdf ⟨rfl,by decide,by decide⟩ hY F
  (λ_ H a ns hl ho hS=>⟨[.ro (ns.map PV.int)],λ_=>none,λp _=>p= .bl true,.cons ⟨a,_,rfl,LB hS ho,yA ns⟩ .nil,λ_ _ z=>(nomatch z),⟨ns,rfl,hl,λ_=>rfl⟩,λp G v H' e d _ _=>by subst e;exact d⟩) λ_ _ _ _ _ z=>z
end T21
open PySem PySem.W PyProof.Rows
set_option maxRecDepth 100000 in
theorem PySem.Challenge.cw_tastegrove_k21_tastes_and_none_holds : PySem.Challenge.rw_tastegrove_k21_tastes_and_none.Holds := by
 refine T21.tp ⟨⟨T21.h1,T21.h2⟩,?_⟩
 k_fill
 refine T21.walk (l:=PySem.Challenge.rw_tastegrove_k21_tastes_and_none) rfl rfl (fun w h Y=>PySem.W.kIn_of Y) ?F
 case F=>
  intro w mg fa h KX G hmg
  refine' T21.all_mk KX G hmg ?zv ?u1 ?u2 ?u3 ?u4 ?u5 ?u6 ?u7 ?u8 ?u9 ?u10 ?u11 ?u12 ?u13 ?u14 ?u15 ?u16 ?u17 ?u18 ?u19 ?u20 ?u21 ?u22 ?u23 ?u24 ?u25 ?u26 ?u27 ?u28 ?u29 ?u30 ?u31 ?u32 ?u33 ?u34 ?u35 ?u36 ?u37 ?u38 ?u39 ?u40 ?m0 ?m1 ?m2 ?m3 ?m4 ?m5 ?m6 ?m7 ?m8 ?m9 ?m10 ?m11 ?zc ?zcB ?zcD ?zeA ?zeM ?zt ?zb
  (case zv=>k_is)
  (case m0=>k_is)
  (case m1=>k_is)
  (case m2=>k_is)
  (case m3=>k_is)
  (case m4=>k_is)
  (case m5=>k_is)
  (case m6=>k_is)
  (case m7=>k_is)
  (case m8=>k_is)
  (case m9=>k_is)
  (case m10=>k_is)
  (case m11=>k_is)
  case u1=>exact⟨by k_is,_,_,_,_,_,_,_,_,_,by k_is,by k_is,by k_is⟩
  case u2=>exact⟨by k_is,_,_,_,_,_,_,_,_,_,by k_is,by k_is,by k_is⟩
  case u3=>exact⟨by k_is,_,_,_,_,_,_,_,_,_,by k_is,by k_is,by k_is⟩
  case u4=>exact⟨by k_is,_,_,_,_,_,_,_,_,_,by k_is,by k_is,by k_is⟩
  case u5=>exact⟨by k_is,_,_,_,_,_,_,_,_,_,by k_is,by k_is,by k_is⟩
  case u6=>exact⟨by k_is,_,_,_,_,_,_,_,_,_,by k_is,by k_is,by k_is⟩
  case u7=>exact⟨by k_is,_,_,_,_,_,_,_,_,_,by k_is,by k_is,by k_is⟩
  case u8=>exact⟨by k_is,_,_,_,_,_,_,_,_,_,by k_is,by k_is,by k_is⟩
  case u9=>exact⟨by k_is,_,_,_,_,_,_,_,_,_,by k_is,by k_is,by k_is⟩
  case u10=>exact⟨by k_is,_,_,_,_,_,_,_,_,_,by k_is,by k_is,by k_is⟩
  case u11=>exact⟨by k_is,_,_,_,_,_,_,_,_,_,by k_is,by k_is,by k_is⟩
  case u12=>exact⟨by k_is,_,_,_,_,_,_,_,_,_,by k_is,by k_is,by k_is⟩
  case u13=>exact⟨by k_is,_,_,_,_,_,_,_,_,_,by k_is,by k_is,by k_is⟩
  case u14=>exact⟨by k_is,_,_,_,_,_,_,_,_,_,by k_is,by k_is,by k_is⟩
  case u15=>exact⟨by k_is,_,_,_,_,_,_,_,_,_,by k_is,by k_is,by k_is⟩
  case u16=>exact⟨by k_is,_,_,_,_,_,_,_,_,_,by k_is,by k_is,by k_is⟩
  case u17=>exact⟨by k_is,_,_,_,_,_,_,_,_,_,by k_is,by k_is,by k_is⟩
  case u18=>exact⟨by k_is,_,_,_,_,_,_,_,_,_,by k_is,by k_is,by k_is⟩
  case u19=>exact⟨by k_is,_,_,_,_,_,_,_,_,_,by k_is,by k_is,by k_is⟩
  case u20=>exact⟨by k_is,_,_,_,_,_,_,_,_,_,by k_is,by k_is,by k_is⟩
  case u21=>exact⟨by k_is,_,_,_,_,_,_,_,_,_,by k_is,by k_is,by k_is⟩
  case u22=>exact⟨by k_is,_,_,_,_,_,_,_,_,_,by k_is,by k_is,by k_is⟩
  case u23=>exact⟨by k_is,_,_,_,_,_,_,_,_,_,by k_is,by k_is,by k_is⟩
  case u24=>exact⟨by k_is,_,_,_,_,_,_,_,_,_,by k_is,by k_is,by k_is⟩
  case u25=>exact⟨by k_is,_,_,_,_,_,_,_,_,_,by k_is,by k_is,by k_is⟩
  case u26=>exact⟨by k_is,_,_,_,_,_,_,_,_,_,by k_is,by k_is,by k_is⟩
  case u27=>exact⟨by k_is,_,_,_,_,_,_,_,_,_,by k_is,by k_is,by k_is⟩
  case u28=>exact⟨by k_is,_,_,_,_,_,_,_,_,_,by k_is,by k_is,by k_is⟩
  case u29=>exact⟨by k_is,_,_,_,_,_,_,_,_,_,by k_is,by k_is,by k_is⟩
  case u30=>exact⟨by k_is,_,_,_,_,_,_,_,_,_,by k_is,by k_is,by k_is⟩
  case u31=>exact⟨by k_is,_,_,_,_,_,_,_,_,_,by k_is,by k_is,by k_is⟩
  case u32=>exact⟨by k_is,_,_,_,_,_,_,_,_,_,by k_is,by k_is,by k_is⟩
  case u33=>exact⟨by k_is,_,_,_,_,_,_,_,_,_,by k_is,by k_is,by k_is⟩
  case u34=>exact⟨by k_is,_,_,_,_,_,_,_,_,_,by k_is,by k_is,by k_is⟩
  case u35=>exact⟨by k_is,_,_,_,_,_,_,_,_,_,by k_is,by k_is,by k_is⟩
  case u36=>exact⟨by k_is,_,_,_,_,_,_,_,_,_,by k_is,by k_is,by k_is⟩
  case u37=>exact⟨by k_is,_,_,_,_,_,_,_,_,_,by k_is,by k_is,by k_is⟩
  case u38=>exact⟨by k_is,_,_,_,_,_,_,_,_,_,by k_is,by k_is,by k_is⟩
  case u39=>exact⟨by k_is,_,_,_,_,_,_,_,_,_,by k_is,by k_is,by k_is⟩
  case u40=>exact⟨by k_is,_,_,_,_,_,_,_,_,_,by k_is,by k_is,by k_is⟩
  (case zc=>kernel_rfl)
  (case zcB=>kernel_rfl)
  (case zcD=>kernel_rfl)
  (case zeA=>kernel_rfl)
  (case zeM=>kernel_rfl)
  (case zt=>kernel_rfl)
  (case zb=>kernel_rfl)
